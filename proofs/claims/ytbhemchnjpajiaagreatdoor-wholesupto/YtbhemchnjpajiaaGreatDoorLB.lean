/- Several texts in one: QBody, QRd5, QRd6. -/
import Derived.Test.YtbhemchnjpajiaaGreatDoorLA
set_option linter.unusedVariables false
set_option maxRecDepth 100000
set_option maxHeartbeats 4000000
namespace Go.Proofs.YtbhemchnjpajiaaGreatDoor
open Go.RowKit Go.Proofs.Tryz RD
theorem abR(S nm:Nat)(lk:Bool)(s:ByteArray)(w:World) :
  Calls prog 97 #[.pointer (some ⟨S,8,none⟩),.agg #[.bool lk,.int .i64 0,.int .i64 nm],.string s] w fun e w'=>e=.returned (.tuple #[.string s,.nilIface])/\Below w.heap.size w w':=by
 go_enter func97,ntmps97
 go_wp2_with fail
 go_ret2
 exact⟨rfl,(Below.refl _ w).alloc (Nat.le_refl _) _⟩
def qy(f:RD.Fr)(lk:Bool)(n:Nat):Prop:=0<=f.size/\(f.size<((f.text.length+n:Nat):Int)\/(lk=true/\((f.text.length+n:Nat):Int)≠f.size))
def Et(x:Fx)(S:Nat)(ss:List Value)(f:RD.Fr)(v:Value)(s:aj)(lk:Bool)(w:World)(e:Ending)(w':World):Prop :=
 (qy f lk s.length/\e=.returned (aW x.f)/\Below w.heap.size w w') \/
 (¬qy f lk s.length/\e=.returned .nilIface/\∃ss' v' Bc,aB w' S 146 ss'/\ss'.length=34/\(∀j,j<8\/30<j\/(18<=j/\j<29)->ss'[j]?=ss[j]?)/\jG (MS.grown f f s) ss' v' Bc w' /\
  Only (fun k=>k=S\/v.ownBlock=some k) w w'/\(v'.ownBlock=v.ownBlock\/∃k,v'.ownBlock=some k/\w.heap.size<=k))
theorem abS{d t p W8 s:aj}{n:Nat}(h:d++t=p++W8)(hp:p=[]\/n<=W8.length):∃p',d++(t++s)=p'++ni n (W8++s)/\(p'=[]\/n<=(ni n (W8++s)).length):=by
 unfold ni
 refine⟨p++(W8++s).take ((W8++s).length-n),?_,?_⟩
 ·rw[List.append_assoc,List.take_append_drop,<- List.append_assoc,h,List.append_assoc]
 ·by_cases hn:n<=(W8++s).length
  ·right
   rw[List.length_drop]
   omega
  ·left
   rw[List.length_append]at hn
   rw[show(W8++s).length-n=0 by rw[List.length_append];omega,List.take_zero,List.append_nil]
   rcases hp with hp|hp
   ·exact hp
   ·omega
theorem abT(n:Nat)(l:aj):(ni n l).length<=n:=by unfold ni;rw[List.length_drop];omega
theorem abU(a b:aj):ah (a++b)=ah a++ah b:=(kL a b).symm
theorem abV(x:Fx)(S:Nat)(ss:List Value)(f:RD.Fr)(v:Value)(W8 s:aj)(lk:Bool)(w:World)(hB:aB w S 146 ss)(hl:ss.length=34)(hf:jG f ss v W8 w)(hs:s.length<=1024)(ht:f.text.length<=1099511627776)(hV:bI x w) :
  Calls prog 98 #[.pointer (some ⟨S,8,none⟩),.string (ah s),.bool lk] w (Et x S ss f v s lk w):=by
 obtain⟨n,hn1,hn2,hn3⟩:=hf.size
 have c8:=hB.cell hf.summed
 have c9:=hB.cell hf.sized
 have c10:=hB.cell hn1
 have c11:=hB.cell hf.len
 have fz:=hB.free
 have cF:=hV.cF
 have hz:=aQ s
 obtain⟨T,hT⟩:∃T,T=f.text.length:=⟨_,rfl⟩
 obtain⟨L,hL⟩:∃L,L=T+s.length:=⟨_,rfl⟩
 rw[<- hT]at c11
 have hLi:(T:Int)+(s.length:Int)=(L:Int):=by omega
 have hLb:L<=2199023255552:=by omega
 obtain⟨zd,hzd⟩:∃zd,zd=decide (0<=f.size):=⟨_,rfl⟩
 rw[<- hzd]at c9
 have aF:Only (·=S) w (w.setCell ⟨S,11,none⟩ (.int .i64 (L:Int))):=(Only.refl (·=S) w).setCell ⟨S,11,none⟩ _ (fun _=>rfl)
 have hB1:=hB.put 11 (.int .i64 (L:Int))
 have hf0:=aA hf
 replace hL:=aA hL
 replace hT:=aA hT
 have hlen1:(ss.set 11 (.int .i64 (L:Int))).length=34:=by rw[List.length_set];exact hl
 have hV1:bI x w:=hV
 have hR1:aT 0 (w.setCell ⟨S,11,none⟩ (.int .i64 (L:Int))) v W8:=hf.row.only aF (fun k hk e=>hf.ne hB hk e)
 have Qn:=XI 0 S 29 146 (ss.set 11 (.int .i64 (L:Int))) f.window v W8 s (w.setCell ⟨S,11,none⟩ (.int .i64 (L:Int))) hB1 (by rw[aN (by omega)];exact hf.win) (by rw[aN (by omega)];exact hf.bytes) hR1 hf.small.1 (by omega) hf.small.2 (Nat.zero_le _) (by decide)
 by_cases hov:qy f lk s.length
 ·have h9:zd=true:=by rw[hzd];simpa using hov.1
  have hn:=hn2 hov.1
  replace hzd:=aA hzd
  rw[h9]at c9
  have Bd:=aA hov
  have hcond:(n:Int)<(L:Int)\/(¬(n:Int)<(L:Int)/\lk=true/\((L:Int) != (n:Int))=true):=by
   have h1:=hov.2
   rw[<- hT.out,show((T+s.length:Nat):Int)=(L:Int) by omega,<- hn]at h1
   rcases h1 with h1|⟨h1,h2⟩
   ·exact .inl h1
   ·by_cases h3:(n:Int)<(L:Int)
    ·exact .inl h3
    ·exact .inr ⟨h3,h1,by simpa using h2⟩
  clear Qn hR1 aF hB1 hlen1 hn2 hf
  go_enter func98,ntmps98
  replace hn:=aA hn
  rcases hcond with h1|⟨h1,rfl,h2⟩
  ·go_wp2_with fail
   go_ret
   exact .inl ⟨Bd.out,rfl,d_ w⟩
  ·go_wp2_with fail
   go_ret
   exact .inl ⟨Bd.out,rfl,d_ w⟩
 ·have Bd:=aA hov
  have hcond:zd=false\/(zd=true/\¬(n:Int)<(L:Int)/\(lk=false\/(lk=true/\((L:Int) != (n:Int))=false))):=by
   by_cases h0:0<=f.size
   ·have hn:=hn2 h0
    refine .inr ⟨by rw[hzd];simpa using h0,?_⟩
    have h1:¬(f.size<((f.text.length+s.length:Nat):Int)\/(lk=true/\((f.text.length+s.length:Nat):Int)≠f.size)):=fun e=>hov ⟨h0,e⟩
    rw[<- hT.out,show((T+s.length:Nat):Int)=(L:Int) by omega,<- hn]at h1
    refine⟨fun e=>h1 (.inl e),?_⟩
    cases hlk:lk with
    | false=>exact .inl rfl
    | true =>
     refine .inr ⟨rfl,?_⟩
     have:(L:Int)=(n:Int):=by
      by_cases e:(L:Int)=(n:Int)
      ·exact e
      ·exact absurd (.inr ⟨hlk,e⟩) h1
     simpa using this
   ·left
    rw[hzd]
    simpa using h0
  replace hzd:=aA hzd
  clear hov hn2
  obtain⟨sm,hsm⟩:∃sm,sm=f.summed:=⟨_,rfl⟩
  rw[<- hsm]at c8
  have Eu:=hf.sum
  have h8:=hf.summed
  rw[<- hsm]at Eu h8
  replace hsm:=aA hsm
  replace Eu:=aA Eu
  replace hf:=aA hf
  have hwin:=hf0.out.win
  have hsz0:=hn1
  -- what is known behind the ai7 turn
  have hfin:∀(v2:Value)(w2:World),aB w2 S 146 ((ss.set 11 (.int .i64 (L:Int))).set 30 v2)->aT 0 w2 v2 (ni f.window (W8++s))->∀(iP:List Value)(w3:World),aB w3 S 146 iP->iP.length=34->(∀j,j<12\/18<=j->iP[j]?=((ss.set 11 (.int .i64 (L:Int))).set 30 v2)[j]?)->(f.summed=true->∀j,j<6->iP[12+j]?=(iZ (ah (f.text++s)))[j]?)->Only (·=S) w2 w3 ->
    (∀j,j<8\/30<j\/(18<=j/\j<29)->iP[j]?=ss[j]?)/\jG (MS.grown f f s) iP v2 (ni f.window (W8++s)) w3:=by
   intro v2 w2 b1 b2 iP w3 b3 b4 b5 b6 b7
   have hl2:(ss.set 11 (.int .i64 (L:Int))).length=34:=hlen1
   have hne:∀j,j≠11->j≠30->(j<12\/18<=j)->iP[j]?=ss[j]?:=fun j h1 h2 h3=>by rw[b5 j h3,aN (by omega),aN (by omega)]
   refine⟨fun j hj=>hne j (by omega) (by omega) (by omega),?_⟩
   have F:=hf0.out
   obtain⟨n',g1,g2,g3⟩:=F.size
   refine⟨by rw[hne 8 (by omega) (by omega) (by omega)];exact F.summed,by rw[hne 9 (by omega) (by omega) (by omega)];exact F.sized,⟨n',by rw[hne 10 (by omega) (by omega) (by omega)];exact g1,g2,g3⟩,?_,b6,by rw[hne 29 (by omega) (by omega) (by omega)];exact F.win,?_,b2.only b7 (fun k hk e=>(b2.blk hk).2.ne b1 (by decide) e),?_,?_,F.small.2⟩
   ·rw[b5 11 (by omega),aN (by omega),lq hl (by omega)]
    show some (Value.int .i64 (L:Int))=some (.int .i64 ((f.text++s).length:Nat))
    rw[List.length_append,<- hT.out,<- hL.out]
   ·rw[b5 30 (by omega),lq hl2 (by omega)]
   ·obtain⟨p,h1,h2⟩:=F.tail
    exact abS h1 h2
   ·have:=abT f.window (W8++s)
    have:=F.small.2.2
    omega
  replace hfin:=aA hfin
  have hgo:∀(lk':Bool),lk'=lk->bodyPost prog Tryz.f98 (Et x S ss f v s lk w)=bodyPost prog Tryz.f98 (Et x S ss f v s lk w):=fun _ _=>rfl
  clear hgo
  go_enter func98,ntmps98
  rcases hcond with rfl|⟨rfl,h1,rfl|⟨rfl,h2⟩⟩
  all_goals
   go_wp2_with fail
   refine Qn.mono ?_
   rintro e w2 ⟨rfl,v2,hR2,hB2,hO2,iD⟩
   have d8:=hB2.cell (j:=8) (v:=.bool sm) (by rw[aN (by omega),aN (by omega)];exact h8)
   have Qo:Only (fun k=>k=S\/v.ownBlock=some k) w w2:=(aF.weaken (fun _ _ e=>.inl e)).trans hO2
   have hat:v2.ownBlock=v.ownBlock\/∃k,v2.ownBlock=some k/\w.heap.size<=k:=by
    rcases iD with e|⟨k,e1,e2⟩
    ·exact .inl e
    ·exact .inr ⟨k,e1,by simpa using e2⟩
   cases sm with
   | false =>
    go_wp2_with fail
    go_ret
    have hns:¬f.summed=true:=by rw[<- hsm.out];simp
    obtain⟨z1,z2⟩:=hfin.out v2 w2 hB2 hR2 _ w2 hB2 (by rw[List.length_set];exact hlen1) (fun _ _=>rfl) (fun e=>absurd e hns) (Only.refl _ _)
    exact .inr ⟨Bd.out,rfl,_,v2,_,hB2,by rw[List.length_set];exact hlen1,z1,z2,Qo,hat⟩
   | true =>
    have hl2:((ss.set 11 (.int .i64 (L:Int))).set 30 v2).length=34:=by rw[List.length_set];exact hlen1
    obtain⟨q1,q2⟩:=parted (cs:=iZ (ah f.text)) hl2 (Jf _) (fun j hj=>by rw[aN (by omega),aN (by omega)];exact Eu.out rfl j hj)
    have hadd:=add_any (ah f.text) (ah s) S 146 (((ss.set 11 (.int .i64 (L:Int))).set 30 v2).take 12) (((ss.set 11 (.int .i64 (L:Int))).set 30 v2).drop 18) w2 (by rw[<- q1];exact hB2) (by rw[aQ,aQ];omega)
    rw[q2]at hadd
    replace q1:=aA q1
    replace q2:=aA q2
    go_wp2_with fail
    refine hadd.mono ?_
    rintro e w3 ⟨rfl,hB3,hO3⟩
    go_wp2_with fail
    go_ret
    obtain⟨u1,u2,u3⟩:=abH (cs:=iZ (ah f.text++ah s)) (post:=[]) hl2 (Jf _) _ rfl
    obtain⟨z1,z2⟩:=hfin.out v2 w2 hB2 hR2 _ w3 hB3 u3 u2 (fun _ j hj=>by rw[abU];exact u1 j hj) hO3
    exact .inr ⟨Bd.out,rfl,_,v2,_,hB3,u3,z1,z2,Qo.trans (hO3.weaken (fun _ _ e=>.inl e)),hat⟩
section
attribute [local irreducible] dw
theorem bF.over{x:Fx}{G G' K:Nat->Prop}{c:aC}{m m':MS}{S:Nat}{ss ss':List Value}{v6 sD:Value}{w w':World}(h:bF x G c m S ss v6 w)(hb:aB w' S 146 ss')(hO:Only K w w')(hK:∀k,k<w.heap.size->K k->G k)
  (g1:∀k,G k->k=S\/ss[2]?=some (.map (some k))->G' k) (g2:∀k,G' k->G k\/w.heap.size<=k) (hl:ss'.length=34)
  (k0:∀j,j<3->ss'[j]?=ss[j]?) (k3:ss'[3]?=some (.int .i64 (m'.fr:Nat))) (k4:ss'[4]?=some (.int .i64 (m'.f.blocks:Nat))) (k5:ss'[5]?=some (.int .i64 (m'.nx:Nat))) (k6:ss'[6]?=some sD) (hrow:aT 0 w' sD m'.bg) (hv6:∀k,sD.ownBlock=some k->G' k) (k7:ss'[7]?=some (.int .i64 (m'.lf:Nat)))
  (k31:ss'[31]?=some (.bool m'.lk)) (k32:ss'[32]?=some (.int .i64 (m'.kd:Nat))) (k33:ss'[33]?=some (.int .i64 (m'.nm:Nat))) (h7:m'.nx<7) (hn:m'.nm<=1024/\m'.lf<=1099511627776/\m'.bg.length<=1048576) (he:m'.nx<4->m'.f.blocks=0)
  (hf:4<=m'.nx->∃v W8,jG m'.f ss' v W8 w'/\(∀k,v.ownBlock=some k->G' k/\sD.ownBlock≠some k)/\(m'.nx=6->m'.f.summed=true))
  (hpure:∀k,G' k->k<w'.heap.size/\b_ w' k) (hpk:∀M,ss[2]?=some (.map (some M))->bP w' M (bK w' M)/\(4<=m'.nx->gY w' ss' 8 M (bK w' M) m'.f)):bF x G' c m' S ss' sD w':=by
 obtain⟨v,d1,d2,d3⟩:=h.wX
 obtain⟨M,hM,hM1,-,-⟩:=h.tabs
 have fQ:Only (fun k=>k<w.heap.size/\K k) w w':=⟨hO.os,hO.tape,hO.output,hO.size,fun k hk hn=>hO.block k hk (fun e=>hn ⟨hk,e⟩)⟩
 refine⟨hb,hl,by rw[k0 0 (by omega)];exact h.lim,⟨v,by rw[k0 1 (by omega)];exact d1,d2.only fQ (fun k hk e=>(d3 k hk).1 (hK k e.1 e.2)),fun k hk=>⟨fun e=>?_,(d3 k hk).2.1,(d3 k hk).2.2.only fQ (fun e=>(d3 k hk).1 (hK k e.1 e.2))⟩⟩,⟨M,by rw[k0 2 (by omega)];exact hM,g1 M hM1 (.inr hM),(hpk M hM).1,(hpk M hM).2⟩,hpure,k3,k4,k5,k6,hrow,k7,k31,k32,k33,h7,hn,⟨g1 S h.bW.1 (.inl rfl),hv6⟩,h.vars.only fQ (fun k e=>h.base k (hK k e.1 e.2)),fun k hk=>?_,he,hf⟩
 ·rcases g2 k e with e|e
  ·exact(d3 k hk).1 e
  ·have:=(d3 k hk).2.1;have:=h.blk.lt;omega
 ·rcases g2 k hk with e|e
  ·exact h.base k e
  ·exact Nat.le_trans h.vars.size e
theorem bF.Ji{x:Fx}{G K:Nat->Prop}{c:aC}{m:MS}{S:Nat}{ss ss':List Value}{v6:Value}{w w':World}(h:bF x G c m S ss v6 w)(hO:Only K w w')(hK:∀k,k<w.heap.size->K k->b_ w k/\∀n,¬bP w k n)(hs:4<=m.nx->∀j,18<=j->j<29->ss'[j]?=ss[j]?):∀M,ss[2]?=some (.map (some M))->bP w' M (bK w' M)/\(4<=m.nx->gY w' ss' 8 M (bK w' M) m.f):=by
 intro M hM
 obtain⟨M',hM',hM1,hM2,gK⟩:=h.tabs
 rw[hM]at hM'
 injection hM' with hM'
 injection hM' with hM'
 injection hM' with hM'
 subst hM'
 have fQ:Only (fun k=>k<w.heap.size/\K k) w w':=⟨hO.os,hO.tape,hO.output,hO.size,fun k hk hn=>hO.block k hk (fun e=>hn ⟨hk,e⟩)⟩
 have lS:¬(M<w.heap.size/\K M):=fun e=>(hK M e.1 e.2).2 _ hM2
 have hK3:∀k,k<w.heap.size->(k<w.heap.size/\K k)->b_ w k:=fun k hk e=>(hK k hk e.2).1
 have hN:bK w' M=bK w M:=wB fQ hM2.lt lS
 rw[hN]
 exact⟨hM2.only fQ lS (fun b xs hb e=>(hK3 b hb.lt e).1 xs hb),fun e=>(gK e).carry (hs e) fQ lS hK3⟩
theorem bF.noS{x:Fx}{G:Nat->Prop}{c:aC}{m:MS}{S:Nat}{ss:List Value}{v6:Value}{w:World}(h:bF x G c m S ss v6 w):b_ w S/\∀n,¬bP w S n:=⟨b_.jg h.blk (by decide) (by decide),fun n e=>e.ne h.blk rfl⟩
theorem U8.no{w:World}{k:Nat}(h:U8 w k):b_ w k/\∀n,¬bP w k n:=⟨b_.uy h,fun n e=>h.o_ e⟩
theorem abW(l:aj)(h:l.length<=3):au l<=16777216:=by
 have h1:=pV l
 have h2:256^l.length<=256^3:=Nat.pow_le_pow_right (by omega) h
 omega
theorem abX{b dict:aj}{M:Nat}{ss:List Value}{v:Value}{w:World}(hl:ss.length=34)(hb:b.length=hlen (ak b 0))(hd:dict.length<=256)(hr:aT 0 w v dict) :
  jG (A_ b dict) ((dw ss 8 (qm (decide (ak b 0/8%2=1)) (decide (ak b 0/16%2=1)) (au (b.drop (1+ak b 0/32%2)):Nat) M (64*2^(ak b 0%8)) v)).set 5 (.int .i64 ((4:Nat):Int))) v dict w:=by
 have hin:∀j,j<23->((dw ss 8 (qm (decide (ak b 0/8%2=1)) (decide (ak b 0/16%2=1)) (au (b.drop (1+ak b 0/32%2)):Nat) M (64*2^(ak b 0%8)) v)).set 5 (.int .i64 ((4:Nat):Int)))[8+j]?=(qm (decide (ak b 0/8%2=1)) (decide (ak b 0/16%2=1)) (au (b.drop (1+ak b 0/32%2)):Nat) M (64*2^(ak b 0%8)) v)[j]?:=fun j hj=>by
  rw[aN (by omega)]
  exact t_ _ ss 8 j (by rw[hl];exact(by decide:8+23<=34)) hj
 have hw:=H7 (ak b 0%8) (by omega)
 refine⟨hin 0 (by omega),?_,⟨au (b.drop (1+ak b 0/32%2)),hin 2 (by omega),fun e=>?_,?_⟩,hin 3 (by omega),fun _ j hj=>?_,hin 21 (by omega),hin 22 (by omega),hr,⟨[],by show dict++[]=[]++dict;simp,.inl rfl⟩,⟨by omega,by show 0<64*2^(ak b 0%8);omega,by show 64*2^(ak b 0%8)<=1048576;omega⟩⟩
 ·rw[hin 1 (by omega)]
  show some (Value.bool (decide (ak b 0/16%2=1)))=some (.bool (decide (0<=(if ak b 0/16%2=1 then((au (b.drop (1+ak b 0/32%2)):Nat):Int)else -1))))
  by_cases e:ak b 0/16%2=1
  ·simp[e]
  ·simp[e]
 ·have e':(0:Int)<=(if ak b 0/16%2=1 then((au (b.drop (1+ak b 0/32%2)):Nat):Int)else -1):=e
  show _=(if ak b 0/16%2=1 then((au (b.drop (1+ak b 0/32%2)):Nat):Int)else -1)
  by_cases e2:ak b 0/16%2=1
  ·rw[if_pos e2]
  ·rw[if_neg e2]at e';omega
 ·refine abW _ ?_
  rw[List.length_drop,hb,hlen]
  omega
 ·rw[show 12+j=8+(4+j) by omega,hin (4+j) (by omega)]
  show _=(iZ (ah []))[j]?
  rw[sum_empty]
  rcases(by omega:j=0\/j=1\/j=2\/j=3\/j=4\/j=5)with rfl|rfl|rfl|rfl|rfl|rfl<;>rfl
theorem abY{b dict:aj}{M n:Nat}{ss:List Value}{v:Value}{w:World}(hl:ss.length=34)(hM:bP w M n) :
  gY w ((dw ss 8 (qm (decide (ak b 0/8%2=1)) (decide (ak b 0/16%2=1)) (au (b.drop (1+ak b 0/32%2)):Nat) M (64*2^(ak b 0%8)) v)).set 5 (.int .i64 ((4:Nat):Int))) 8 M n (A_ b dict):=by
 have hin:∀j,j<23->((dw ss 8 (qm (decide (ak b 0/8%2=1)) (decide (ak b 0/16%2=1)) (au (b.drop (1+ak b 0/32%2)):Nat) M (64*2^(ak b 0%8)) v)).set 5 (.int .i64 ((4:Nat):Int)))[8+j]?=(qm (decide (ak b 0/8%2=1)) (decide (ak b 0/16%2=1)) (au (b.drop (1+ak b 0/32%2)):Nat) M (64*2^(ak b 0%8)) v)[j]?:=fun j hj=>by
  rw[aN (by omega)]
  exact t_ _ ss 8 j (by rw[hl];exact(by decide:8+23<=34)) hj
 refine⟨⟨.pointer none,hin 10 (by omega),.inl ⟨rfl,rfl⟩⟩,hin 11 (by omega),hM,fun k hk=>?_,fun k hk e=>?_,⟨1,4,8,rfl,⟨1,4,8,rfl,by omega,by omega,by omega⟩,hin 18 (by omega),hin 19 (by omega),hin 20 (by omega)⟩⟩
 ·rcases(by omega:k=0\/k=1\/k=2)with rfl|rfl|rfl
  ·exact⟨.slice none 0 0,hin 12 (by omega),hin 13 (by omega),.inl ⟨rfl,rfl⟩⟩
  ·exact⟨.slice none 0 0,hin 14 (by omega),hin 15 (by omega),.inl ⟨rfl,rfl⟩⟩
  ·exact⟨.slice none 0 0,hin 16 (by omega),hin 17 (by omega),.inl ⟨rfl,rfl⟩⟩
 ·rcases(by omega:k=0\/k=1\/k=2)with rfl|rfl|rfl<;>cases e
theorem abZ(x:Fx)(G:Nat->Prop)(c:aC)(hc:nU c)(m:MS)(b:aj)(S:Nat)(ss:List Value)(v6:Value)(w:World)(h:bF x G c m S ss v6 w)(h0:m.nx=3)(hb:b.length=hlen (ak b 0)) :
  Calls prog 58 #[.pointer (some ⟨S,0,none⟩),.string (ah b)] w (eY x G c m b S v6 w):=by
 have c5:=h.blk.cell h.nx
 obtain⟨M,hM,hM1,hM2,-⟩:=h.tabs
 have hp:=abO x G c hc m b S M ss v6 w h hM hb
 rw[h0]at c5
 have hu:m.unit c b=match RD.header c b with
  | .ok r=>.ok { m with nx:=4,f:=r.1 } []
  | .err e=>.err e
  | .wants=>.err 0:=by unfold MS.unit;rw[if_neg (by omega),if_neg (by omega),if_neg (by omega),if_pos h0];cases RD.header c b<;>rfl
 have Jj:m.f.blocks=0:=h.early (by omega)
 replace hu:=aA hu
 replace h0:=aA h0
 replace Jj:=aA Jj
 replace hb:=aA hb
 replace hM:=aA hM
 go_enter func58,ntmps58
 go_wp2_with fail
 refine hp.mono ?_
 rintro e w1 (⟨n,hn,rfl,hbl⟩|⟨dict,v,hok,hdl,rfl,hB,hr,hO⟩)
 ·replace hn:=aA hn
  go_wp2_with fail
  go_ret2
  exact eY.bad (n:=n) h (by rw[hu.out,hn.out]) hbl
 ·replace hok:=aA hok
  go_wp2_with fail
  go_ret2
  refine⟨hO.weaken (fun k _ e=>e▸h.bW.1),?_⟩
  rw[hu.out,hok.out]
  refine⟨rfl,fun k=>G k\/v.ownBlock=some k,_,h.over (m':={ m with nx:=4,f:=A_ b dict }) hB hO (fun k _ e=>e▸h.bW.1) (fun k hk _=>.inl hk) (fun k hk=>?_) (by rw[List.length_set,tZ];exact h.len) (fun j hj=>by rw[aN (by omega),kR _ _ _ _ (by omega)]) (by rw[aN (by omega),kR _ _ _ _ (by omega)];exact h.fr) ?_ (lq (by rw[tZ];exact h.len) (by omega)) (by rw[aN (by omega),kR _ _ _ _ (by omega)];exact h.bg) (h.row.only hO (fun k hk e=>h.ne hk e)) (fun k hk=>.inl (h.bW.2 k hk)) (by rw[aN (by omega),kR _ _ _ _ (by omega)];exact h.lf)
   (by rw[aN (by omega),kR _ _ _ _ (by show 31<8\/8+23<=31;omega)];exact h.lk) (by rw[aN (by omega),kR _ _ _ _ (by show 32<8\/8+23<=32;omega)];exact h.kd) (by rw[aN (by omega),kR _ _ _ _ (by show 33<8\/8+23<=33;omega)];exact h.nm) (by show 4<7;omega) h.gZ (fun e=>by have:4<4:=e;omega) (fun _=>⟨v,dict,abX h.len hb.out hdl (hr.base (Nat.zero_le _)),fun k hk=>⟨.inr hk,fun e=>?_⟩,fun e=>by cases e⟩) ?_ ?_,fun k hk=>?_,?_⟩
  ·rcases hk with hk|hk
   ·exact .inl hk
   ·exact .inr (hr.blk hk).1
  ·rw[aN (by omega),kR _ _ _ _ (by omega)]
   have:=h.bl
   rw[Jj.out]at this
   exact this
  ·have h1:=(hr.blk hk).1
   have h2:=(h.row.blk e).2.lt
   omega
  ·intro k hk
   rcases hk with hk|hk
   ·refine⟨Nat.lt_of_lt_of_le (h.pure k hk).1 hO.size,?_⟩
    by_cases e:k=S
    ·rw[e];exact b_.jg hB (by decide) (by decide)
    ·exact(h.pure k hk).2.same (hO.block k (h.pure k hk).1 e)
   ·exact⟨(hr.blk hk).2.lt,b_.uy (hr.blk hk).2⟩
  ·intro M' hM'
   have uD:=hM.out
   rw[hM']at uD
   injection uD with uD
   injection uD with uD
   injection uD with uD
   subst uD
   have ht:=(h.Ji (ss':=ss) hO (fun k _ e=>by rw[e];exact h.noS) (fun _ _ _ _=>rfl) M' hM').1
   exact⟨ht,fun _=>abY h.len ht⟩
  ·rcases hk with hk|hk
   ·exact .inl hk
   ·exact .inr (hr.blk hk).1
  ·rw[qJ h hO (fun M hM e=>hM.ne h.blk e) hB (by rw[aN (by omega),kR _ _ _ _ (by omega)])]
   omega
end
section
attribute [local irreducible] dw
def Alike(a f:RD.Fr):Prop:=a.summed=f.summed/\a.size=f.size/\a.text=f.text/\a.window=f.window/\a.dict=f.dict/\a.blocks=f.blocks
theorem ab1{f:RD.Fr}{W s:aj}{r:aj×RD.Fr}(h:qw f W s=some r):Alike r.2 f/\r.1.length<=1024:=by
 unfold qw at h
 split at h
 ·cases h
 ·split at h
  ·cases h
  ·split at h
   ·cases h
   ·split at h
    ·cases h
    ·injection h with h
     rw[<- h]
     exact⟨⟨rfl,rfl,rfl,rfl,rfl,rfl⟩,by simp only[];omega⟩
theorem jG.alike{f f':RD.Fr}{ss ss':List Value}{v:Value}{W8:aj}{w w':World}(h:jG f ss v W8 w)(e:Alike f' f)(hr:aT 0 w' v W8)(hs:∀j,j<18\/29<=j->ss'[j]?=ss[j]?):jG f' ss' v W8 w':=by
 obtain⟨e1,e2,e3,e4,e5,e6⟩:=e
 obtain⟨n,n1,n2,n3⟩:=h.size
 refine⟨by rw[hs 8 (by omega),e1];exact h.summed,by rw[hs 9 (by omega),e2];exact h.sized,⟨n,by rw[hs 10 (by omega)];exact n1,by rw[e2];exact n2,n3⟩,by rw[hs 11 (by omega),e3];exact h.len,?_,by rw[hs 29 (by omega),e4];exact h.win,by rw[hs 30 (by omega)];exact h.bytes,hr,by rw[e5,e3,e4];exact h.tail,by rw[e4];exact h.small⟩
 intro e j hj
 rw[hs (12+j) (by omega),e3]
 exact h.sum (by rw[<- e1];exact e) j hj
theorem ab2{f f':RD.Fr}{lk:Bool}{n:Nat}(e:Alike f' f):qy f' lk n↔qy f lk n:=by
 obtain⟨e1,e2,e3,e4,e5,e6⟩:=e
 unfold qy
 rw[e2,e3]
theorem ab3{f:RD.Fr}{lk:Bool}{n:Nat}(h:n<=1024):Over f lk n↔qy f lk n:=by
 unfold Over qy
 constructor
 ·rintro(e|e)
  ·omega
  ·exact e
 ·exact .inr
theorem gY.self{w:World}{ss:List Value}{o M n:Nat}{f:RD.Fr}(h:gY w ss o M n f):gY w ss o M (bK w M) f/\bK w M<=n :=
 ⟨⟨h.lit,h.map,h.tabs.self.1,h.seq,h.fine,h.last⟩,h.tabs.self.2⟩
theorem gY.grown{w:World}{ss:List Value}{o M n:Nat}{f f':RD.Fr}{t:aj}(h:gY w ss o M n f'):gY w ss o M n (MS.grown f f' t):=⟨h.lit,h.map,h.tabs,h.seq,h.fine,h.last⟩
def yh(x:Fx)(S M:Nat)(ss:List Value)(m:MS)(v:Value)(W8 b:aj)(w:World)(e:Ending)(w':World):Prop :=
 Only (fun k=>k=M\/k=S\/v.ownBlock=some k) w w'/\aT 0 w' v W8/\∃ss',aB w' S 146 ss'/\ss'.length=34/\(∀j,j<18\/29<=j->ss'[j]?=ss[j]?) /\
  (((∀q,RD.inner m.f m.kd m.nm b=some q->1024<q.1.length)/\e=.returned (.tuple #[.string (ah []),aW x.f])) \/
   ∃t f',RD.inner m.f m.kd m.nm b=some (t,f')/\t.length<=1024/\Alike f' m.f/\e=.returned (.tuple #[.string (ah t),.nilIface])/\gY w' ss' 8 M (bK w' M) f'/\bK w' M<=bK w M+3)
theorem yh.same{x:Fx}{S M:Nat}{ss:List Value}{m:MS}{v:Value}{W8 b:aj}{W w:World}{e:Ending}{w':World}(hW:jK W w)(h:yh x S M ss m v W8 b W e w'):yh x S M ss m v W8 b w e w':=by
 obtain⟨h1,h2,ss',h3,h4,h5,h6⟩:=h
 have e:bK W M=bK w M:=by unfold bK;rw[hW.1]
 rw[e]at h6
 exact⟨hW.only h1,h2,ss',h3,h4,h5,h6⟩
theorem ab4(x:Fx)(G:Nat->Prop)(c:aC)(m:MS)(b:aj)(S M:Nat)(ss:List Value)(v6 v:Value)(W8:aj)(w:World)(h:bF x G c m S ss v6 w)(h0:m.nx=5)(hkd:m.kd<=2)(hM:ss[2]?=some (.map (some M)))(hF:jG m.f ss v W8 w)(hv:∀k,v.ownBlock=some k->G k)(hb:b.length=bQ 5 b m.kd m.nm)(hn:bK w M<900000000) :
  Calls prog 97 #[.pointer (some ⟨S,8,none⟩),.agg #[.bool m.lk,.int .i64 (m.kd:Nat),.int .i64 (m.nm:Nat)],.string (ah b)] w (yh x S M ss m v W8 b w):=by
 obtain⟨M',hM',hM1,hM2,gK⟩:=h.tabs
 rw[hM]at hM'
 injection hM' with hM'
 injection hM' with hM'
 injection hM' with hM'
 subst hM'
 have hP:=gK (by omega)
 have hnm:=h.gZ.1
 have hu5:bQ 5 b m.kd m.nm=if m.kd=1 then 1 else m.nm:=rfl
 rw[hu5]at hb
 have hplain:∀(t:aj)(e:Ending)(w':World),RD.inner m.f m.kd m.nm b=some (t,m.f)->t.length<=1024->e=.returned (.tuple #[.string (ah t),.nilIface])->Below w.heap.size w w'->yh x S M ss m v W8 b w e w':=by
  intro t e w' h1 h2 h3 h4
  have hN:bK w' M=bK w M:=wB (G:=fun _=>False) (aH h4) hM2.lt (fun e=>e)
  exact⟨aH h4,hF.row.only (aH (G:=fun _=>False) h4) (fun _ _ e=>e),ss,h.blk.below h4 h.blk.lt,h.len,fun _ _=>rfl,.inr ⟨t,m.f,h1,h2,⟨rfl,rfl,rfl,rfl,rfl,rfl⟩,h3,by rw[hN];exact hP.carry (fun _ _ _=>rfl) (aH (G:=fun _=>False) h4) (fun e=>e) (fun _ _ e=>e.elim),by omega⟩⟩
 rcases(by omega:m.kd=0\/m.kd=1\/m.kd=2)with hk|hk|hk
 ·have e0:((m.kd:Nat):Int)=0:=by omega
  rw[e0]
  refine(abR S m.nm m.lk (ah b) w).mono ?_
  rintro e w' ⟨rfl,hb'⟩
  rw[hk,if_neg (by omega)]at hb
  exact hplain b _ w' (by unfold RD.inner;rw[if_pos hk]) (by omega) rfl hb'
 ·have e0:((m.kd:Nat):Int)=1:=by omega
  rw[e0]
  rw[hk,if_pos rfl]at hb
  refine(abE S 8 m.nm m.lk b w hb hnm).mono ?_
  rintro e w' ⟨rfl,hb'⟩
  exact hplain _ _ w' (by unfold RD.inner;rw[if_neg (by omega),if_pos hk]) (by rw[List.length_replicate];exact hnm) rfl hb'
 ·have e0:((m.kd:Nat):Int)=2:=by omega
  rw[e0]
  rw[hk,if_neg (by omega)]at hb
  have hin:RD.inner m.f m.kd m.nm b=RD.packed m.f b:=by unfold RD.inner;rw[if_neg (by omega),if_neg (by omega)]
  obtain⟨p,hp1,hp2⟩:=hF.tail
  obtain⟨l0,l1,l2,Jd,Je,-⟩:=hP.last
  have hup:=fun r=>abu (s:=b) hp1 hp2 hP.fine (by rw[Jd];exact Je) r
  refine(abG x 0 S 8 M (bK w M) m.nm m.lk 146 ss m.f v W8 b w h.blk hP hF.win hF.bytes hF.row hF.small.1 hF.small.2 (Nat.zero_le _) h.vars (by omega) hn (h.base M hM1) (h.base S h.bW.1) (fun k hk=>h.base k (hv k hk)) (by decide) (by decide) (by decide)).mono ?_
  rintro e w' ⟨hO,hR,(⟨hnone,rfl,ss',q1,q2,q3⟩|⟨t,f',ss',hsome,rfl,q1,q2,q3,q4⟩)⟩
  ·refine⟨hO,hR,ss',q1,by rw[q2];exact h.len,fun j hj=>q3 j (by omega),.inl ⟨fun q hq=>?_,rfl⟩⟩
   rw[hin]at hq
   by_cases hl:q.1.length<=1024
   ·have:=(hup q).2 ⟨hq,hl⟩
    rw[hnone]at this
    cases this
   ·omega
  ·have hal:=ab1 hsome
   exact⟨hO,hR,ss',q1,by rw[q2];exact h.len,fun j hj=>q3 j (by omega),.inr ⟨t,f',by rw[hin];exact((hup _).1 hsome).1,hal.2,hal.1,rfl,q4.self.1,q4.self.2⟩⟩
theorem eY.worse{x:Fx}{G:Nat->Prop}{c:aC}{m:MS}{b:aj}{S:Nat}{ss ss':List Value}{v6:Value}{w w':World}{n:Nat}(h:bF x G c m S ss v6 w)(hu:m.unit c b=.err n)(hO:Only G w w')(hB:aB w' S 146 ss')(k3:ss'[3]?=ss[3]?)(k4:ss'[4]?=ss[4]?):eY x G c m b S v6 w (.returned (.tuple #[.string ⟨#[]⟩,aW (eF x n)])) w':=by
 refine⟨hO,?_⟩
 rw[hu]
 exact⟨rfl,h.vars.only hO h.base,ss',hB,by rw[k3];exact h.fr,by rw[k4];exact h.bl⟩
end
end Go.Proofs.YtbhemchnjpajiaaGreatDoor
