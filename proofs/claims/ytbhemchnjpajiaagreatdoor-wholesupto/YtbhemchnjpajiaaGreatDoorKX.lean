/- Several texts in one: PrFil2, PrUp. -/
import Derived.Test.YtbhemchnjpajiaaGreatDoorKW
set_option linter.unusedVariables false
set_option maxRecDepth 100000
set_option maxHeartbeats 4000000
namespace Go.Proofs.YtbhemchnjpajiaaGreatDoor
open Go.RowKit Go.Proofs.Tryz RD
def abj(x:Fx)(B n:Nat)(v:Value)(W lits:aj)(L:List RD.S3)(w:World)(e:Ending)(w':World):Prop :=
 Only (fun k=>v.ownBlock=some k) w w'/\aT B w' v W /\
  (((dJ n L (W,lits)=none\/∃y,dJ n L (W,lits)=some y/\1024<(y.1.drop W.length++y.2).length)/\e=.returned (.tuple #[.string (ah []),aW x.f])) \/
   ∃y,dJ n L (W,lits)=some y/\(y.1.drop W.length++y.2).length<=1024/\e=.returned (.tuple #[.string (ah (y.1.drop W.length++y.2)),.nilIface]))
theorem PY(n:Nat):∀(A C:List RD.S3)(x:aj×aj),dJ n (A++C) x=match dJ n A x with
  | none=>none
  | some y=>dJ n C y
 | [],C,x=>rfl
 | s::A,C,x=>by
  show(match dD n s x with|none=>none|some y=>dJ n (A++C) y)=match(match dD n s x with|none=>none|some y=>dJ n A y)with|none=>none|some y=>dJ n C y
  cases dD n s x with
  | none=>rfl
  | some y=>exact PY n A C y
theorem PZ(n:Nat)(L:List RD.S3)(x:aj×aj)(i:Nat)(h:dJ n (L.take i) x=none):dJ n L x=none:=by
 have e:=PY n (L.take i) (L.drop i) x
 rw[List.take_append_drop,h]at e
 exact e
theorem abk(L:List RD.S3)(rest:List Value)(i:Nat)(h:i<L.length):(fB L++rest)[i*3]?=some (.int .i64 L[i].len)/\(fB L++rest)[i*3+1]?=some (.int .i64 L[i].off)/\(fB L++rest)[i*3+2]?=some (.int .i64 L[i].jL):=by
 have e:fB L++rest=fB (L.take i)++(.int .i64 L[i].len::.int .i64 L[i].off::.int .i64 L[i].jL::(fB (L.drop (i+1))++rest)):=by
  have h1:L=L.take i++(L[i]::L.drop (i+1)):=by rw[<- List.drop_eq_getElem_cons h,List.take_append_drop]
  have h2:fB L=fB (L.take i)++(.int .i64 L[i].len::.int .i64 L[i].off::.int .i64 L[i].jL::fB (L.drop (i+1))):=by
   have h3:fB L=fB (L.take i++(L[i]::L.drop (i+1))):=congrArg fB h1
   rw[h3]
   unfold fB
   rw[List.flatMap_append,List.flatMap_cons]
   rfl
  rw[h2,List.append_assoc]
  rfl
 have hl:(fB (L.take i)).length=i*3:=by rw[Zq,List.length_take];omega
 rw[e]
 refine⟨?_,?_,?_⟩
 ·rw[List.getElem?_append_right (by omega),hl,Nat.sub_self];rfl
 ·rw[List.getElem?_append_right (by omega),hl,show i*3+1-i*3=1 by omega];rfl
 ·rw[List.getElem?_append_right (by omega),hl,show i*3+2-i*3=2 by omega];rfl
theorem abl(x:Fx)(B g o n Bl:Nat)(t:TypeId)(gs:List Value)(v lv:Value)(W lits:aj)(L:List RD.S3)(w:World)(hG:aB w g t gs)(h0:gs[o]?=some (.int .i64 n))(h1:gs[o+1]?=some v)(hR:aT B w v W)(hl:W.length<=1048576)(hc:lits.length<=1048576)(hn:0<n/\n<=1048576)(hB:B<=w.heap.size)(ht:t≠5)
  (hL:w.ownsRow Bl 264 3 lv L.length (fB L)) (iU:L.length<=255) (hLk:∀q∈L,qo q) (hV:bI x w) (hvb:∀k,v.ownBlock=some k->x.base<=k) :
  Calls prog 125 #[.pointer (some ⟨g,o,none⟩),.string (ah lits),lv] w (abj x B n v W lits L w):=by
 obtain⟨a,cc,rfl,q1,q2,q3⟩:=hR.form
 have c0:=hG.cell h0
 have c1:=hG.cell h1
 have cF:=hV.cF
 obtain⟨al,cl,rfl⟩:∃al cl,lv=.slice al L.length cl:=by
  rcases hL.2 with⟨rfl,h⟩|⟨g',cap,cur,rfl,-⟩
  ·exact⟨none,0,by rw[h]⟩
  ·exact⟨_,_,rfl⟩
 go_enter func125,ntmps125
 have hBl:L≠[]->∃gl rest,al=some ⟨gl,0,none⟩/\aB w gl 264 (fB L++rest):=fun hne=>by
  obtain⟨gl,c',rest,e,-,hb,-⟩:=mY hL (List.length_pos_iff.2 hne)
  obtain⟨e1,-,-⟩:=Value.slice.inj e
  exact⟨gl,rest,e1,hb⟩
 replace hBl:=aA hBl
 replace hL:=aA hL
 go_wp2_with fail
 go_loopg[1,8,18] (L.length+1) (fun gh lt av iv wj=>∃(i:Nat)(y:aj×aj),gh=L.length+1-i/\i<=L.length/\lt=.string (ah y.2)/\iv=.int .i64 (i:Int)/\dJ n (L.take i) (W,lits)=some y/\Grow B w wj (.slice a W.length cc) av W y.1/\y.1.length<=W.length+2003*i/\y.2.length<=lits.length/\∃t,y.1=W++t)
 case atStart=>exact⟨0,(W,lits),by omega,by omega,rfl,rfl,rfl,Grow.refl hR,by simp,Nat.le_refl _,[],(List.append_nil W).symm⟩
 case round =>
  obtain⟨i,⟨y1,y2⟩,rfl,hi,rfl,rfl,hrun,hg,hb1,hb2,hpre⟩:=hrel
  simp only[]at hg hb1 hb2 hpre⊢
  have lN:=hG.only hg.only (fun e=>(hR.blk e).2.ne hG ht rfl)
  have hVj:=hV.only hg.only hvb
  have d0:=lN.cell h0
  have d1:=lN.cell h1
  have cFj:=hVj.cF
  have zy:=aQ y2
  obtain⟨ar,cr,er,r1,r2,r3⟩:=hg.row.form
  rw[er]at hg⊢
  have hBw:B<=wr.heap.size:=Nat.le_trans hB hg.only.size
  by_cases hil:i<L.length
  ·have IX:(i:Int)<(L.length:Int):=by omega
   obtain⟨gl,rest,rfl,hbl⟩:=hBl.out (fun e=>by rw[e]at hil;simp at hil)
   have hbj:=hbl.only hg.only (fun e=>(hR.blk e).2.ne hbl (by decide) rfl)
   obtain⟨s0,s1,s2⟩:=abk L rest i hil
   have hok:=hLk L[i] (List.getElem_mem hil)
   have hrun1:dJ n (L.take (i+1)) (W,lits)=dD n L[i] (y1,y2):=by
    rw[List.take_succ_eq_append_getElem hil,zD,hrun]
   obtain⟨q,hq⟩:∃q,L[i]=q:=⟨_,rfl⟩
   rw[hq]at s0 s1 s2 hok hrun1
   obtain⟨o1,o2,o3,o4,o5,o6⟩:=hok
   obtain⟨sl,so,sm⟩:=q
   simp only[]at s0 s1 s2 o1 o2 o3 o4 o5 o6
   obtain⟨ln,rfl⟩:=Int.eq_ofNat_of_zero_le o1
   obtain⟨of,rfl⟩:=Int.eq_ofNat_of_zero_le (by omega:0<=so)
   obtain⟨mt,rfl⟩:=Int.eq_ofNat_of_zero_le (by omega:0<=sm)
   have y0:=hbj.cell s0
   have y1':=hbj.cell s1
   have y2':=hbj.cell s2
   have hgl:=hbj.lt
   have Eo:aB (wr.alloc (.cells #[.int .i64 (ln:Int),.int .i64 (of:Int),.int .i64 (mt:Int)] 264)) wr.heap.size 264 [.int .i64 (ln:Int),.int .i64 (of:Int),.int .i64 (mt:Int)]:=aB.new wr _ _
   have hb5:Below wr.heap.size wr (wr.alloc (.cells #[.int .i64 (ln:Int),.int .i64 (of:Int),.int .i64 (mt:Int)] 264)):=(Below.refl _ wr).alloc (Nat.le_refl _) _
   replace hq:=aA hq
   replace hrun:=aA hrun
   replace hpre:=aA hpre
   by_cases hlong:y2.length<ln
   ·have Ja:(y2.length:Int)<(ln:Int):=by omega
    have hbad:Hid (dJ n L (W,lits)=none):=by
     refine PZ n L _ (i+1) ?_
     rw[hrun1,dD,if_pos Ja]
    replace hrun1:=aA hrun1
    go_wp2_with fail
    have xQ:=hVj.below hb5
    have aX:=hg.old.only (aH (G:=fun _=>False) hb5) (fun _ _ e=>e)
    have dB:Only (fun k=>(Value.slice a W.length cc).ownBlock=some k) w (wr.alloc (.cells #[.int .i64 (ln:Int),.int .i64 (of:Int),.int .i64 (mt:Int)] 264)):=hg.only.trans (aH hb5)
    generalize wr.alloc (.cells #[.int .i64 (ln:Int),.int .i64 (of:Int),.int .i64 (mt:Int)] 264)=W5 at *
    have cF5:=xQ.cF
    go_region_with(fail)
    all_goals go_wp2_with fail
    all_goals go_ret2
    all_goals exact⟨dB.drew,aX.same rfl,.inl ⟨.inl hbad.out,rfl⟩⟩
   ·have Ja:¬(y2.length:Int)<(ln:Int):=by omega
    have ai0:ln<=y2.length:=by omega
    have ai1:(ln:Int)<=(y2.length:Int):=by omega
    obtain⟨T1,hT1⟩:∃T1,y2.take ln=T1:=⟨_,rfl⟩
    have Jb:T1.length=ln:=by rw[<- hT1,List.length_take];omega
    have P5:=yO y2 ln
    have abm:=mQ y2 ln
    rw[hT1]at P5
    have gQ:=hg.row.only (aH (G:=fun _=>False) hb5) (fun _ _ e=>e)
    obtain⟨v2,w2,hr2,hp2,ha2⟩:=PX B 9 36 _ _ (.string (ah T1)) y1 T1 gQ (zN _ T1) (by omega) (by rw[World.size_alloc];omega)
    have hg2:=(Grow.one gQ hp2 ha2).from hb5
    have o9:=hg.trans hR hg2 hpre.out
    obtain⟨a2,c2,e2,f1,f2,f3⟩:=hg2.row.form
    have hY:(y1++T1).length=y1.length+ln:=by rw[List.length_append,Jb]
    have ht2:=Eo.only hp2.2.1 (fun e=>(gQ.blk e).2.ne Eo (by decide) rfl)
    have hG2:=hG.only o9.only (fun e=>(hR.blk e).2.ne hG ht rfl)
    have hV2:=hV.only o9.only hvb
    have hBw2:B<=w2.heap.size:=Nat.le_trans hB o9.only.size
    obtain⟨Y,AY⟩:∃Y,y1++T1=Y:=⟨_,rfl⟩
    rw[AY]at hg2 o9 e2 hY f1
    have Ep:∃t,Y=W++t:=by
     obtain⟨t,ht⟩:=hpre.out
     exact⟨t++T1,by rw[<- AY,ht,List.append_assoc]⟩
    rw[e2]at hg2 o9 hr2
    obtain⟨Q,hQ⟩:∃Q,wr.heap.size=Q:=⟨_,rfl⟩
    rw[hQ]at ht2
    have t0:=ht2.cell (j:=0) rfl
    have t1:=ht2.cell (j:=1) rfl
    have t2:=ht2.cell (j:=2) rfl
    have g20:=hG2.cell h0
    have cF2:=hV2.cF
    have hfl:dD n ⟨(ln:Int),(of:Int),(mt:Int)⟩ (y1,y2)=if(n:Int)<(of:Int)\/(Y.length:Int)<(of:Int)then none else some (RD.copyN Y of mt,y2.drop ln):=by
     rw[dD,if_neg Ja]
     simp only[Int.toNat_natCast]
     rw[hT1,AY]
    rw[hfl]at hrun1
    replace hrun1:=aA hrun1
    replace hfl:=aA hfl
    replace hT1:=aA hT1
    replace Jb:=aA Jb
    replace AY:=aA AY
    replace hp2:=aA hp2
    replace ha2:=aA ha2
    replace hg:=aA hg
    replace gQ:=aA gQ
    replace hb5:=aA hb5
    replace Eo:=aA Eo
    replace Ep:=aA Ep
    replace hY:=aA hY
    have hYl:Y.length<=2097152:=by have:=hY.out;omega
    by_cases hoff:n<of\/Y.length<of
    ·have hbad:Hid (dJ n L (W,lits)=none):=by
      refine PZ n L _ (i+1) ?_
      rw[hrun1.out,if_pos (by omega)]
     by_cases ho1:n<of
     ·have P6:(n:Int)<(of:Int):=by omega
      have P7:decide (n<of)=true:=decide_eq_true ho1
      go_wp2_with(at_builtin;refine wpList_append_run rfl _ _ 36 9 rfl _ _ _ w2 rfl rfl hr2 ?_)
      go_quiet(fail)
      go_wp2_with fail
      go_quiet(fail)
      go_wp2_with fail
      go_ret2
      exact⟨(o9.only.drewN _).drewN _,o9.old.same rfl,.inl ⟨.inl hbad.out,rfl⟩⟩
     ·have P6:¬(n:Int)<(of:Int):=by omega
      have ho2:Y.length<of:=by omega
      have abn:(Y.length:Int)<(of:Int):=by omega
      have P7:decide (n<of)=false:=decide_eq_false ho1
      have abo:decide (Y.length<of)=true:=decide_eq_true ho2
      go_wp2_with(at_builtin;refine wpList_append_run rfl _ _ 36 9 rfl _ _ _ w2 rfl rfl hr2 ?_)
      go_quiet(fail)
      go_wp2_with fail
      go_quiet(fail)
      go_wp2_with fail
      go_ret2
      exact⟨(o9.only.drewN _).drewN _,o9.old.same rfl,.inl ⟨.inl hbad.out,rfl⟩⟩
    ·have ho1:¬n<of:=by omega
     have ho2:¬Y.length<of:=by omega
     have P6:¬(n:Int)<(of:Int):=by omega
     have abn:¬(Y.length:Int)<(of:Int):=by omega
     have P7:decide (n<of)=false:=decide_eq_false ho1
     have abo:decide (Y.length<of)=false:=decide_eq_false ho2
     go_wp2_with(at_builtin;refine wpList_append_run rfl _ _ 36 9 rfl _ _ _ w2 rfl rfl hr2 ?_)
     have ham:=aA (fun(W2:World)(hW:W2.heap=w2.heap)=>abg B _ Y of mt W2 (o9.row.same hW) ⟨by omega,by omega⟩ (by omega) (by rw[hW];exact hBw2))
     go_quiet(fail)
     go_wp2_with fail
     refine(ham.out (w2.drewN nq) rfl).mono ?_
     rintro e w3 ⟨v3,rfl,hg3⟩
     have hg4:=o9.trans hR (hg3.from (below_drewN w2 nq)) Ep.out
     have hcl:=En Y of mt
     obtain⟨tt,htt⟩:=I9 Y of mt
     have abp:Hid (∃t,RD.copyN Y of mt=W++t):=by
      obtain⟨t,ht⟩:=Ep.out
      exact⟨t++tt,by rw[htt,ht,List.append_assoc]⟩
     have Jc:(RD.copyN Y of mt).length<=W.length+2003*(i+1):=by
      rw[hcl,hY.out]
      omega
     replace hg4:=aA hg4
     replace hg3:=aA hg3
     replace hcl:=aA hcl
     replace htt:=aA htt
     replace Jc:=aA Jc
     go_wp2_with fail
     go_roundg(L.length+1-(i+1))
     case rel=>exact⟨i+1,(RD.copyN Y of mt,y2.drop ln),rfl,by omega,rfl,by go_num,by rw[hrun1.out,if_neg (by omega)],hg4.out,Jc.out,by show(y2.drop ln).length<=_;rw[List.length_drop];omega,abp.out⟩
     case measure=>omega
  ·obtain rfl:i=L.length:=by omega
   have IX:¬(L.length:Int)<(L.length:Int):=by omega
   rw[List.take_length]at hrun
   obtain⟨T,rfl⟩:=hpre
   have hdrop:(W++T).drop W.length=T:=by rw[List.drop_left]
   have hwl:(W++T).length=W.length+T.length:=List.length_append
   obtain⟨Ct,rZ⟩:∃Ct,T++y2=Ct:=⟨_,rfl⟩
   have AZ:=kL T y2
   rw[rZ]at AZ
   have zc:=aQ Ct
   have zT:=aQ T
   have wz:Ct.length=T.length+y2.length:=by rw[<- rZ,List.length_append]
   replace rZ:=aA rZ
   have yR:Ct.length<=1099511627776:=by
    have:=hwl
    omega
   rcases r3 with⟨rfl,r3,rfl⟩|⟨gr,I_,rfl,hBg,hU⟩
   ·obtain⟨hW0,hT0⟩:=List.append_eq_nil_iff.1 r3
    have hcv:=CB B wr wr (.slice none 0 0) T (by rw[hT0];exact aT.nil B wr) rfl
    have A8:W.length=0:=by rw[hW0];rfl
    have hTl:T.length=0:=by rw[hT0];rfl
    replace hW0:=aA hW0
    replace hT0:=aA hT0
    replace r3:=aA r3
    have hgo:=hg
    rw[A8]at hgo
    replace hg:=aA hg
    replace hgo:=aA hgo
    replace hdrop:=aA hdrop
    replace hrun:=aA hrun
    replace wz:=aA wz
    have hfin:Hid ((((W++T,y2):aj×aj).1.drop W.length++((W++T,y2):aj×aj).2)=Ct):=by rw[Hid,<- rZ.out];show(W++T).drop W.length++y2=_;rw[hdrop.out]
    by_cases hbig:1024<Ct.length
    ·have hbig2:(1024:Int)<(Ct.length:Int):=by omega
     go_wp2_with fail
     go_quiet(fail)
     go_wp2_with fail
     go_ret2
     exact⟨by first|exact hg.out.only.drewN _|exact hgo.out.only.drewN _,by first|exact hg.out.old.same rfl|exact hgo.out.old.same rfl,.inl ⟨.inr ⟨(W++T,y2),hrun.out,by rw[hfin.out];exact hbig⟩,rfl⟩⟩
    ·have hbig2:¬(1024:Int)<(Ct.length:Int):=by omega
     go_wp2_with fail
     go_ret2
     exact⟨by first|exact hg.out.only|exact hgo.out.only,by first|exact hg.out.old|exact hgo.out.old,.inr ⟨(W++T,y2),hrun.out,by rw[hfin.out];omega,by rw[hfin.out];rfl⟩⟩
   ·by_cases hce:cr=W.length
    ·have hTl:T.length=0:=by omega
     have hT0:T=[]:=List.length_eq_zero_iff.1 hTl
     have hcv:(convert 36 9 (.slice (some ⟨gr,I_,none⟩) 0 0)).run prog wr=.ok (.string (ah T)) wr:=by
      rw[hT0]
      exact run_convert_bytes_back (P:=prog) wr 36 9 5 ⟨gr,I_,none⟩ 0 [] underlying36 underlying5 underlying9 (fun j hj=>by simp at hj)
     replace hT0:=aA hT0
     replace hg:=aA hg
     replace hdrop:=aA hdrop
     replace hrun:=aA hrun
     replace wz:=aA wz
     have hfin:Hid ((((W++T,y2):aj×aj).1.drop W.length++((W++T,y2):aj×aj).2)=Ct):=by rw[Hid,<- rZ.out];show(W++T).drop W.length++y2=_;rw[hdrop.out]
     by_cases hbig:1024<Ct.length
     ·have hbig2:(1024:Int)<(Ct.length:Int):=by omega
      go_wp2_with fail
      go_quiet(fail)
      go_wp2_with fail
      go_ret2
      exact⟨hg.out.only.drewN _,hg.out.old.same rfl,.inl ⟨.inr ⟨(W++T,y2),hrun.out,by rw[hfin.out];exact hbig⟩,rfl⟩⟩
     ·have hbig2:¬(1024:Int)<(Ct.length:Int):=by omega
      go_wp2_with fail
      go_ret2
      exact⟨hg.out.only,hg.out.old,.inr ⟨(W++T,y2),hrun.out,by rw[hfin.out];omega,by rw[hfin.out];rfl⟩⟩
    ·have hdr:=hg.row.drop W.length (by rw[hwl];omega)
     rw[hdrop,hwl,Nat.add_sub_cancel_left]at hdr
     have hcv:=CB B wr wr _ T hdr rfl
     replace hdr:=aA hdr
     replace hg:=aA hg
     replace hdrop:=aA hdrop
     replace hrun:=aA hrun
     replace wz:=aA wz
     have hfin:Hid ((((W++T,y2):aj×aj).1.drop W.length++((W++T,y2):aj×aj).2)=Ct):=by rw[Hid,<- rZ.out];show(W++T).drop W.length++y2=_;rw[hdrop.out]
     by_cases hbig:1024<Ct.length
     ·have hbig2:(1024:Int)<(Ct.length:Int):=by omega
      go_wp2_with fail
      go_quiet(fail)
      go_wp2_with fail
      go_ret2
      exact⟨hg.out.only.drewN _,hg.out.old.same rfl,.inl ⟨.inr ⟨(W++T,y2),hrun.out,by rw[hfin.out];exact hbig⟩,rfl⟩⟩
     ·have hbig2:¬(1024:Int)<(Ct.length:Int):=by omega
      go_wp2_with fail
      go_ret2
      exact⟨hg.out.only,hg.out.old,.inr ⟨(W++T,y2),hrun.out,by rw[hfin.out];omega,by rw[hfin.out];rfl⟩⟩
theorem P8(l:List Int)(cs:List CM.aG):∀(m i:Nat){r:aj×Nat},dR l cs m i=some r->r.1.length=m
 | 0,i,r,h=>by
  injection h with h
  rw[<- h]
  rfl
 | m+1,i,r,h=>by
  rw[dR]at h
  cases e:qN l i cs with
  | none=>rw[e]at h;cases h
  | some c =>
   rw[e]at h
   simp only[]at h
   obtain⟨r1,h1,h2⟩:=Option.map_eq_some_iff.1 h
   have:=P8 l cs m _ h1
   rw[<- h2]
   simp[this]
theorem P9{s:aj}{cs:List CM.aG}{m i:Nat}{r:aj×Nat}(h:lY s cs m i=some r):r.1.length=m:=by
 unfold lY at h
 split at h
 ·cases h
 ·simp only[]at h
  split at h
  ·cases h
  ·unfold RD.coded at h
   cases e:dR (ay ((s.drop (i+2)).take (au ((s.drop i).take 2)))) cs m 0 with
   | none=>rw[e]at h;cases h
   | some q =>
    rw[e]at h
    obtain⟨q1,q2⟩:=q
    have hq:=P8 _ cs m 0 e
    simp only[]at h
    by_cases hr:RD.rest (ay ((s.drop (i+2)).take (au ((s.drop i).take 2)))) q2=true
    ·rw[if_pos hr]at h
     simp only[]at h
     injection h with h
     rw[<- h]
     exact hq
    ·rw[if_neg hr]at h
     cases h
theorem P_{cs:List CM.aG}{s:aj}{r:aj×Nat×List CM.aG}(h:RD.literals cs s=some r):r.1.length<=1024:=by
 unfold RD.literals at h
 split at h
 ·cases h
 ·simp only[]at h
  split at h
  ·cases h
  ·rename_i hm
   have hm2:au (s.take 2)/4%2048<=1024:=by omega
   generalize au (s.take 2)/4%2048=m at *
   split at h
   ·split at h
    ·cases h
    ·injection h with h
     rw[<- h]
     show((s.drop 2).take m).length<=1024
     rw[List.length_take]
     omega
   ·split at h
    ·split at h
     ·cases h
     ·injection h with h
      rw[<- h]
      show(List.replicate m _).length<=1024
      rw[List.length_replicate]
      exact hm2
    ·split at h
     ·split at h
      ·cases h
      ·split at h
       ·cases h
       ·split at h
        ·split at h
         ·cases h
         ·rename_i out i e
          injection h with h
          rw[<- h]
          have:=P9 e
          simp only[]at this⊢
          omega
        ·cases h
     ·split at h
      ·cases h
      ·rename_i out i e
       injection h with h
       rw[<- h]
       have:=P9 e
       simp only[]at this⊢
       omega
theorem abq{l:List Int}(hl:∀x∈l,0<=x/\x<=1){t0 t1 t2:RD.Tab}(f0:cZ t0)(f1:cZ t1)(f2:cZ t2){last:List Int}(hla:dG last){k:Nat}{L:List RD.S3}{pos:Nat}{la:List Int}(h:kN l t0 t1 t2 last k=some (L,pos,la)):(∀q∈L,qo q)/\dG la:=by
 unfold kN at h
 cases e:fM l t0 t1 t2 last k with
 | none=>rw[e]at h;cases h
 | some r =>
  obtain⟨L0,hh⟩:=r
  rw[e]at h
  simp only[]at h
  split at h
  ·cases h
  ·rename_i ho
   obtain⟨e1,e2⟩:=Prod.mk.inj (Option.some.inj h)
   obtain⟨e2,e3⟩:=Prod.mk.inj e2
   obtain⟨p1,p2,p3,p4⟩:=Ar hl f0 f1 f2 hla k e
   obtain⟨q1,q2⟩:=(IB hl p1).2 ho
   refine⟨fun q hq=>?_,by rw[<- e3];exact q2⟩
   rw[<- e1]at hq
   rcases List.mem_append.1 hq with hq|hq
   ·exact p4 q hq
   ·rw[List.mem_singleton.1 hq];exact q1
theorem abr(md:Nat)(t0 t1 t2:RD.Tab)(s:aj):gy md (t0,t1,t2) s 3=match aZ 0 (md%4) t0 s with
  | none=>none
  | some (a,k0)=>match aZ 1 (md/4%4) t1 (s.drop k0)with
   | none=>none
   | some (b,k1)=>match aZ 2 (md/16%4) t2 (s.drop (k0+k1))with
    | none=>none
    | some (c,k2)=>some ((a,b,c),k0+k1+k2):=by
 have e0:gy md (t0,t1,t2) s 0=some ((t0,t1,t2),0):=rfl
 have e1:=AQ e0
 rw[show md/4^0%4=md%4 by simp,List.drop_zero]at e1
 cases h0:aZ 0 (md%4) t0 s with
 | none =>
  have:gy md (t0,t1,t2) s 1=none:=by rw[e1];show(match aZ 0 (md%4) t0 s with|none=>none|some (t,c)=>_)=none;rw[h0]
  exact yg this 2
 | some r0 =>
  obtain⟨a,k0⟩:=r0
  have e1':gy md (t0,t1,t2) s 1=some ((a,t1,t2),k0):=by
   rw[e1]
   show(match aZ 0 (md%4) t0 s with|none=>none|some (t,c)=>some (rW 0 t (t0,t1,t2),0+c))=_
   rw[h0]
   show some (rW 0 a (t0,t1,t2),0+k0)=_
   rw[Nat.zero_add]
   rfl
  have e2:=AQ e1'
  rw[show md/4^1%4=md/4%4 by simp]at e2
  simp only[]
  cases h1:aZ 1 (md/4%4) t1 (s.drop k0)with
  | none =>
   have:gy md (t0,t1,t2) s 2=none:=by rw[e2];show(match aZ 1 (md/4%4) t1 (s.drop k0)with|none=>none|some (t,c)=>_)=none;rw[h1]
   exact yg this 1
  | some r1 =>
   obtain⟨b,k1⟩:=r1
   have e2':gy md (t0,t1,t2) s 2=some ((a,b,t2),k0+k1):=by
    rw[e2]
    show(match aZ 1 (md/4%4) t1 (s.drop k0)with|none=>none|some (t,c)=>some (rW 1 t (a,t1,t2),k0+c))=_
    rw[h1]
    rfl
   have e3:=AQ e2'
   rw[show md/4^2%4=md/16%4 by rfl]at e3
   rw[e3]
   show(match aZ 2 (md/16%4) t2 (s.drop (k0+k1))with|none=>none|some (t,c)=>some (rW 2 t (a,b,t2),k0+k1+c))=_
   simp only[]
   cases aZ 2 (md/16%4) t2 (s.drop (k0+k1))with
   | none=>rfl
   | some r2=>rfl
theorem Qa(pre l:aj)(k:Nat)(hk:1<=k/\k<=l.length):∀m,RD.copyN (pre++l) k m=pre++RD.copyN l k m
 | 0=>rfl
 | m+1=>by
  have hl:=En l k m
  rw[RD.copyN,RD.copyN,Qa pre l k hk m,List.append_assoc]
  congr 2
  rw[List.length_append,List.getD_eq_getElem?_getD,List.getD_eq_getElem?_getD,List.getElem?_append_right (by omega),show pre.length+(RD.copyN l k m).length-k-pre.length=(RD.copyN l k m).length-k by omega]
theorem Qb(n:Nat)(pre:aj):∀(L:List RD.S3)(W lits:aj),(pre=[]\/n<=W.length)->(∀q∈L,qo q)->dJ n L (pre++W,lits)=match dJ n L (W,lits)with
  | none=>none
  | some y=>some (pre++y.1,y.2)
 | [],W,lits,_,_=>rfl
 | s::L,W,lits,hw,hL=>by
  have hs:=hL s (by simp)
  obtain⟨o1,o2,o3,o4,o5,o6⟩:=hs
  have e1:dD n s (pre++W,lits)=match dD n s (W,lits)with|none=>none|some y=>some (pre++y.1,y.2):=by
   unfold dD
   simp only[]
   by_cases h1:(lits.length:Int)<s.len
   ·rw[if_pos h1,if_pos h1]
   ·rw[if_neg h1,if_neg h1]
    obtain⟨T,hT⟩:∃T,lits.take s.len.toNat=T:=⟨_,rfl⟩
    rw[hT,List.append_assoc]
    rcases hw with rfl|hw
    ·rw[List.nil_append]
     split<;>rfl
    ·by_cases h2:(n:Int)<s.off
     ·rw[if_pos (.inl h2),if_pos (.inl h2)]
     ·have hl2:(W++T).length=W.length+T.length:=List.length_append
      have hl3:(pre++(W++T)).length=pre.length+(W++T).length:=List.length_append
      rw[if_neg (by omega),if_neg (by omega),Qa pre (W++T) s.off.toNat (by omega)]
  show(match dD n s (pre++W,lits)with|none=>none|some y=>dJ n L y)=match(match dD n s (W,lits)with|none=>none|some y=>dJ n L y)with|none=>none|some y=>some (pre++y.1,y.2)
  rw[e1]
  cases h:dD n s (W,lits)with
  | none=>rfl
  | some y =>
   have hg:=Dn h
   exact Qb n pre L y.1 y.2 (hw.imp id (fun e=>by have:=hg.1;simp only[]at this;omega)) (fun q hq=>hL q (by simp[hq]))
def qw(f:RD.Fr)(W s:aj):Option (aj×RD.Fr) :=
 match RD.literals f.codes s with
 | none=>none
 | some (lits,i,cs)=>match nT (f.t0,f.t1,f.t2) f.last (s.drop i)with
  | none=>none
  | some (L,T',la)=>match dJ f.window L (W,lits)with
   | none=>none
   | some y=>if 1024<(y.1.drop W.length++y.2).length then none else some (y.1.drop W.length++y.2,{ f with codes:=cs,t0:=T'.1,t1:=T'.2.1,t2:=T'.2.2,last:=la })
theorem Qc(s:aj)(i k:Nat):ak (s.drop i) k=ak s (i+k):=by
 unfold ak
 rw[List.getD_eq_getElem?_getD,List.getD_eq_getElem?_getD,List.getElem?_drop]
theorem abt{f:RD.Fr}{pre W lits s:aj}{n:Nat}(hW:f.dict++f.text=pre++W)(hpre:pre=[]\/f.window<=W.length)(f0:cZ f.t0)(f1:cZ f.t1)(f2:cZ f.t2)(hla:dG f.last):(match(match kN (ay s) f.t0 f.t1 f.t2 f.last (n-1)with
   | none=>none
   | some (L,pos,la)=>if pos<=(ay s).length/\RD.rest (ay s) pos=true then some (L,(f.t0,f.t1,f.t2),la)else none:Option (List RD.S3×Tabs×List Int))with
  | none=>none
  | some (L,T',la)=>match dJ f.window L (W,lits)with
   | none=>none
   | some y=>if 1024<(y.1.drop W.length++y.2).length then none else some (y.1.drop W.length++y.2,{ f with t0:=T'.1,t1:=T'.2.1,t2:=T'.2.2,last:=la }))=(Au f lits s n).map fun q=>(q.1,{ f with last:=q.2 }):=by
 unfold Au
 cases e:kN (ay s) f.t0 f.t1 f.t2 f.last (n-1)with
 | none=>rfl
 | some r =>
  obtain⟨L,pos,la⟩:=r
  obtain⟨hok,-⟩:=abq (kM s) f0 f1 f2 hla e
  simp only[]
  by_cases hp:pos<=(ay s).length/\RD.rest (ay s) pos=true
  ·rw[if_pos hp,if_pos hp,hW,Qb f.window pre L W lits hpre hok]
   simp only[]
   cases dJ f.window L (W,lits)with
   | none=>rfl
   | some y =>
    simp only[]
    have e1:(pre++y.1).drop (pre++W).length=y.1.drop W.length:=by
     rw[List.length_append,<- List.drop_drop,List.drop_left]
    rw[e1]
    by_cases hb:1024<(y.1.drop W.length++y.2).length
    ·rw[if_pos hb,if_pos hb];rfl
    ·rw[if_neg hb,if_neg hb];rfl
  ·rw[if_neg hp,if_neg hp]
   rfl
theorem abu{f:RD.Fr}{pre W s:aj}(hW:f.dict++f.text=pre++W)(hpre:pre=[]\/f.window<=W.length)(hF:wu (f.t0,f.t1,f.t2))(hla:dG f.last)(r:aj×RD.Fr):qw f W s=some r↔RD.packed f s=some r/\r.1.length<=1024:=by
 unfold qw RD.packed
 cases hl:RD.literals f.codes s with
 | none=>simp
 | some q =>
  obtain⟨lits,i,cs⟩:=q
  have hll:=P_ hl
  simp only[]at hll⊢
  unfold nT
  rw[Qc,Qc,List.length_drop,List.drop_drop,Nat.add_zero]
  by_cases h1:s.length<=i
  ·rw[if_pos (by omega),if_pos h1]
   simp
  ·rw[if_neg (by omega),if_neg h1]
   by_cases h2:ak s i=0
   ·rw[if_pos h2,if_pos h2]
    by_cases h3:i+1=s.length
    ·rw[if_pos (by omega),if_pos h3]
     have hd:W.drop W.length=[]:=List.drop_length
     simp only[dJ,hd,List.nil_append]
     rw[if_neg (by omega)]
     constructor
     ·intro h
      have h':=Option.some.inj h
      refine⟨h,?_⟩
      rw[<- h']
      exact hll
     ·exact fun h=>h.1
    ·rw[if_neg (by omega),if_neg h3]
     simp
   ·rw[if_neg h2,if_neg h2]
    by_cases h3:s.length<=i+1\/64<=ak s (i+1)
    ·rw[if_pos (by omega),if_pos h3]
     simp
    ·rw[if_neg (by omega),if_neg h3,abr]
     obtain⟨md,hmd⟩:∃md,ak s (i+1)=md:=⟨_,rfl⟩
     obtain⟨n,hn⟩:∃n,ak s i=n:=⟨_,rfl⟩
     rw[hn]at h2
     rw[hmd,hn]
     cases h0:aZ 0 (md%4) f.t0 (s.drop (i+2))with
     | none=>simp
     | some r0 =>
      obtain⟨a,k0⟩:=r0
      simp only[]
      rw[List.drop_drop]
      cases h1':aZ 1 (md/4%4) f.t1 (s.drop (i+2+k0))with
      | none=>simp
      | some r1 =>
       obtain⟨b,k1⟩:=r1
       simp only[]
       rw[List.drop_drop,show i+2+(k0+k1)=i+2+k0+k1 by omega]
       cases h2':aZ 2 (md/16%4) f.t2 (s.drop (i+2+k0+k1))with
       | none=>simp
       | some r2 =>
        obtain⟨c,k2⟩:=r2
        simp only[]
        rw[List.drop_drop,show i+(2+(k0+k1+k2))=i+2+k0+k1+k2 by omega]
        have fa:cZ a:=Ej (by omega) h0 (hF 0 (by omega))
        have fb:cZ b:=Ej (by omega) h1' (hF 1 (by omega))
        have fc:cZ c:=Ej (by omega) h2' (hF 2 (by omega))
        have hpf:=abt (f:={ f with codes:=cs,t0:=a,t1:=b,t2:=c }) (lits:=lits) (s:=s.drop (i+2+k0+k1+k2)) (n:=n) hW hpre fa fb fc hla
        have hpc:=fun q=>Zo (f:={ f with codes:=cs,t0:=a,t1:=b,t2:=c }) (lits:=lits) (s:=s.drop (i+2+k0+k1+k2)) (n:=n) fa fb fc hla (by omega) q
        simp only[]at hpf hpc
        generalize Au { f with codes:=cs,t0:=a,t1:=b,t2:=c } lits (s.drop (i+2+k0+k1+k2)) n=P at *
        generalize RD.content { f with codes:=cs,t0:=a,t1:=b,t2:=c } lits (s.drop (i+2+k0+k1+k2)) n=Q at *
        constructor
        ·intro h
         obtain⟨q,hq1,hq2⟩:=Option.map_eq_some_iff.1 (hpf.symm.trans h)
         obtain⟨c1,c2⟩:=(hpc q).1 hq1
         rw[c1,<- hq2]
         exact⟨rfl,c2⟩
        ·rintro⟨h,hlen⟩
         cases Q with
         | none=>cases h
         | some q =>
          simp only[]at h
          have h':=Option.some.inj h
          have:P=some q:=(hpc q).2 ⟨rfl,by rw[<- h']at hlen;exact hlen⟩
          refine hpf.trans ?_
          rw[this]
          exact h
end Go.Proofs.YtbhemchnjpajiaaGreatDoor
