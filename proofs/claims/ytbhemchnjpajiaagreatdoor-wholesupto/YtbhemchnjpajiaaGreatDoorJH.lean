/- Several texts in one: PrWin, RefRun, PrMach, PrFr1, PrStr. -/
import Derived.Test.YtbhemchnjpajiaaGreatDoorJF
import Derived.Test.YtbhemchnjpajiaaGreatDoorJG
import Derived.Test.YtbhemchnjpajiaaGreatDoorJA
set_option linter.unusedVariables false
set_option maxRecDepth 100000
set_option maxHeartbeats 2000000
namespace Go.Proofs.YtbhemchnjpajiaaGreatDoor
open Go.RowKit Go.Proofs.Tryz RD
theorem winNew_any(n:Int)(d:aj)(w:World)(hd:d.length<=1048576) :
  Calls prog 105 #[.int .i64 n,.string (ah d)] w fun e w'=>∃v,e=.returned (.agg #[.int .i64 n,v])/\aT w.heap.size w' v d/\Below w.heap.size w w':=by
 obtain⟨v,w1,hr,hR,hb⟩:=Xt (w.alloc (.cells #[.int .i64 0,.slice none 0 0] 140)) d (by omega)
 obtain⟨a,c,rfl,h1,h2,h3⟩:=hR.form
 have hN:aB w1 w.heap.size 140 [.int .i64 0,.slice none 0 0]:=(aB.new w 140 [.int .i64 0,.slice none 0 0]).below hb (by simp)
 have c0:=hN.cell (j:=0) rfl
 have c1:=hN.cell (j:=1) rfl
 have fz:=hN.free
 have hbw:Below w.heap.size w w1:=((Below.refl _ w).alloc (Nat.le_refl _) _).trans ⟨hb.os,hb.tape,hb.output,hb.size,fun k hk=>hb.block k (by simp;omega)⟩
 go_enter func105,ntmps105
 go_wp2_with fail
 have uX:=(hN.put 0 (.int .i64 n)).put 1 (.slice a (List.length d) c)
 have hO:Only (·=w.heap.size) w1 ((w1.setCell ⟨w.heap.size,0,none⟩ (.int .i64 n)).setCell ⟨w.heap.size,1,none⟩ (.slice a (List.length d) c)):=((Only.refl (·=w.heap.size) w1).setCell ⟨w.heap.size,0,none⟩ _ (fun _=>rfl)).setCell ⟨w.heap.size,1,none⟩ _ (fun _=>rfl)
 generalize(w1.setCell ⟨w.heap.size,0,none⟩ (.int .i64 n)).setCell ⟨w.heap.size,1,none⟩ (.slice a (List.length d) c)=w2 at *
 have z0:=uX.cell (j:=0) rfl
 have z1:=uX.cell (j:=1) rfl
 refine bodyPost_ret (v:=.agg #[.int .i64 n,.slice a (List.length d) c]) (by simp[results,results105,go_sem,z0,z1]) rfl ?_
 refine⟨_,rfl,(hR.only hO (fun k hk e=>?_)).base (by simp),hbw.trans ⟨hO.os,hO.tape,hO.output,hO.size,fun k hk=>hO.block k (by have:=hbw.size;omega) (by omega)⟩⟩
 have:=(hR.blk hk).1
 simp at this
 omega
def ni(n:Nat)(l:aj):aj:=l.drop (l.length-n)
theorem XI(B g o:Nat)(t:TypeId)(gs:List Value)(n:Nat)(v:Value)(l c:aj)(w:World)(hG:aB w g t gs)(h0:gs[o]?=some (.int .i64 n))(h1:gs[o+1]?=some v)(hR:aT B w v l)(hl:l.length<=1048576)(hc:c.length<=1048576)(hn:0<n/\n<=1048576)(hB:B<=w.heap.size)(ht:t≠5) :
  Calls prog 108 #[.pointer (some ⟨g,o,none⟩),.string (ah c)] w fun e w'=>e=.returned (.tuple #[])/\∃v',aT B w' v' (ni n (l++c))/\aB w' g t (gs.set (o+1) v')/\Only (fun k=>k=g\/v.ownBlock=some k) w w'/\(v'.ownBlock=v.ownBlock\/∃k,v'.ownBlock=some k/\w.heap.size<=k):=by
 obtain⟨a,cc,rfl,q1,q2,q3⟩:=hR.form
 have c0:=hG.cell h0
 have c1:=hG.cell h1
 have fz:=hG.free
 obtain⟨v1,w1,hr1,hp1⟩:=Dx B 9 36 w _ _ l c hR (zN w c) (by omega) hB
 go_enter func108,ntmps108
 obtain⟨hR1,aF,kQ⟩:=hp1
 have hG1:=hG.only aF (fun e=>(hR.blk e).2.ne hG ht rfl)
 obtain⟨a1,iI,rfl,p1,p2,p3⟩:=hR1.form
 have d0:=hG1.cell h0
 have d1:=hG1.cell h1
 have Dz:=hG1.free
 go_wp2_with(at_builtin;refine wpList_append_run rfl _ _ 36 9 rfl _ _ _ w1 rfl rfl hr1 ?_)
 have hG2:=hG1.put (o+1) (.slice a1 (List.length (l++c)) iI)
 have hO2:Only (fun k=>k=g\/(Value.slice a (List.length l) cc).ownBlock=some k) w (w1.setCell ⟨g,o+1,none⟩ (.slice a1 (List.length (l++c)) iI)):=(aF.weaken (fun _ _ e=>.inr e)).setCell _ _ (fun _=>.inl rfl)
 have hR2:aT B (w1.setCell ⟨g,o+1,none⟩ (.slice a1 (List.length (l++c)) iI)) (.slice a1 (List.length (l++c)) iI) (l++c):=hR1.only ((Only.refl (·=g) _).setCell _ _ (fun _=>rfl)) (fun k hk e=>(hR1.blk hk).2.ne hG1 ht e)
 have hLC:Hid (l.length+c.length=(l++c).length):=by rw[Hid];simp
 rw[hLC.out]
 have hsz:w.heap.size<=(w1.setCell ⟨g,o+1,none⟩ (.slice a1 (List.length (l++c)) iI)).heap.size:=hO2.size
 generalize w1.setCell ⟨g,o+1,none⟩ (.slice a1 (List.length (l++c)) iI)=w2 at *
 have x1:(gs.set (o+1) (.slice a1 (List.length (l++c)) iI))[o+1]?=some (.slice a1 (List.length (l++c)) iI):=by rw[List.getElem?_set_self (List.getElem?_eq_some_iff.1 h1).1]
 have x0:(gs.set (o+1) (.slice a1 (List.length (l++c)) iI))[o]?=some (.int .i64 n):=by rw[List.getElem?_set_ne (by omega)];exact h0
 have e0:=hG2.cell x0
 have e1:=hG2.cell x1
 have DC:=hG2.free
 have hLb:(l++c).length<=2097152:=by rw[<- hLC.out];omega
 clear d0 d1 Dz c0 c1 fz hr1 hLC p3 hR1 q3
 generalize DF:l++c=L at *
 replace DF:=aA DF
 by_cases hbig:n<L.length
 ·obtain⟨g1,off1,rfl,hb1,hu1⟩:∃g1 off1,a1=some ⟨g1,off1,none⟩/\B<=g1/\U8 w2 g1:=by
   obtain⟨_,_,e,-,-,h|h⟩:=hR2.form
   ·rw[h.2.1]at hbig;simp at hbig
   ·injection e with e1 _ _
    rw[e1];exact h
  obtain⟨k,hk⟩:∃k,k=L.length-n:=⟨_,rfl⟩
  have hk1:(L.length:Int)-n=(k:Nat):=by omega
  have XJ:k<=L.length:=by omega
  have hk0:0<k:=by omega
  have hkd:L.length-k=n:=by omega
  have hrun:∀W:World,W.heap=w2.heap->∃v' w',(Builtin.append_ #[36,36] 36 #[.slice (some ⟨g1,off1,none⟩) 0 iI,.slice (some ⟨g1,off1+k,none⟩) n (iI-k)]).run prog W=.ok v' w'/\∃a3 c3,v'=.slice a3 n c3/\vI B (.slice (some ⟨g1,off1,none⟩) 0 iI) (L.drop k) W (.slice a3 n c3) w' /\
    w'.cell? ⟨g,o+1,none⟩=some (.slice (some ⟨g1,off1,none⟩) L.length iI)/\(∀j,w'.frozen? ⟨g,j,none⟩=false)/\aB w' g t (gs.set (o+1) (.slice (some ⟨g1,off1,none⟩) L.length iI)):=fun W hW=>by
   have h1:=(hR2.same hW).take 0 (by omega)
   have h2:=(hR2.same hW).drop k XJ
   rw[List.take_zero]at h1
   have:=Dx B 36 36 W _ (.slice (some ⟨g1,off1+k,none⟩) n (iI-k)) [] (L.drop k) h1 (by
    have:=NG W g1 (off1+k) (iI-k) (L.drop k) (fun i hi=>h2.cells i hi)
    rw[List.length_drop,hkd]at this⊢
    exact this) (by simp;omega) (by rw[hW];have:=hO2.size;omega)
   rw[List.nil_append]at this
   obtain⟨v',w',hr,aV,hO3,oC⟩:=this
   obtain⟨a3,c3,rfl,_,_,_⟩:=aV.form
   have NQ:aB W g t (gs.set (o+1) (.slice (some ⟨g1,off1,none⟩) L.length iI)):=by unfold aB;rw[hW];exact hG2
   have hG3:=NQ.only hO3 (fun e=>((hR2.same hW).blk (k:=g) e).2.ne NQ ht rfl)
   rw[List.length_drop,hkd]at *
   exact⟨_,w',hr,a3,c3,rfl,⟨aV,hO3,oC⟩,hG3.cell x1,hG3.free,hG3⟩
  have hkeep:Hid (ni n L=L.drop k):=by rw[Hid,ni,hk]
  replace hk:=aA hk
  have hkc:k<=iI:=by omega
  have ahP:¬iI=k:=by omega
  have hK1:¬((k:Int)<0):=by omega
  have hK2:(k:Int)<=(L.length:Int):=by omega
  have hK3:(0:Int)<=(iI:Int):=by omega
  go_quiet(fail)
  go_wp2_with fail
  go_region_law(refine Nu rfl (.tmp 31) (.tmp 37) 36 36 rfl (.slice (some ⟨g1,off1,none⟩) 0 iI) (.slice (some ⟨g1,off1+k,none⟩) n (iI-k)) (by simp[Act.eval,Act.put]) (by simp[Act.eval,Act.put]) (hrun _ rfl) ?_;rintro _ w3 ⟨a3,c3,rfl,hp3,f1,f2,hG3⟩)
  all_goals
   go_end0
   obtain⟨aV,hO3,oC⟩:=hp3
   have fA:aT B (w3.setCell ⟨g,o+1,none⟩ (.slice a3 n c3)) (.slice a3 n c3) (L.drop k):=aV.only ((Only.refl (·=g) _).setCell ⟨g,o+1,none⟩ _ (fun _=>rfl)) (fun j hj e=>(aV.blk hj).2.ne hG3 ht e)
   refine⟨rfl,.slice a3 n c3,by rw[DF.out,hkeep.out];exact fA,?_,?_,?_⟩
   ·have:=hG3.put (o+1) (.slice a3 n c3)
    rw[List.set_set]at this
    exact this
   ·have qh:Only (fun j=>j=g\/(Value.slice a l.length cc).ownBlock=some j) w w3:=by
     refine⟨hO3.os.trans hO2.os,hO3.tape.trans hO2.tape,hO3.output.trans hO2.output,Nat.le_trans hO2.size hO3.size,fun j hj hn=>?_⟩
     have e1:=hO2.block j hj hn
     have hj2:j<w2.heap.size:=Nat.lt_of_lt_of_le hj hO2.size
     refine(hO3.block j hj2 (fun e=>?_)).trans e1
     rcases kQ with kQ|kQ
     ·exact hn (.inr (kQ.symm.trans e))
     ·have:some j=some w.heap.size:=e.symm.trans kQ
      injection this with this
      omega
    exact qh.setCell ⟨g,o+1,none⟩ _ (fun _=>.inl rfl)
   ·rcases oC with oC|oC
    ·rcases kQ with kQ|kQ
     ·exact .inl (oC.trans kQ)
     ·exact .inr ⟨_,oC.trans kQ,Nat.le_refl _⟩
    ·exact .inr ⟨_,oC,hO2.size⟩
 ·go_quiet(fail)
  go_wp2_with fail
  go_end0
  have hkeep:ni n L=L:=by rw[ni,show L.length-n=0 by omega,List.drop_zero]
  refine⟨rfl,.slice a1 L.length iI,by rw[DF.out,hkeep];exact hR2,hG2,hO2.drewN _,?_⟩
  rcases kQ with kQ|kQ
  ·exact .inl kQ
  ·exact .inr ⟨_,kQ,Nat.le_refl _⟩
end Go.Proofs.YtbhemchnjpajiaaGreatDoor
namespace Go.Proofs.YtbhemchnjpajiaaGreatDoor.RD
open Go
theorem NR{l:aj}(t:aj){i:Nat}(h:i<l.length):ak (l++t) i=ak l i:=by
 unfold ak
 rw[List.getD_eq_getElem?_getD,List.getElem?_append_left h,List.getD_eq_getElem?_getD]
theorem xA{l:aj}(t:aj){n:Nat}(h:n<=l.length):(l++t).take n=l.take n:=List.take_append_of_le_length h
theorem xB{l:aj}(t:aj){n:Nat}(h:n<=l.length):(l++t).drop n=l.drop n++t:=List.drop_append_of_le_length h
theorem NS{l:aj}(t:aj){k n:Nat}(h:k+n<=l.length):((l++t).drop k).take n=(l.drop k).take n:=by
 rw[xB t (by omega),xA t (by simp;omega)]
def mX.map{α β:Type}(g:α->β):mX α->mX β
 | .wants=>.wants
 | .err e=>.err e
 | .ok a=>.ok (g a)
theorem NT(c:aC)(l t:aj)(h:header c l≠.wants):header c (l++t)=(header c l).map fun r=>(r.1,r.2++t):=by
 by_cases h0:l.length=0
 ·exact absurd (by unfold header;rw[if_pos h0]) h
 by_cases hn:l.length<1+ak l 0/32%2+3*(ak l 0/16%2)
 ·exact absurd (by unfold header;rw[if_neg h0];simp only[];rw[if_pos hn]) h
 have ha:=NR (l:=l) t (i:=0) (by omega)
 unfold header
 simp only[ha]
 rw[if_neg h0,if_neg hn,if_neg (by rw[List.length_append];omega),if_neg (by rw[List.length_append];omega)]
 by_cases h64:64<=ak l 0
 ·rw[if_pos h64,if_pos h64];rfl
 rw[if_neg h64,if_neg h64]
 split
 ·rfl
 have hd:=xB (l:=l) t (n:=1+ak l 0/32%2+3*(ak l 0/16%2)) (by omega)
 have h1:ak l 0/32%2=1->ak (l++t) 1=ak l 1:=fun e=>NR t (by omega)
 have hN:ak l 0/16%2=1->((l++t).drop (1+ak l 0/32%2+3*(ak l 0/16%2)-3)).take 3=(l.drop (1+ak l 0/32%2+3*(ak l 0/16%2)-3)).take 3:=fun e=>NS t (by omega)
 rw[hd]
 rcases(by omega:ak l 0/32%2=0\/ak l 0/32%2=1)with e5|e5<;>rcases(by omega:ak l 0/16%2=0\/ak l 0/16%2=1)with e4|e4
 ·simp[e5,e4,mX.map]
 ·have:=hN e4
  simp only[e5,e4]at this⊢
  rw[show 1+0+3*1-3=1 from rfl,List.drop_one,List.drop_one]at this
  simp[this,mX.map]
 ·have:=h1 e5
  simp only[e5,e4,this]at *
  split<;>simp[*,mX.map]
 ·have a:=hN e4
  have b:=h1 e5
  simp only[e5,e4,b]at a⊢
  split<;>simp[*,mX.map]
theorem XK(f:Fr)(l t:aj)(h:block f l≠.wants):block f (l++t)=(block f l).map fun r=>(r.1,r.2.1,r.2.2.1++t,r.2.2.2):=by
 by_cases h2:l.length<2
 ·exact absurd (by unfold block;rw[if_pos h2]) h
 have ha:=xA (l:=l) t (n:=2) (by omega)
 unfold block at h⊢
 simp only[ha]
 rw[if_neg h2]at h
 rw[if_neg h2,if_neg (by simp;omega)]
 by_cases hk:au (l.take 2)/2%4=3\/1024<au (l.take 2)/8
 ·rw[if_pos hk,if_pos hk];rfl
 simp only[]at h
 rw[if_neg hk]at h
 rw[if_neg hk,if_neg hk]
 generalize(if au (l.take 2)/2%4=1 then 1 else au (l.take 2)/8)=n at *
 by_cases hn:l.length<2+n
 ·rw[if_pos hn]at h
  exact absurd rfl h
 rw[if_neg hn,if_neg (by simp;omega),NS t (by omega),xB t (by omega)]
 split
 ·rfl
 ·split<;>rfl
def St.more(s:St)(t:aj):St:={ s with left:=s.left++t }
theorem KL(c:aC)(s:St)(t:aj)(h:step c s≠.wants):step c (s.more t)=(step c s).map fun u=>u.more t:=by
 obtain⟨fr,ph,f,l,text⟩:=s
 cases ph with
 | letters =>
  unfold step St.more at *
  simp only[]at h⊢
  by_cases h4:l.length<4
  ·rw[if_pos h4]at h;exact absurd rfl h
  rw[if_neg h4,if_neg (by simp;omega),xA t (by omega),xB t (by omega)]
  split
  ·rfl
  ·split<;>rfl
 | skip =>
  unfold step St.more at *
  simp only[]at h⊢
  by_cases h4:l.length<3\/l.length<3+au (l.take 3)
  ·rw[if_pos h4]at h;exact absurd rfl h
  rw[xA t (by omega)]
  rw[if_neg h4,if_neg (by simp;omega),xB t (by omega)]
  rfl
 | header =>
  unfold step St.more at *
  simp only[]at h⊢
  have hh:header c l≠.wants:=fun e=>h (by rw[e])
  rw[NT c l t hh]
  cases hx:header c l with
  | wants=>exact absurd hx hh
  | err e=>rfl
  | ok r=>rfl
 | blocks =>
  unfold step St.more at *
  simp only[]at h⊢
  have hh:block f l≠.wants:=fun e=>h (by rw[e])
  rw[XK f l t hh]
  cases hx:block f l with
  | wants=>exact absurd hx hh
  | err e=>rfl
  | ok r =>
   obtain⟨last,f',l',x⟩:=r
   simp only[mX.map]
   split
   ·rfl
   ·split<;>rfl
 | sum =>
  unfold step St.more at *
  simp only[]at h⊢
  by_cases h4:l.length<4
  ·rw[if_pos h4]at h;exact absurd rfl h
  rw[if_neg h4,if_neg (by simp;omega),xA t (by omega),xB t (by omega)]
  split<;>rfl
theorem NU{c:aC}{l:aj}{r:Fr×aj}(h:header c l=.ok r):r.2.length<l.length:=by
 unfold header at h
 split at h
 ·cases h
 ·simp only[]at h
  split at h
  ·cases h
  ·split at h
   ·cases h
   ·split at h
    ·cases h
    ·split at h
     ·cases h
     ·cases h
      simp only[List.length_drop]
      omega
theorem DI{f:Fr}{l:aj}{r:Bool×Fr×aj×aj}(h:block f l=.ok r):r.2.2.1.length+2<=l.length/\r.2.2.2.length<=1024/\r.2.1.text=f.text++r.2.2.2/\r.2.1.blocks=f.blocks+1:=by
 unfold block at h
 by_cases h2:l.length<2
 ·rw[if_pos h2]at h;cases h
 rw[if_neg h2]at h
 simp only[]at h
 by_cases hk:au (l.take 2)/2%4=3\/1024<au (l.take 2)/8
 ·rw[if_pos hk]at h;cases h
 rw[if_neg hk]at h
 generalize(if au (l.take 2)/2%4=1 then 1 else au (l.take 2)/8)=n at *
 by_cases hn:l.length<2+n
 ·rw[if_pos hn]at h;cases h
 rw[if_neg hn]at h
 cases hi:inner f (au (l.take 2)/2%4) (au (l.take 2)/8) ((l.drop 2).take n)with
 | none=>rw[hi]at h;cases h
 | some x =>
  obtain⟨text,f'⟩:=x
  rw[hi]at h
  simp only[]at h
  split at h
  ·cases h
  ·rename_i hq
   injection h with h
   subst h
   exact⟨by simp only[List.length_drop];omega,by simp only[];omega,rfl,rfl⟩
theorem xC{c:aC}{s u:St}(h:step c s=.ok u):u.left.length<s.left.length/\(∃t,u.text=s.text++t)/\u.text.length+1024*u.left.length<=s.text.length+1024*s.left.length:=by
 obtain⟨fr,ph,f,l,text⟩:=s
 unfold step at h
 cases ph with
 | letters =>
  simp only[]at h
  split at h
  ·cases h
  ·split at h
   ·cases h
    simp only[List.length_drop]
    exact⟨by omega,⟨[],by simp⟩,by omega⟩
   ·split at h
    ·cases h
     simp only[List.length_drop]
     exact⟨by omega,⟨[],by simp⟩,by omega⟩
    ·cases h
 | skip =>
  simp only[]at h
  split at h
  ·cases h
  ·cases h
   simp only[List.length_drop]
   exact⟨by omega,⟨[],by simp⟩,by omega⟩
 | header =>
  simp only[]at h
  split at h
  ·cases h
  ·cases h
  ·rename_i f' l' hh
   have:=NU hh
   cases h
   exact⟨this,⟨[],by simp⟩,by simp only[]at *;omega⟩
 | blocks =>
  simp only[]at h
  split at h
  ·cases h
  ·cases h
  ·rename_i last f' l' t hh
   obtain⟨h1,h2,h3,h4⟩:=DI hh
   simp only[]at h1 h2
   split at h
   ·cases h
    exact⟨by simp only[];omega,⟨t,rfl⟩,by simp only[List.length_append];omega⟩
   ·split at h
    ·cases h
     exact⟨by simp only[];omega,⟨t,rfl⟩,by simp only[List.length_append];omega⟩
    ·cases h
     exact⟨by simp only[];omega,⟨t,rfl⟩,by simp only[List.length_append];omega⟩
 | sum =>
  simp only[]at h
  split at h
  ·cases h
  ·split at h
   ·cases h
   ·cases h
    simp only[List.length_drop]
    exact⟨by omega,⟨[],by simp⟩,by omega⟩
theorem Reach.trans{c:aC}{a b d:St}(h:Reach c a b)(k:Reach c b d):Reach c a d:=by
 induction k with
 | refl=>exact h
 | tail _ e ih=>exact .tail ih e
theorem Reach.one{c:aC}{a b:St}(h:step c a=.ok b):Reach c a b:=.tail (.refl a) h
theorem Reach.less{c:aC}{a b:St}(h:Reach c a b):b.left.length<=a.left.length/\(∃t,b.text=a.text++t)/\b.text.length+1024*b.left.length<=a.text.length+1024*a.left.length:=by
 induction h with
 | refl=>exact⟨Nat.le_refl _,⟨[],by simp⟩,Nat.le_refl _⟩
 | tail _ e ih =>
  obtain⟨h1,⟨t,h2⟩,h3⟩:=ih
  obtain⟨k1,⟨u,k2⟩,k3⟩:=xC e
  exact⟨by omega,⟨t++u,by rw[k2,h2,List.append_assoc]⟩,by omega⟩
theorem Reach.more{c:aC}{a b:St}(h:Reach c a b)(t:aj):Reach c (a.more t) (b.more t):=by
 induction h with
 | refl=>exact .refl _
 | tail _ e ih =>
  refine .tail ih ?_
  rw[KL c _ t (by rw[e];intro x;cases x),e]
  rfl
theorem NV{c:aC}{s a:St}(h:Reach c s a):∀n,s.left.length<n->∃m,a.left.length<m/\run c n s=run c m a:=by
 induction h with
 | refl=>exact fun n hn=>⟨n,hn,rfl⟩
 | tail _ e ih =>
  intro n hn
  obtain⟨m,hm,hr⟩:=ih n hn
  obtain⟨m,rfl⟩:∃k,m=k+1:=⟨m-1,by omega⟩
  have:=(xC e).1
  refine⟨m,by omega,?_⟩
  rw[hr,run,e]
theorem XL{c:aC}{s a:St}(h:Reach c s a)(hw:step c a=.wants){n:Nat}(hn:s.left.length<n):run c n s=(a,none):=by
 obtain⟨m,hm,hr⟩:=NV h n hn
 obtain⟨m,rfl⟩:∃k,m=k+1:=⟨m-1,by omega⟩
 rw[hr,run,hw]
theorem XM{c:aC}{s a:St}{e:Nat}(h:Reach c s a)(hw:step c a=.err e){n:Nat}(hn:s.left.length<n):run c n s=(a,some e):=by
 obtain⟨m,hm,hr⟩:=NV h n hn
 obtain⟨m,rfl⟩:∃k,m=k+1:=⟨m-1,by omega⟩
 rw[hr,run,hw]
theorem stops(c:aC):∀(n:Nat)(s:St),s.left.length<n->∃a,Reach c s a/\(step c a=.wants\/∃e,step c a=.err e)
 | 0,_,h=>absurd h (by omega)
 | n+1,s,h=>by
  cases e:step c s with
  | wants=>exact⟨s,.refl s,.inl e⟩
  | err k=>exact⟨s,.refl s,.inr ⟨k,e⟩⟩
  | ok u =>
   obtain⟨a,h1,h2⟩:=stops c n u (by have:=(xC e).1;omega)
   exact⟨a,(Reach.one e).trans h1,h2⟩
theorem yQ{c:aC}{fed:aj}{a:St}(closed:Bool)(h:Reach c (St.start fed) a)(hw:step c a=.wants) :
  told c fed closed=(a.text,if closed then(if a.ph=.letters/\a.left=[]then 2 else 7)else 1,(a.frames,a.f.blocks)):=by
 unfold told
 have e:=XL h hw (n:=fed.length+1) (by show fed.length<_;omega)
 simp only[e]
theorem xE{c:aC}{fed:aj}{a:St}{e:Nat}(closed:Bool)(h:Reach c (St.start fed) a)(hw:step c a=.err e) :
  told c fed closed=(a.text,e,(a.frames,a.f.blocks)):=by
 unfold told
 have e':=XM h hw (n:=fed.length+1) (by show fed.length<_;omega)
 simp only[e']
end Go.Proofs.YtbhemchnjpajiaaGreatDoor.RD
namespace Go.Proofs.YtbhemchnjpajiaaGreatDoor
open Go RD
def hlen(h:Nat):Nat:=1+h/32%2+3*(h/16%2)
def bQ(nx:Nat)(bg:aj)(kd nm:Nat):Nat :=
 if nx=0\/nx=6 then 4 else if nx=1 then 3 else if nx=3 then(if bg=[]then 1 else hlen (ak bg 0))else if nx=4 then 2 else if nx=5 then(if kd=1 then 1 else nm)else 0
structure MS where
 fr:Nat
 nx:Nat
 bg:aj
 lf:Nat
 f:RD.Fr
 lk:Bool
 kd:Nat
 nm:Nat
def MS.start:MS:=⟨0,0,[],0,RD.Fr.new,false,0,0⟩
def MS.ended(m:MS):MS:={ m with fr:=m.fr+1,nx:=0,f:=RD.Fr.new }
inductive XO where
 | err (e:Nat)
 | ok (m:MS) (p:aj)
def Over(f:RD.Fr)(lk:Bool)(n:Nat):Prop:=1024<n\/(0<=f.size/\(f.size<((f.text.length+n:Nat):Int)\/(lk=true/\((f.text.length+n:Nat):Int)≠f.size)))
instance (f:RD.Fr) (lk:Bool) (n:Nat):Decidable (Over f lk n):=by unfold Over;exact inferInstance
def MS.grown(f f':RD.Fr)(t:aj):RD.Fr:={ f' with text:=f.text++t,blocks:=f.blocks+1 }
def MS.behind(m:MS)(f:RD.Fr):MS :=
 if m.lk=false then{ m with nx:=4,f:=f }else if f.summed then{ m with nx:=6,f:=f }else({ m with f:=f }:MS).ended
def MS.unit(c:aC)(m:MS)(b:aj):XO :=
 if m.nx=0 then(if b=fJ then .ok { m with nx:=1 } []else if b=iH then .ok { m with nx:=3 } []else .err 4)
 else if m.nx=1 then .ok { m with nx:=2,lf:=au b } []
 else if m.nx=2 then .ok m.ended []
 else if m.nx=3 then
  match RD.header c b with
  | .ok r=>.ok { m with nx:=4,f:=r.1 } []
  | .err e=>.err e
  | .wants=>.err 0
 else if m.nx=4 then
  if au b/2%4=3\/1024<au b/8 then .err 4
  else .ok { m with nx:=5,lk:=decide (au b%2=1),kd:=au b/2%4,nm:=au b/8 } []
 else if m.nx=5 then
  match RD.inner m.f m.kd m.nm b with
  | none=>.err 4
  | some r=>if Over m.f m.lk r.1.length then .err 4 else .ok (m.behind (MS.grown m.f r.2 r.1)) r.1
 else(if(au b:Int)≠SM.sum m.f.text then .err 8 else .ok m.ended [])
def MS.whole(m:MS)(b:aj):Prop:=b.length=bQ m.nx b m.kd m.nm
def MS.none(m:MS):MS:={ m with bg:=[] }
inductive zU (c:aC) (m0:MS) (t0:aj):MS->aj->aj->Prop where
 | refl:zU c m0 t0 m0 t0 []
 | unit {m:MS} {rest out:aj} {k:Nat} {m':MS} {p:aj}:zU c m0 t0 m rest out->m.nx≠2->k<=rest.length->m.whole (m.bg++rest.take k)->m.none.unit c (m.bg++rest.take k)=.ok m' p->zU c m0 t0 m' (rest.drop k) (out++p)
 | skip {m:MS} {rest out:aj}:zU c m0 t0 m rest out->m.nx=2->m.lf<=rest.length->zU c m0 t0 ({ m with lf:=0 }:MS).ended (rest.drop m.lf) out
inductive xG (c:aC) (m:MS) (rest:aj):MS->Option Nat->Prop where
 | wants:m.nx≠2->(m.bg++rest).length<bQ m.nx (m.bg++rest) m.kd m.nm->xG c m rest { m with bg:=m.bg++rest } Option.none
 | NW:m.nx=2->rest.length<m.lf->xG c m rest { m with lf:=m.lf-rest.length } Option.none
 | err {k e:Nat}:m.nx≠2->k<=rest.length->m.whole (m.bg++rest.take k)->m.none.unit c (m.bg++rest.take k)=.err e->xG c m rest m (some e)
structure Lk(c:aC)(fed:aj)(m:MS)(rest out:aj)(a:RD.St):Prop where
 reach:RD.Reach c (RD.St.start fed) a
 fr:a.frames=m.fr
 f:a.f=m.f
 text:a.text=out
 at':(m.nx=0/\a.ph=.letters/\a.left=m.bg++rest)\/(m.nx=1/\a.ph=.skip/\a.left=m.bg++rest)\/(m.nx=2/\m.bg=[]/\a.ph=.skip/\∃p,a.left=p++rest/\3<=p.length/\3+au (p.take 3)=p.length+m.lf) \/
  (m.nx=3/\a.ph=.header/\a.left=m.bg++rest)\/(m.nx=4/\a.ph=.blocks/\a.left=m.bg++rest) \/
  (m.nx=5/\a.ph=.blocks/\∃p,p.length=2/\a.left=p++(m.bg++rest)/\m.lk=decide (au p%2=1)/\m.kd=au p/2%4/\m.nm=au p/8/\¬(m.kd=3\/1024<m.nm))\/(m.nx=6/\a.ph=.sum/\a.left=m.bg++rest)
theorem Lk.start(c:aC):Lk c [] MS.start [] [] (RD.St.start []):=⟨.refl _,rfl,rfl,rfl,.inl ⟨rfl,rfl,rfl⟩⟩
theorem Lk.more{c:aC}{fed:aj}{m:MS}{out:aj}{a:RD.St}(h:Lk c fed m [] out a)(t:aj):Lk c (fed++t) m t out (a.more t):=by
 refine⟨h.reach.more t,h.fr,h.f,h.text,?_⟩
 show(_/\a.ph=_/\a.left++t=_)\/(_/\a.ph=_/\a.left++t=_)\/(_/\_/\a.ph=_/\∃p,a.left++t=_/\_)\/(_/\a.ph=_/\a.left++t=_)\/(_/\a.ph=_/\a.left++t=_)\/(_/\a.ph=_/\∃p,_/\a.left++t=_/\_)\/(_/\a.ph=_/\a.left++t=_)
 rcases h.at' with⟨h1,h2,h3⟩|⟨h1,h2,h3⟩|⟨h1,h2,h3,p,h4,h5⟩|⟨h1,h2,h3⟩|⟨h1,h2,h3⟩|⟨h1,h2,p,h3,h4,h5⟩|⟨h1,h2,h3⟩
 ·exact .inl ⟨h1,h2,by rw[h3,List.append_nil]⟩
 ·exact .inr (.inl ⟨h1,h2,by rw[h3,List.append_nil]⟩)
 ·exact .inr (.inr (.inl ⟨h1,h2,h3,p,by rw[h4,List.append_nil],h5⟩))
 ·exact .inr (.inr (.inr (.inl ⟨h1,h2,by rw[h3,List.append_nil]⟩)))
 ·exact .inr (.inr (.inr (.inr (.inl ⟨h1,h2,by rw[h3,List.append_nil]⟩))))
 ·exact .inr (.inr (.inr (.inr (.inr (.inl ⟨h1,h2,p,h3,by rw[h4,List.append_nil,List.append_assoc],h5⟩)))))
 ·exact .inr (.inr (.inr (.inr (.inr (.inr ⟨h1,h2,by rw[h3,List.append_nil]⟩)))))
theorem XP{bg rest l:aj}{k:Nat}(hk:k<=rest.length)(h:l=bg++rest):l=(bg++rest.take k)++rest.drop k:=by
 rw[h,List.append_assoc,List.take_append_drop]
theorem XQ{c:aC}{b:aj}(h:b.length=bQ 3 b 0 0):RD.header c b≠.wants:=by
 have hb:¬b=[]:=fun e=>by subst e;simp[bQ]at h
 have hl:¬b.length=0:=fun e=>hb (List.length_eq_zero_iff.1 e)
 have hu:bQ 3 b 0 0=hlen (ak b 0):=if_neg hb
 rw[hu,hlen]at h
 unfold RD.header
 rw[if_neg hl]
 simp only[]
 rw[if_neg (by omega)]
 repeat' split
 all_goals exact fun e=>by cases e
theorem XR{c:aC}{b:aj}{r:RD.Fr×aj}(h:b.length=bQ 3 b 0 0)(hr:RD.header c b=.ok r):r.2=[]:=by
 have hb:¬b=[]:=fun e=>by subst e;simp[bQ]at h
 have hl:¬b.length=0:=fun e=>hb (List.length_eq_zero_iff.1 e)
 have hu:bQ 3 b 0 0=hlen (ak b 0):=if_neg hb
 rw[hu,hlen]at h
 unfold RD.header at hr
 rw[if_neg hl]at hr
 simp only[]at hr
 rw[if_neg (by omega)]at hr
 repeat' split at hr
 all_goals cases hr
 all_goals(simp only[];rw[<- h,List.drop_length])
theorem XT{f:RD.Fr}{p b rest:aj}{kd nm:Nat}(hp:p.length=2)(hk:kd=au p/2%4)(hm:nm=au p/8)(hok:¬(kd=3\/1024<nm))(hb:b.length=bQ 5 b kd nm) :
  RD.block f (p++(b++rest))=match RD.inner f kd nm b with
   | none=>.err 4
   | some r=>if Over f (decide (au p%2=1)) r.1.length then .err 4 else .ok (decide (au p%2=1),MS.grown f r.2 r.1,rest,r.1):=by
 have hu:bQ 5 b kd nm=if kd=1 then 1 else nm:=rfl
 rw[hu]at hb
 have ht:(p++(b++rest)).take 2=p:=by rw[List.take_append_of_le_length (by omega),List.take_of_length_le (by omega)]
 have hd:(p++(b++rest)).drop 2=b++rest:=by rw[<- hp,List.drop_left]
 unfold RD.block
 rw[if_neg (by rw[List.length_append];omega)]
 simp only[ht,hd]
 rw[<- hk,<- hm,if_neg hok,<- hb,if_neg (by rw[List.length_append,List.length_append];omega),List.take_left,show(p++(b++rest)).drop (2+b.length)=rest by rw[<- List.drop_drop,hd,List.drop_left]]
 cases RD.inner f kd nm b with
 | none=>rfl
 | some r =>
  simp only[]
  unfold Over
  simp only[decide_eq_true_eq]
  rfl
theorem Lk.unit{c:aC}{fed:aj}{m:MS}{rest out:aj}{a:RD.St}(h:Lk c fed m rest out a){k:Nat}(h2:m.nx≠2)(hk:k<=rest.length)(hw:m.whole (m.bg++rest.take k)) :
  (∀m' p,m.none.unit c (m.bg++rest.take k)=.ok m' p->∃a',Lk c fed m' (rest.drop k) (out++p) a')/\∀e,m.none.unit c (m.bg++rest.take k)=.err e->RD.step c a=.err e:=by
 obtain⟨fr,ph,f,left,text⟩:=a
 obtain⟨He,nx,bg,lf,mf,lk,kd,nm⟩:=m
 obtain⟨hr,h1,h3,h4,hat⟩:=h
 simp only at h1 h3 h4 hat h2 hk
 subst h1 h3 h4
 generalize hbd:bg++rest.take k=b at *
 have hw:b.length=bQ nx b kd nm:=hw
 have hcut:∀l,l=bg++rest->l=b++rest.drop k:=fun l hl=>by rw[<- hbd];exact XP hk hl
 rcases hat with⟨rfl,rfl,hl⟩|⟨rfl,rfl,hl⟩|⟨e,_⟩|⟨rfl,rfl,hl⟩|⟨rfl,rfl,hl⟩|⟨rfl,rfl,p,hp,hl,e1,e2,e3,e4⟩|⟨rfl,rfl,hl⟩
 ·have hl:=hcut _ hl
  have hw4:b.length=4:=hw
  have hst:RD.step c ⟨fr,.letters,f,left,text⟩=if b=fJ then .ok ⟨fr,.skip,f,rest.drop k,text⟩else if b=iH then .ok ⟨fr,.header,f,rest.drop k,text⟩else .err 4:=by
   subst hl
   unfold RD.step
   simp only[]
   rw[if_neg (by rw[List.length_append];omega),<- hw4,List.take_left,List.drop_left]
  have hu:(MS.none ⟨fr,0,bg,lf,f,lk,kd,nm⟩).unit c b=if b=fJ then .ok ⟨fr,1,[],lf,f,lk,kd,nm⟩ []else if b=iH then .ok ⟨fr,3,[],lf,f,lk,kd,nm⟩ []else .err 4:=rfl
  rw[hu,hst]
  by_cases k1:b=fJ
  ·rw[if_pos k1,if_pos k1]
   rw[if_pos k1]at hst
   refine⟨fun m' p e=>?_,fun e he=>by cases he⟩
   cases e
   exact⟨_,.tail hr hst,rfl,rfl,by rw[List.append_nil],.inr (.inl ⟨rfl,rfl,rfl⟩)⟩
  ·rw[if_neg k1,if_neg k1]
   rw[if_neg k1]at hst
   by_cases k3:b=iH
   ·rw[if_pos k3,if_pos k3]
    rw[if_pos k3]at hst
    refine⟨fun m' p e=>?_,fun e he=>by cases he⟩
    cases e
    exact⟨_,.tail hr hst,rfl,rfl,by rw[List.append_nil],.inr (.inr (.inr (.inl ⟨rfl,rfl,rfl⟩)))⟩
   ·rw[if_neg k3,if_neg k3]
    exact⟨fun m' p e=>(by cases e),fun e he=>by cases he;rfl⟩
 ·have hl:=hcut _ hl
  have hw3:b.length=3:=hw
  have hu:(MS.none ⟨fr,1,bg,lf,f,lk,kd,nm⟩).unit c b=.ok ⟨fr,2,[],au b,f,lk,kd,nm⟩ []:=rfl
  rw[hu]
  refine⟨fun m' p e=>?_,fun e he=>by cases he⟩
  cases e
  refine⟨_,hr,rfl,rfl,by rw[List.append_nil],.inr (.inr (.inl ⟨rfl,rfl,rfl,b,hl,by omega,?_⟩))⟩
  rw[List.take_of_length_le (by omega),hw3]
 ·exact absurd e h2
 ·have hl:=hcut _ hl
  have hw':b.length=bQ 3 b 0 0:=hw
  have hne:=XQ (c:=c) hw'
  have hst:RD.step c ⟨fr,.header,f,left,text⟩=match RD.header c b with
   | .wants=>.wants
   | .err e=>.err e
   | .ok r=>.ok ⟨fr,.blocks,r.1,r.2++rest.drop k,text⟩:=by
   subst hl
   unfold RD.step
   simp only[]
   rw[NT c b _ hne]
   cases RD.header c b<;>rfl
  have hu:(MS.none ⟨fr,3,bg,lf,f,lk,kd,nm⟩).unit c b=match RD.header c b with
   | .ok r=>.ok ⟨fr,4,[],lf,r.1,lk,kd,nm⟩ []
   | .err e=>.err e
   | .wants=>.err 0:=rfl
  rw[hu,hst]
  cases hx:RD.header c b with
  | wants=>exact absurd hx hne
  | err e=>exact⟨fun m' p e=>(by cases e),fun e he=>by cases he;rfl⟩
  | ok r =>
   rw[hx]at hst
   have hr2:=XR hw' hx
   refine⟨fun m' p e=>?_,fun e he=>by cases he⟩
   cases e
   exact⟨_,.tail hr hst,rfl,rfl,by rw[List.append_nil],.inr (.inr (.inr (.inr (.inl ⟨rfl,rfl,by simp[hr2]⟩))))⟩
 ·have hl:=hcut _ hl
  have hw2:b.length=2:=hw
  have hu:(MS.none ⟨fr,4,bg,lf,f,lk,kd,nm⟩).unit c b=if au b/2%4=3\/1024<au b/8 then .err 4 else .ok ⟨fr,5,[],lf,f,decide (au b%2=1),au b/2%4,au b/8⟩ []:=rfl
  rw[hu]
  by_cases hbad:au b/2%4=3\/1024<au b/8
  ·rw[if_pos hbad]
   refine⟨fun m' p e=>(by cases e),fun e he=>?_⟩
   cases he
   subst hl
   unfold RD.step RD.block
   simp only[]
   have ht:(b++rest.drop k).take 2=b:=by rw[<- hw2,List.take_left]
   rw[if_neg (by rw[List.length_append];omega),ht,if_pos hbad]
  ·rw[if_neg hbad]
   refine⟨fun m' p e=>?_,fun e he=>by cases he⟩
   cases e
   exact⟨_,hr,rfl,rfl,by rw[List.append_nil],.inr (.inr (.inr (.inr (.inr (.inl ⟨rfl,rfl,b,hw2,by rw[hl];rfl,rfl,rfl,rfl,hbad⟩)))))⟩
 ·have hl':left=p++(b++rest.drop k):=by rw[hl,hcut _ rfl]
  have hblk:=XT (f:=f) (rest:=rest.drop k) hp e2 e3 e4 hw
  rw[<- hl',<- e1]at hblk
  have hu:(MS.none ⟨fr,5,bg,lf,f,lk,kd,nm⟩).unit c b=match RD.inner f kd nm b with
   | none=>.err 4
   | some r=>if Over f lk r.1.length then .err 4 else .ok ((⟨fr,5,[],lf,f,lk,kd,nm⟩:MS).behind (MS.grown f r.2 r.1)) r.1:=rfl
  have hst:RD.step c ⟨fr,.blocks,f,left,text⟩=match RD.block f left with
   | .wants=>.wants
   | .err e=>.err e
   | .ok (last,f,l,t) =>
    if last=false then .ok ⟨fr,.blocks,f,l,text++t⟩
    else if f.summed then .ok ⟨fr,.sum,f,l,text++t⟩
    else .ok ⟨fr+1,.letters,RD.Fr.new,l,text++t⟩:=rfl
  rw[hblk]at hst
  rw[hu,hst]
  cases hx:RD.inner f kd nm b with
  | none=>exact⟨fun m' p e=>(by cases e),fun e he=>by cases he;rfl⟩
  | some r =>
   rw[hx]at hst
   simp only[]at hst⊢
   by_cases ho:Over f lk r.1.length
   ·rw[if_pos ho,if_pos ho]
    exact⟨fun m' p e=>(by cases e),fun e he=>by cases he;rfl⟩
   ·rw[if_neg ho,if_neg ho]
    rw[if_neg ho]at hst
    refine⟨fun m' p e=>?_,fun e he=>by cases he⟩
    cases e
    unfold MS.behind
    simp only[]at hst⊢
    by_cases hlk:lk=false
    ·rw[if_pos hlk]at hst⊢
     exact⟨_,.tail hr hst,rfl,rfl,rfl,.inr (.inr (.inr (.inr (.inl ⟨rfl,rfl,rfl⟩))))⟩
    ·rw[if_neg hlk]at hst⊢
     by_cases hsm:(MS.grown f r.2 r.1).summed=true
     ·rw[if_pos hsm]at hst⊢
      exact⟨_,.tail hr hst,rfl,rfl,rfl,.inr (.inr (.inr (.inr (.inr (.inr ⟨rfl,rfl,rfl⟩)))))⟩
     ·rw[if_neg hsm]at hst⊢
      exact⟨_,.tail hr hst,rfl,rfl,rfl,.inl ⟨rfl,rfl,rfl⟩⟩
 ·have hl:=hcut _ hl
  have hw4:b.length=4:=hw
  have hst:RD.step c ⟨fr,.sum,f,left,text⟩=if(au b:Int)≠SM.sum f.text then .err 8 else .ok ⟨fr+1,.letters,RD.Fr.new,rest.drop k,text⟩:=by
   subst hl
   unfold RD.step
   simp only[]
   rw[if_neg (by rw[List.length_append];omega),<- hw4,List.take_left,List.drop_left]
  have hu:(MS.none ⟨fr,6,bg,lf,f,lk,kd,nm⟩).unit c b=if(au b:Int)≠SM.sum f.text then .err 8 else .ok ⟨fr+1,0,[],lf,RD.Fr.new,lk,kd,nm⟩ []:=rfl
  rw[hu,hst]
  by_cases ho:(au b:Int)≠SM.sum f.text
  ·rw[if_pos ho,if_pos ho]
   exact⟨fun m' p e=>(by cases e),fun e he=>by cases he;rfl⟩
  ·rw[if_neg ho,if_neg ho]
   rw[if_neg ho]at hst
   refine⟨fun m' p e=>?_,fun e he=>by cases he⟩
   cases e
   exact⟨_,.tail hr hst,rfl,rfl,by rw[List.append_nil],.inl ⟨rfl,rfl,rfl⟩⟩
theorem Lk.skip{c:aC}{fed:aj}{m:MS}{rest out:aj}{a:RD.St}(h:Lk c fed m rest out a)(h2:m.nx=2)(hk:m.lf<=rest.length):∃a',Lk c fed ({ m with lf:=0 }:MS).ended (rest.drop m.lf) out a':=by
 obtain⟨fr,ph,f,left,text⟩:=a
 obtain⟨He,nx,bg,lf,mf,lk,kd,nm⟩:=m
 obtain⟨hr,h1,h3,h4,hat⟩:=h
 simp only at h1 h3 h4 hat h2 hk
 subst h1 h3 h4 h2
 rcases hat with⟨e,_⟩|⟨e,_⟩|⟨_,hbg,rfl,p,hl,hp3,hlf⟩|⟨e,_⟩|⟨e,_⟩|⟨e,_⟩|⟨e,_⟩
 all_goals first|(exfalso;exact absurd e (by decide))|skip
 subst hbg
 have ht3:left.take 3=p.take 3:=by rw[hl,List.take_append_of_le_length (by omega)]
 have hlen:left.length=p.length+rest.length:=by rw[hl,List.length_append]
 have hst:RD.step c ⟨fr,.skip,f,left,text⟩=.ok ⟨fr+1,.letters,RD.Fr.new,left.drop (3+au (left.take 3)),text⟩:=by
  unfold RD.step
  simp only[]
  rw[if_neg (by rw[ht3];omega)]
 refine⟨_,.tail hr hst,rfl,rfl,rfl,.inl ⟨rfl,rfl,?_⟩⟩
 show left.drop (3+au (left.take 3))=[]++rest.drop lf
 rw[ht3,hlf,hl,<- List.drop_drop,List.drop_left,List.nil_append]
theorem Lk.ends{c:aC}{fed:aj}{m:MS}{rest out:aj}{a:RD.St}(h:Lk c fed m rest out a){m':MS}{e:Option Nat}(he:xG c m rest m' e) :
  (e=none->RD.step c a=.wants/\Lk c fed m' [] out a)/\∀n,e=some n->RD.step c a=.err n:=by
 cases he with
 | err h2 hk hw hu=>exact⟨fun e=>(by cases e),fun n e=>by cases e;exact(h.unit h2 hk hw).2 _ hu⟩
 | wants h2 hlt =>
  refine⟨fun _=>?_,fun n e=>by cases e⟩
  obtain⟨fr,ph,f,left,text⟩:=a
  obtain⟨He,nx,bg,lf,mf,lk,kd,nm⟩:=m
  obtain⟨hr,h1,h3,h4,hat⟩:=h
  simp only at h1 h3 h4 hat h2 hlt
  subst h1 h3 h4
  rcases hat with⟨rfl,rfl,hl⟩|⟨rfl,rfl,hl⟩|⟨e,_⟩|⟨rfl,rfl,hl⟩|⟨rfl,rfl,hl⟩|⟨rfl,rfl,p,hp,hl,e1,e2,e3,e4⟩|⟨rfl,rfl,hl⟩
  ·rw[<- hl]at hlt⊢
   have hlt:left.length<4:=hlt
   exact⟨by unfold RD.step;simp only[];rw[if_pos hlt],hr,rfl,rfl,rfl,.inl ⟨rfl,rfl,by simp⟩⟩
  ·rw[<- hl]at hlt⊢
   have hlt:left.length<3:=hlt
   exact⟨by unfold RD.step;simp only[];rw[if_pos (.inl hlt)],hr,rfl,rfl,rfl,.inr (.inl ⟨rfl,rfl,by simp⟩)⟩
  ·exact absurd e h2
  ·rw[<- hl]at hlt⊢
   refine⟨?_,hr,rfl,rfl,rfl,.inr (.inr (.inr (.inl ⟨rfl,rfl,by simp⟩)))⟩
   unfold RD.step RD.header
   simp only[]
   by_cases h0:left=[]
   ·subst h0;rfl
   ·have hu:bQ 3 left kd nm=hlen (ak left 0):=if_neg h0
    rw[hu,hlen]at hlt
    rw[if_neg (fun e=>h0 (List.length_eq_zero_iff.1 e)),if_pos hlt]
  ·rw[<- hl]at hlt⊢
   have hlt:left.length<2:=hlt
   refine⟨?_,hr,rfl,rfl,rfl,.inr (.inr (.inr (.inr (.inl ⟨rfl,rfl,by simp⟩))))⟩
   unfold RD.step RD.block
   simp only[]
   rw[if_pos hlt]
  ·refine⟨?_,hr,rfl,rfl,rfl,.inr (.inr (.inr (.inr (.inr (.inl ⟨rfl,rfl,p,hp,by simpa using hl,e1,e2,e3,e4⟩)))))⟩
   have hu:bQ 5 (bg++rest) kd nm=if kd=1 then 1 else nm:=rfl
   rw[hu]at hlt
   have ht:left.take 2=p:=by rw[hl,List.take_append_of_le_length (by omega),List.take_of_length_le (by omega)]
   have hll:left.length=2+(bg++rest).length:=by rw[hl,List.length_append,hp]
   unfold RD.step RD.block
   simp only[]
   rw[if_neg (by omega),ht,<- e2,<- e3,if_neg e4,if_pos (by omega)]
  ·rw[<- hl]at hlt⊢
   have hlt:left.length<4:=hlt
   exact⟨by unfold RD.step;simp only[];rw[if_pos hlt],hr,rfl,rfl,rfl,.inr (.inr (.inr (.inr (.inr (.inr ⟨rfl,rfl,by simp⟩)))))⟩
 | NW h2 hlt =>
  refine⟨fun _=>?_,fun n e=>by cases e⟩
  obtain⟨fr,ph,f,left,text⟩:=a
  obtain⟨He,nx,bg,lf,mf,lk,kd,nm⟩:=m
  obtain⟨hr,h1,h3,h4,hat⟩:=h
  simp only at h1 h3 h4 hat h2 hlt
  subst h1 h3 h4 h2
  rcases hat with⟨e,_⟩|⟨e,_⟩|⟨_,hbg,rfl,p,hl,hp3,hlf⟩|⟨e,_⟩|⟨e,_⟩|⟨e,_⟩|⟨e,_⟩
  all_goals first|(exfalso;exact absurd e (by decide))|skip
  subst hbg
  have ht3:left.take 3=p.take 3:=by rw[hl,List.take_append_of_le_length (by omega)]
  have hlen:left.length=p.length+rest.length:=by rw[hl,List.length_append]
  refine⟨?_,hr,rfl,rfl,rfl,.inr (.inr (.inl ⟨rfl,rfl,rfl,left,by simp,by omega,?_⟩))⟩
  ·unfold RD.step
   simp only[]
   rw[if_pos (.inr (by rw[ht3];omega))]
  ·show 3+au (left.take 3)=left.length+(lf-rest.length)
   rw[ht3];omega
end Go.Proofs.YtbhemchnjpajiaaGreatDoor
namespace Go.Proofs.YtbhemchnjpajiaaGreatDoor
open Go.RowKit Go.Proofs.Tryz RD
theorem NY:∀h:Fin 256,bits .and .u8 (h.val:Int) 32=((h.val/32%2*32:Nat):Int):=by decide +kernel
theorem NZ:∀h:Fin 256,bits .and .u8 (h.val:Int) 16=((h.val/16%2*16:Nat):Int):=by decide +kernel
theorem XU:∀h:Fin 256,bits .and .u8 (h.val:Int) 8=((h.val/8%2*8:Nat):Int):=by decide +kernel
theorem u8_and7:∀h:Fin 256,bits .and .u8 (h.val:Int) 7=((h.val%8:Nat):Int):=by decide +kernel
theorem XV:∀h:Fin 256,bits .and .u8 (h.val:Int) 192=((h.val/64*64:Nat):Int):=by decide +kernel
theorem XW(h:Nat)(hh:h<256)(w:World) :
  Calls prog 93 #[.int .u8 h] w fun e w'=>e=.returned (.int .i64 (hlen h:Nat))/\w'=w:=by
 have h32:=NY ⟨h,hh⟩
 have h16:=NZ ⟨h,hh⟩
 simp only[]at h32 h16
 go_enter func93,ntmps93
 by_cases k1:h/32%2=0<;>by_cases k2:h/16%2=0
 all_goals
  go_wp2_with fail
 all_goals
  go_ret
  refine⟨xk ?_,rfl⟩
  unfold hlen
  omega
def DJ(x:Fx)(N:Nat)(w:World)(e:Ending)(w':World):Prop :=
 Below w.heap.size w w'/\(((N/2%4=3\/1024<N/8)/\e=.returned (.tuple #[.agg #[.bool false,.int .i64 0,.int .i64 0],aW x.f])) \/
   (¬(N/2%4=3\/1024<N/8)/\e=.returned (.tuple #[.agg #[.bool (decide (N%2=1)),.int .i64 ((N/2%4:Nat)),.int .i64 ((N/8:Nat))],.nilIface])))
theorem XY(x:Fx)(l:aj)(hl:l.length=2)(w:World)(hV:bI x w) :
  Calls prog 96 #[.string (ah l)] w (DJ x (au l) w):=by
 have hN:=qP l 2 (by omega)
 rw[List.take_of_length_le (by omega)]at hN
 have h8:8<=w.heap.size:=Nat.le_trans hV.eight hV.size
 have cF:=hV.cF
 go_enter func96,ntmps96
 go_wp2_with fail
 refine(snum_any l _ (by omega)).mono ?_
 rintro e w1 ⟨rfl,rfl⟩
 generalize au l=N at *
 have hP:∀e w',DJ x N w e w'↔DJ x N w e w':=fun _ _=>Iff.rfl
 obtain⟨K,hK⟩:∃K,K=N/2%4:=⟨_,rfl⟩
 obtain⟨M,hM⟩:∃M,M=N/8:=⟨_,rfl⟩
 obtain⟨L,hL⟩:∃L,L=decide (N%2=1):=⟨_,rfl⟩
 have aK:bits .and .i64 ((N:Int)/2) 3=(K:Int):=by
  have:=zS (N/2) (by omega)
  rw[show((N/2:Nat):Int)=(N:Int)/2 by omega]at this
  rw[this,hK]
 have aM:(N:Int)/8=(M:Int):=by omega
 have aL:(bits .and .i64 (N:Int) 1 != 0)=L:=by
  rw[and_one N (by omega),hL]
  rcases Nat.mod_two_eq_zero_or_one N with h|h<;>rw[h]<;>rfl
 unfold DJ
 rw[<- hK,<- hM,<- hL]
 have hKb:K<4:=by omega
 have fV:M<=16777216:=by omega
 replace hK:=aA hK
 replace hM:=aA hM
 replace hL:=aA hL
 clear hP
 have hba:∀o o':Obj,Below w.heap.size w ((w.alloc o).alloc o'):=fun o o'=>((Below.refl _ w).alloc (Nat.le_refl _) _).alloc (by simp) _
 by_cases hbad:K=3\/1024<M
 ·have DK:=hV.below (hba (.cells #[.bool false,.int .i64 0,.int .i64 0] 144) (.cells #[.bool L,.int .i64 K,.int .i64 M] 144))
  have hbW:=hba (.cells #[.bool false,.int .i64 0,.int .i64 0] 144) (.cells #[.bool L,.int .i64 K,.int .i64 M] 144)
  have hR:aB ((w.alloc (.cells #[.bool false,.int .i64 0,.int .i64 0] 144)).alloc (.cells #[.bool L,.int .i64 K,.int .i64 M] 144)) w.heap.size 144 [.bool false,.int .i64 0,.int .i64 0]:=(aB.new w _ _).alloc _
  have DL:((K:Int)==3)=true\/(((K:Int)==3)=false/\1024<M):=by
   rcases hbad with h|h
   ·exact .inl (by simp;omega)
   ·by_cases h3:K=3
    ·exact .inl (by simp;omega)
    ·exact .inr ⟨by simp;omega,h⟩
  rcases DL with DL|⟨DL,gK⟩
  all_goals
    go_wp2_with fail
    generalize(w.alloc (.cells #[.bool false,.int .i64 0,.int .i64 0] 144)).alloc (.cells #[.bool L,.int .i64 K,.int .i64 M] 144)=W at *
    have z0:=hR.cell (j:=0) rfl
    have z1:=hR.cell (j:=1) rfl
    have z2:=hR.cell (j:=2) rfl
    have fz:=hR.free
    have cFW:=DK.cF
    have hbR:Hid (Below w.heap.size w W):=hbW
    obtain⟨R,hRe⟩:∃R,R=w.heap.size:=⟨_,rfl⟩
    rw[<- hRe]at z0 z1 z2 fz hR h8
    rw[<- hRe]
    have DN:¬6=R:=by omega
    have ahR:¬R=6:=by omega
    replace hRe:=aA hRe
    clear hbW hba
    go_region_with fail
    all_goals
     go_wp2_with fail
     have hR2:=((hR.put 0 (.bool false)).put 1 (.int .i64 0)).put 2 (.int .i64 0)
     have hb2:Below w.heap.size w (((W.setCell ⟨R,0,none⟩ (.bool false)).setCell ⟨R,1,none⟩ (.int .i64 0)).setCell ⟨R,2,none⟩ (.int .i64 0)):=((hbR.out.setCell (by rw[hRe.out];exact Nat.le_refl _) _).setCell (by rw[hRe.out];exact Nat.le_refl _) _).setCell (by rw[hRe.out];exact Nat.le_refl _) _
     generalize((W.setCell ⟨R,0,none⟩ (.bool false)).setCell ⟨R,1,none⟩ (.int .i64 0)).setCell ⟨R,2,none⟩ (.int .i64 0)=W2 at *
     have y0:=hR2.cell (j:=0) rfl
     have y1:=hR2.cell (j:=1) rfl
     have y2:=hR2.cell (j:=2) rfl
     refine bodyPost_ret (v:=.tuple #[.agg #[.bool false,.int .i64 0,.int .i64 0],aW x.f]) (by simp[results,results96,go_sem,y0,y1,y2]) rfl ?_
     exact⟨jW hb2,.inl ⟨by rw[<- hK.out,<- hM.out];exact hbad,rfl⟩⟩
 ·have hK3:¬K=3:=fun e=>hbad (.inl e)
  have gK:M<=1024:=by omega
  have DL:((K:Int)==3)=false:=by simp;omega
  go_wp2_with fail
  refine bodyPost_ret (v:=.tuple #[.agg #[.bool L,.int .i64 K,.int .i64 M],.nilIface]) (by simp[results,results96,go_sem]) rfl ?_
  exact⟨hba _ _,.inr ⟨by rw[<- hK.out,<- hM.out];exact hbad,by rw[<- hK.out,<- hM.out,<- hL.out]⟩⟩
theorem XZ(b:Bool)(kd nm:Nat)(w:World) :
  Calls prog 94 #[.agg #[.bool b,.int .i64 kd,.int .i64 nm]] w fun e w'=>e=.returned (.int .i64 (if kd=1 then 1 else nm:Nat))/\Below w.heap.size w w':=by
 have hb:=(Below.refl w.heap.size w).alloc (Nat.le_refl _)
 by_cases hk:kd=1
 ·subst hk
  go_enter func94,ntmps94
  go_wp2_with fail
  go_ret
  exact⟨rfl,hb _⟩
 ·have hk':((kd:Int)==1)=false:=by simp;omega
  rw[if_neg hk]
  go_enter func94,ntmps94
  go_wp2_with fail
  go_ret
  exact⟨rfl,hb _⟩
section
def dw:List Value->Nat->List Value->List Value
 | ss,_,[]=>ss
 | ss,o,v::r=>dw (ss.set o v) (o+1) r
theorem tZ:∀(vs ss:List Value)(o:Nat),(dw ss o vs).length=ss.length
 | [],_,_=>rfl
 | v::r,ss,o=>by rw[dw,tZ r,List.length_set]
theorem kR:∀(vs ss:List Value)(o j:Nat),j<o\/o+vs.length<=j->(dw ss o vs)[j]?=ss[j]?
 | [],_,_,_,_=>rfl
 | v::r,ss,o,j,h=>by
  rw[List.length_cons]at h
  rw[dw,kR r _ _ _ (by omega),List.getElem?_set_ne (by omega)]
theorem t_:∀(vs ss:List Value)(o j:Nat),o+vs.length<=ss.length->j<vs.length->(dw ss o vs)[o+j]?=vs[j]?
 | [],_,_,_,_,h=>by simp at h
 | v::r,ss,o,0,h,_=>by
  rw[List.length_cons]at h
  rw[dw,kR r _ _ _ (by omega),Nat.add_zero,List.getElem?_set_self (by omega)]
  rfl
 | v::r,ss,o,j+1,h,hj=>by
  rw[List.length_cons]at h hj
  rw[dw,show o+(j+1)=o+1+j by omega,t_ r _ _ _ (by rw[List.length_set];omega) (by omega)]
  rfl
attribute [local irreducible] dw
theorem get_some{l:List Value}{i:Nat}(h:i<l.length):∃z,l[i]?=some z:=⟨_,List.getElem?_eq_getElem h⟩
theorem aB.puts{g:Nat}{t:TypeId}:∀(vs:List Value)(w:World)(ss:List Value)(o:Nat),aB w g t ss->aB (w.setCells g o vs) g t (dw ss o vs)
 | [],w,ss,o,h=>by rw[dw];exact h
 | v::r,w,ss,o,h=>by rw[dw];exact aB.puts r _ _ _ (h.put o v)
theorem aB.there{w:World}{g:Nat}{t:TypeId}{ss:List Value}(h:aB w g t ss){o n:Nat}(hn:o+n<=ss.length):w.there g o n:=fun j hj =>
 ⟨by rw[h.cell (List.getElem?_eq_getElem (show o+j<ss.length by omega))];rfl,h.free _⟩
theorem aB.range{w:World}{g:Nat}{t:TypeId}{ss:List Value}(h:aB w g t ss){o:Nat}{cs:List Value}(hc:∀j v,cs[j]?=some v->ss[o+j]?=some v):w.rangeAt g o cs:=fun j v hv=>h.cell (hc j v hv)
theorem ug{P:Program}{ops:Array Oper}{rest:List Oper}{op:Oper}{a:Act}{w:World}{Q:Exit->Act->World->Prop}{S:Nat}{t:TypeId}{ss:List Value}(hgd:op.guard=none)(ty:TypeId)(x y:Operand)(ho:op.op=.store ty x y)
  (o:Nat) (cells:Array Value) (hx:a.eval x=.pointer (some ⟨S,o,none⟩)) (hy:a.eval y=.agg cells)
  (hB:aB w S t ss) (hn:o+cells.size<=ss.length) (hi:(P.info? ty).map (·.size)=some cells.size) (h1:cells.all (·.oneCell')=true)
  (h:∀W,aB W S t (dw ss o cells.toList)->Only (·=S) w W->wpList P ops Q rest (a.put op.dst undef) W):wpList P ops Q (op::rest) a w :=
 wpList_store_mid hgd ty x y ho S o cells hx hy (hB.there hn) hi h1 (h _ (aB.puts _ _ _ _ hB) (qc S _ _ _))
structure Hf(B S:Nat)(t:TypeId)(ss:List Value)(nx:Nat)(v:Value)(bg:aj)(lk:Bool)(kd nm:Nat)(w:World):Prop where
 blk:aB w S t ss
 next:ss[5]?=some (.int .i64 nx)
 begun:ss[6]?=some v
 row:aT B w v bg
 last:ss[31]?=some (.bool lk)
 kind:ss[32]?=some (.int .i64 kd)
 num:ss[33]?=some (.int .i64 nm)
 lV:nx<7
 small:bg.length<=1048576/\nm<=1048576
theorem X3(B S:Nat)(t:TypeId)(ss:List Value)(nx:Nat)(v:Value)(bg:aj)(lk:Bool)(kd nm:Nat)(w:World)(h:Hf B S t ss nx v bg lk kd nm w) :
  Calls prog 77 #[.pointer (some ⟨S,0,none⟩)] w fun e w'=>e=.returned (.int .i64 (bQ nx bg kd nm:Nat))/\Below w.heap.size w w':=by
 have c5:=h.blk.cell h.next
 have c6:=h.blk.cell h.begun
 have c31:=h.blk.cell h.last
 have c32:=h.blk.cell h.kind
 have N8:=h.blk.cell h.num
 obtain⟨a,cc,rfl,q1,q2,q3⟩:=h.row.form
 have Hg:=h.lV
 have hbs:=d_ w
 go_enter func77,ntmps77
 obtain rfl|rfl|rfl|rfl|rfl|rfl|rfl:nx=0\/nx=1\/nx=2\/nx=3\/nx=4\/nx=5\/nx=6:=by omega
 ·go_wp2_with fail
  go_ret
  exact⟨rfl,hbs⟩
 ·go_wp2_with fail
  go_ret
  exact⟨rfl,hbs⟩
 ·go_wp2_with fail
  go_ret
  exact⟨rfl,hbs⟩
 ·rcases q3 with⟨rfl,rfl,rfl⟩|⟨g,off,rfl,hb,hu⟩
  ·go_wp2_with fail
   go_ret
   exact⟨rfl,hbs⟩
  ·by_cases hbg:bg=[]
   ·subst hbg
    go_wp2_with fail
    go_ret
    exact⟨rfl,hbs⟩
   ·have hpos:0<bg.length:=List.length_pos_iff.2 hbg
    have hc0:=h.row.cells 0 hpos
    rw[Nat.add_zero]at hc0
    have hb1:=dQ bg 0
    have hne:((bg.length:Int)==0)=false:=by simp;omega
    rw[show bQ 3 bg kd nm=hlen (ak bg 0)from if_neg hbg]
    go_wp2_with fail
    refine(XW (ak bg 0) (by omega) _).mono ?_
    rintro e w1 ⟨rfl,rfl⟩
    go_wp2_with fail
    go_ret
    exact⟨rfl,hbs⟩
 ·go_wp2_with fail
  go_ret
  exact⟨rfl,hbs⟩
 ·obtain⟨ln,hln⟩:∃ln,ln=if kd=1 then 1 else nm:=⟨_,rfl⟩
  rw[show bQ 5 bg kd nm=ln from hln.symm]
  replace hln:=aA hln
  go_wp2_with fail
  refine(XZ lk kd nm _).mono ?_
  rintro e w1 ⟨rfl,hb1⟩
  rw[<- hln.out]
  go_wp2_with fail
  go_ret
  exact⟨rfl,hb1⟩
 ·go_wp2_with fail
  go_ret
  exact⟨rfl,hbs⟩
theorem X4(S:Nat)(t:TypeId)(ss:List Value)(lf:Nat)(s:aj)(w:World)(h:aB w S t ss)(h7:ss[7]?=some (.int .i64 lf))(hl:lf<=1099511627776)(hs:s.length<=1099511627776) :
  Calls prog 76 #[.pointer (some ⟨S,0,none⟩),.string (ah s)] w fun e w'=>e=.returned (.tuple #[.string (ah (s.drop (min lf s.length))),.bool (decide (lf<=s.length))])/\aB w' S t (ss.set 7 (.int .i64 ((lf-min lf s.length:Nat))))/\Only (·=S) w w':=by
 have c7:=h.cell h7
 have fz:=h.free
 have hz:=aQ s
 obtain⟨m,hm⟩:∃m,m=min lf s.length:=⟨_,rfl⟩
 have hm1:m<=lf:=by omega
 have hm2:m<=s.length:=by omega
 have hmi:min (lf:Int) (s.length:Int)=(m:Int):=by omega
 obtain⟨r,hr⟩:∃r,r=lf-m:=⟨_,rfl⟩
 have hk:(lf:Int)-(m:Int)=(r:Int):=by omega
 rw[<- hm,<- hr]
 have hd:(decide (lf<=s.length))=((r:Int)==0):=by
  rw[Bool.eq_iff_iff];simp;omega
 rw[hd]
 have hrb:r<=1099511627776:=by omega
 replace hm:=aA hm
 replace hr:=aA hr
 clear hd
 have hS1:=h.put 7 (.int .i64 (r:Int))
 have aF:Only (·=S) w (w.setCell ⟨S,7,none⟩ (.int .i64 (r:Int))):=(Only.refl (·=S) w).setCell ⟨S,7,none⟩ _ (fun _=>rfl)
 have X5:(ss.set 7 (.int .i64 (r:Int)))[7]?=some (.int .i64 (r:Int)):=by rw[List.getElem?_set_self (List.getElem?_eq_some_iff.1 h7).1]
 have hdr:=mQ s m
 go_enter func76,ntmps76
 go_wp2_with fail
 generalize w.setCell ⟨S,7,none⟩ (.int .i64 (r:Int))=W at *
 have d7:=hS1.cell X5
 go_quiet(fail)
 go_wp2_with fail
 go_ret2
 exact⟨rfl,hS1,aF.drewN _⟩
theorem N9(S:Nat)(t:TypeId)(ss:List Value)(fr bl:Nat)(w:World)(h:aB w S t ss)(h3:ss[3]?=some (.int .i64 fr))(h4:ss[4]?=some (.int .i64 bl))(a:Addr) :
  Calls prog 59 #[.pointer (some ⟨S,0,none⟩),aW a] w fun e w'=>e=.returned (.iface 106 (.pointer (some ⟨w.heap.size,0,none⟩)))/\aB w' w.heap.size 111 [.int .i64 fr,.int .i64 bl,aW a]/\Below w.heap.size w w':=by
 have c3:=h.cell h3
 have c4:=h.cell h4
 go_enter func59,ntmps59
 go_wp2_with fail
 go_ret
 exact⟨rfl,aB.new w 111 [.int .i64 fr,.int .i64 bl,aW a],(Below.refl _ w).alloc (Nat.le_refl _) _⟩
def bY:List Value:=[.bool false,.bool false,.int .i64 0,.int .i64 0,.int .u32 0,.int .u32 0,.int .u32 0,.int .u32 0,.string ⟨#[]⟩,.int .u64 0,.pointer none,.map none,.int .i64 0,.slice none 0 0,.int .i64 0,.slice none 0 0,.int .i64 0,.slice none 0 0,.int .i64 0,.int .i64 0,.int .i64 0,.int .i64 0,.slice none 0 0]
theorem oD:(prog.info? 142).map (·.size)=some 23:=by kernel_rfl
theorem vN:(#[.bool false,.bool false,.int .i64 0,.int .i64 0,.int .u32 0,.int .u32 0,.int .u32 0,.int .u32 0,.string ⟨#[]⟩,.int .u64 0,.pointer none,.map none,.int .i64 0,.slice none 0 0,.int .i64 0,.slice none 0 0,.int .i64 0,.slice none 0 0,.int .i64 0,.int .i64 0,.int .i64 0,.int .i64 0,.slice none 0 0]:Array Value).all (·.oneCell')=true:=by simp[Value.oneCell']
def ku(ss:List Value)(fr:Nat):List Value:=(((dw ss 8 bY).set 3 (.int .i64 ((fr:Int)+1))).set 4 (.int .i64 0)).set 5 (.int .i64 0)
theorem Ho(S:Nat)(t:TypeId)(ss:List Value)(fr:Nat)(w:World)(h:aB w S t ss)(hl:ss.length=34)(h3:ss[3]?=some (.int .i64 fr))(hf:fr<=1099511627776) :
  Calls prog 80 #[.pointer (some ⟨S,0,none⟩)] w fun e w'=>e=.returned (.tuple #[])/\aB w' S t (ku ss fr)/\Only (·=S) w w':=by
 have hl1:(dw ss 8 bY).length=34:=by rw[tZ];exact hl
 have h31:(dw ss 8 bY)[3]?=some (.int .i64 fr):=by rw[kR _ _ _ _ (by omega)];exact h3
 have hone:=vN
 have hsf:=oD
 obtain⟨z4,X6⟩:∃z,(dw ss 8 bY)[4]?=some z:=get_some (by rw[hl1];omega)
 obtain⟨z5,zV⟩:∃z,(dw ss 8 bY)[5]?=some z:=get_some (by rw[hl1];omega)
 have hn:8+(#[.bool false,.bool false,.int .i64 0,.int .i64 0,.int .u32 0,.int .u32 0,.int .u32 0,.int .u32 0,.string ⟨#[]⟩,.int .u64 0,.pointer none,.map none,.int .i64 0,.slice none 0 0,.int .i64 0,.slice none 0 0,.int .i64 0,.slice none 0 0,.int .i64 0,.int .i64 0,.int .i64 0,.int .i64 0,.slice none 0 0]:Array Value).size<=ss.length:=by rw[hl];show 8+23<=34;omega
 go_enter func80,ntmps80
 go_wp2_with(refine ug rfl 142 _ _ rfl 8 #[.bool false,.bool false,.int .i64 0,.int .i64 0,.int .u32 0,.int .u32 0,.int .u32 0,.int .u32 0,.string ⟨#[]⟩,.int .u64 0,.pointer none,.map none,.int .i64 0,.slice none 0 0,.int .i64 0,.slice none 0 0,.int .i64 0,.slice none 0 0,.int .i64 0,.int .i64 0,.int .i64 0,.int .i64 0,.slice none 0 0] rfl rfl h hn hsf hone ?_;intro W1 hS1 aF;replace hS1:aB W1 S t (dw ss 8 bY):=hS1;have d3:=hS1.cell h31;have d4:=hS1.cell X6;have d5:=hS1.cell zV;have Dz:=hS1.free)
 go_end0
 exact⟨rfl,((hS1.put 3 _).put 4 _).put 5 _,((aF.setCell ⟨S,3,none⟩ _ (fun _=>rfl)).setCell ⟨S,4,none⟩ _ (fun _=>rfl)).setCell ⟨S,5,none⟩ _ (fun _=>rfl)⟩
end
end Go.Proofs.YtbhemchnjpajiaaGreatDoor
