/- Several texts in one: PrLit3, PrUp2, PrCon. -/
import Derived.Test.YtbhemchnjpajiaaGreatDoorJG
import Derived.Test.YtbhemchnjpajiaaGreatDoorKX
set_option linter.unusedVariables false
set_option maxRecDepth 100000
set_option maxHeartbeats 4000000
namespace Go.Proofs.YtbhemchnjpajiaaGreatDoor
open Go.RowKit Go.Proofs.Tryz RD
def abv(x:Fx)(g o p:Nat)(t:TypeId)(gs:List Value)(cs:List CM.aG)(s:aj)(w:World)(e:Ending)(w':World):Prop :=
 Only (fun k=>k=g\/k=p) w w'/\((RD.literals cs s=none/\e=.returned (.tuple #[.string (ah []),aW x.f])/\∃v',aB w' g t (gs.set o v')) \/
  ∃out i cs' v',RD.literals cs s=some (out,i,cs')/\i<=s.length/\e=.returned (.tuple #[.string (ah out),.nilIface])/\bD w' p (s.drop i)/\aB w' g t (gs.set o v')/\qV w' v' cs')
theorem abw(x:Fx)(g o p:Nat)(t:TypeId)(gs:List Value)(v:Value)(cs:List CM.aG)(s:aj)(w:World)(hG:aB w g t gs)(hv:gs[o]?=some v)(hL:qV w v cs)(bH:g≠p)(htt:t≠288)
  (h:bD w p s) (hV:bI x w) (hs:s.length<=1048576) (hpb:x.base<=p) (hgb:x.base<=g) :
  Calls prog 123 #[.pointer (some ⟨g,o,none⟩),.pointer (some ⟨p,0,none⟩)] w (abv x g o p t gs cs s w):=by
 go_enter func123,ntmps123
 go_wp2_with fail
 refine(vH x p s 2 _ h hV (by omega) (by omega)).mono ?_
 rintro e w1 (⟨h1,rfl,hb⟩|⟨h1,rfl,rfl⟩)
 ·go_wp2_with fail
  go_ret2
  exact⟨aH hb,.inl ⟨XF h1,rfl,v,by rw[qg hv];exact hG.below hb hG.lt⟩⟩
 ·have hA1:=h.put (s.drop 2)
  have aF:Only (·=p) w (w.setCell ⟨p,0,none⟩ (.string (ah (s.drop 2)))):=(Only.refl _ _).setCell _ _ (fun _=>rfl)
  have hV1:=hV.only aF (fun k e=>by omega)
  have hG1:=hG.only aF bH
  have hL1:=hL.only aF (fun T xs hT e=>hT.ne h (by decide) e)
  generalize w.setCell ⟨p,0,none⟩ (.string (ah (s.drop 2)))=w1 at *
  have hz:=qP s 2 (by omega)
  have hlong:=aA (@XG cs s (by omega))
  have his:=aA (@XH cs s (by omega))
  have hand:=zS (au (s.take 2)) (by omega)
  have mG:((au (s.take 2):Nat):Int)/4=((au (s.take 2)/4:Nat):Int):=by omega
  generalize au (s.take 2)=z at *
  obtain⟨m,hm⟩:∃m,m=z/4:=⟨_,rfl⟩
  rw[<- hm]at hlong his mG
  have hm2:m<=16777216:=by omega
  have k4:z%4=0\/z%4=1\/z%4=2\/z%4=3:=by omega
  replace hm:=aA hm
  by_cases hbig:1024<m
  ·have hbig':(1024:Int)<(z:Int)/4:=by rw[mG];omega
   replace mG:=aA mG
   have cF:=hV1.cF
   go_wp2_with fail
   go_quiet(fail)
   go_wp2
   go_ret2
   exact⟨oz (aF.drewN _),.inl ⟨hlong.out hbig,rfl,v,by rw[qg hv];exact hG1.drewN _⟩⟩
  ·have hbig':¬(1024:Int)<(z:Int)/4:=by rw[mG];omega
   have ai3:(z:Int)/4<=1024:=by rw[mG];omega
   replace mG:=aA mG
   replace his:=aA (his.out hbig)
   have hsl:(s.drop 2).length=s.length-2:=by simp
   replace hsl:=aA hsl
   rcases k4 with hk|hk|hk|hk
   ·rw[hk]at hand
    rw[hk,if_pos rfl]at his
    go_wp2_with fail
    rw[mG.out]
    refine(xu x p (s.drop 2) m _ hA1 hV1 (by have:=hsl.out;omega) (by omega)).mono ?_
    rintro e w2 (⟨h2,rfl,hb⟩|⟨h2,rfl,rfl⟩)
    ·go_wp2_with fail
     go_ret2
     refine⟨oz (aF.below hb),.inl ⟨?_,rfl,v,by rw[qg hv];exact hG1.below hb hG1.lt⟩⟩
     rw[his.out,if_pos (by have:=hsl.out;omega)]
    ·have hA2:=hA1.put ((s.drop 2).drop m)
     have hO2:Only (·=p) w (w1.setCell ⟨p,0,none⟩ (.string (ah ((s.drop 2).drop m)))):=aF.setCell _ _ (fun _=>rfl)
     have hG2:=hG.only hO2 bH
     have hL2:=hL.only hO2 (fun T xs hT e=>hT.ne h (by decide) e)
     generalize w1.setCell ⟨p,0,none⟩ (.string (ah ((s.drop 2).drop m)))=w2 at *
     go_wp2_with fail
     go_ret2
     refine⟨oz hO2,.inr ⟨_,2+m,cs,v,?_,by have:=hsl.out;omega,rfl,by rwa[List.drop_drop]at hA2,by rw[qg hv];exact hG2,hL2⟩⟩
     rw[his.out,if_neg (by have:=hsl.out;omega)]
   ·rw[hk]at hand
    rw[hk,if_neg (by omega),if_pos rfl]at his
    go_wp2_with fail
    refine(xu x p (s.drop 2) 1 _ hA1 hV1 (by have:=hsl.out;omega) (by omega)).mono ?_
    rintro e w2 (⟨h2,rfl,hb⟩|⟨h2,rfl,rfl⟩)
    ·go_wp2_with fail
     rw[mG.out]
     refine(Go.Proofs.Tryz.strings_Repeat (ah []) m _ (by omega) (by simp[aQ])).mono ?_
     rintro e w3 ⟨rfl,hb3⟩
     go_wp2_with fail
     go_ret2
     refine⟨oz ((aF.below hb).below hb3),.inl ⟨?_,?_,v,by rw[qg hv];exact(hG1.below hb hG1.lt).below hb3 (hG1.below hb hG1.lt).lt⟩⟩
     ·rw[his.out,if_pos (by have:=hsl.out;omega)]
     ·rw[lX,repeatL_nil]
      rfl
    ·have hA2:=hA1.put ((s.drop 2).drop 1)
     have hO2:Only (·=p) w (w1.setCell ⟨p,0,none⟩ (.string (ah ((s.drop 2).drop 1)))):=aF.setCell _ _ (fun _=>rfl)
     have hG2:=hG.only hO2 bH
     have hL2:=hL.only hO2 (fun T xs hT e=>hT.ne h (by decide) e)
     generalize w1.setCell ⟨p,0,none⟩ (.string (ah ((s.drop 2).drop 1)))=w2 at *
     have ht1:(s.drop 2).take 1=[s.getD 2 0]:=by
      have:=hsl.out
      rw[List.drop_eq_getElem_cons (by omega),List.getD_eq_getElem?_getD,List.getElem?_eq_getElem (by omega)]
      rfl
     rw[ht1]
     go_wp2_with fail
     rw[mG.out]
     refine(Go.Proofs.Tryz.strings_Repeat (ah [s.getD 2 0]) m _ (by omega) (by simp[aQ];omega)).mono ?_
     rintro e w3 ⟨rfl,hb3⟩
     have hA3:=hA2.below hb3
     have hG3:=hG2.below hb3 hG2.lt
     have hL3:=hL2.only (aH (G:=fun _=>False) hb3) (fun _ _ _ e=>e)
     go_wp2_with fail
     go_ret2
     refine⟨oz (hO2.below hb3),.inr ⟨List.replicate m (s.getD 2 0),3,cs,v,?_,by have:=hsl.out;omega,?_,by rwa[List.drop_drop]at hA3,by rw[qg hv];exact hG3,hL3⟩⟩
     ·rw[his.out,if_neg (by have:=hsl.out;omega)]
     ·rw[lX,repeatL_one]
      rfl
   ·rw[hk]at hand
    rw[hk,if_neg (by omega),if_neg (by omega),if_pos rfl]at his
    go_wp2_with fail
    refine(XC x p (s.drop 2) _ hA1 hV1 (by have:=hsl.out;omega) hpb).mono ?_
    rintro e w2 ⟨ho2,⟨hn,rfl⟩|⟨cs',T,hn,hln,hl0,rfl,hT,hA2,hTn⟩⟩
    ·have hG2:=hG1.only ho2 bH
     have fG:=hG2.free
     have cG:=hG2.cell hv
     go_wp2_with fail
     go_ret2
     refine⟨?_,.inl ⟨?_,rfl,_,hG2.put o _⟩⟩
     ·exact(oz (aF.trans ho2)).setCell _ _ (fun _=>.inl rfl)
     ·rw[his.out,hn]
    ·have hG2:=hG1.only ho2 bH
     have fG:=hG2.free
     have cG:=hG2.cell hv
     have hgl:=hG1.lt
     have Qd:T≠g:=by omega
     go_wp2_with fail
     rw[mG.out]
     have hO3:Only (fun k=>k=g\/k=p) w (w2.setCell ⟨g,o,none⟩ (.pointer (some ⟨T,0,none⟩))):=(oz (aF.trans ho2)).setCell _ _ (fun _=>.inl rfl)
     have hG3:=hG2.put o (.pointer (some ⟨T,0,none⟩))
     have hA3:bD (w2.setCell ⟨g,o,none⟩ (.pointer (some ⟨T,0,none⟩))) p ((s.drop 2).drop (1+(ak (s.drop 2) 0+1)/2)):=aB.other hA2 ⟨g,o,none⟩ _ (fun e=>bH e.symm)
     have bZ:Dv (w2.setCell ⟨g,o,none⟩ (.pointer (some ⟨T,0,none⟩))) T cs':=⟨hT.1.other ⟨g,o,none⟩ _ Qd,hT.2⟩
     have pY:=hV.only hO3 (fun k e=>by omega)
     generalize w2.setCell ⟨g,o,none⟩ (.pointer (some ⟨T,0,none⟩))=w3 at *
     have ho:o<gs.length:=by
      rcases Nat.lt_or_ge o gs.length with e|e
      ·exact e
      ·rw[List.getElem?_eq_none e]at hv
       cases hv
     have hL3:qV w3 (.pointer (some ⟨T,0,none⟩)) cs':=.inr ⟨T,rfl,bZ⟩
     rw[List.drop_drop,show 2+(1+(ak (s.drop 2) 0+1)/2)=3+(ak (s.drop 2) 0+1)/2 by omega]at hA3
     have hdl:(s.drop (3+(ak (s.drop 2) 0+1)/2)).length=s.length-(3+(ak (s.drop 2) 0+1)/2):=by simp
     have ai5:3+(ak (s.drop 2) 0+1)/2<=s.length:=by
      rw[List.length_drop,hsl.out]at hln
      have:=hsl.out
      omega
     rw[hn]at his
     refine(NK x g o p t (gs.set o (.pointer (some ⟨T,0,none⟩))) (.pointer (some ⟨T,0,none⟩)) cs' (s.drop (3+(ak (s.drop 2) 0+1)/2)) m _ hG3 (List.getElem?_set_self ho) hL3 bH hA3 pY (by omega) hpb (by omega)).mono ?_
     rintro e w4 ⟨gu,⟨hn4,rfl⟩|⟨out,k,hn4,hkl,rfl,hA4⟩⟩
     ·go_wp2_with fail
      go_ret2
      refine⟨hO3.trans (oz gu),.inl ⟨?_,rfl,_,hG3.only gu bH⟩⟩
      rw[his.out]
      simp only[hn4]
     ·have hG4:=hG3.only gu bH
      have hL4:=hL3.only gu (fun T xs hT e=>hT.ne hA3 (by decide) e)
      go_wp2_with fail
      go_ret2
      refine⟨hO3.trans (oz gu),.inr ⟨out,3+(ak (s.drop 2) 0+1)/2+k,cs',_,?_,by omega,rfl,by rwa[List.drop_drop]at hA4,hG4,hL4⟩⟩
      rw[his.out]
      simp only[hn4]
   ·rw[hk]at hand
    rw[hk,if_neg (by omega),if_neg (by omega),if_neg (by omega)]at his
    go_wp2_with fail
    rw[mG.out]
    refine(NK x g o p t gs v cs (s.drop 2) m _ hG1 hv hL1 bH hA1 hV1 (by have:=hsl.out;omega) hpb (by omega)).mono ?_
    rintro e w2 ⟨ho2,⟨hn,rfl⟩|⟨out,k,hn,hkl,rfl,hA2⟩⟩
    ·go_wp2_with fail
     go_ret2
     refine⟨oz (aF.trans ho2),.inl ⟨?_,rfl,v,by rw[qg hv];exact hG1.only ho2 bH⟩⟩
     rw[his.out,hn]
    ·have hG2:=hG1.only ho2 bH
     have hL2:=hL1.only ho2 (fun T xs hT e=>hT.ne hA1 (by decide) e)
     go_wp2_with fail
     go_ret2
     refine⟨oz (aF.trans ho2),.inr ⟨out,2+k,cs,v,?_,by have:=hsl.out;omega,rfl,by rwa[List.drop_drop]at hA2,by rw[qg hv];exact hG2,hL2⟩⟩
     rw[his.out,hn]
structure gY(w:World)(gs:List Value)(f M n:Nat)(F:RD.Fr):Prop where
 lit:∃lv,gs[f+10]?=some lv/\qV w lv F.codes
 map:gs[f+11]?=some (.map (some M))
 tabs:bP w M n
 seq:iC w gs (f+11) (F.t0,F.t1,F.t2)
 fine:wu (F.t0,F.t1,F.t2)
 last:∃a b c,F.last=[a,b,c]/\dG [a,b,c]/\gs[f+18]?=some (.int .i64 a)/\gs[f+19]?=some (.int .i64 b)/\gs[f+20]?=some (.int .i64 c)
theorem gY.only{G:Nat->Prop}{w w':World}{gs:List Value}{f M n:Nat}{F:RD.Fr}(h:gY w gs f M n F)(ho:Only G w w')(hM:¬G M)(h1:∀b xs,aB w b 226 xs->¬G b)(h2:∀b xs,aB w b 288 xs->¬G b):gY w' gs f M n F:=by
 obtain⟨lv,l1,l2⟩:=h.lit
 exact⟨⟨lv,l1,l2.only ho h2⟩,h.map,h.tabs.only ho hM h1,h.seq.only ho h1,h.fine,h.last⟩
theorem U8.o_{w:World}{M n:Nat}(h:U8 w M)(k:bP w M n):False:=by
 obtain⟨cur,fz,e⟩:=h
 obtain⟨es,clock,e2,-⟩:=k
 rw[e]at e2
 cases e2
theorem iC.cells{w:World}{gs gs':List Value}{o:Nat}{T:Tabs}(h:iC w gs o T)(hc:∀j,o+1<=j->j<=o+6->gs'[j]?=gs[j]?):iC w gs' o T:=fun k hk=>by
 obtain⟨v,h1,h2,h3⟩:=h k hk
 exact⟨v,by rw[hc _ (by omega) (by omega)];exact h1,by rw[hc _ (by omega) (by omega)];exact h2,h3⟩
def Qe(x:Fx)(B g f M n:Nat)(t:TypeId)(gs:List Value)(F:RD.Fr)(v:Value)(W s:aj)(w:World)(e:Ending)(w':World):Prop :=
 Only (fun b=>b=M\/b=g\/v.ownBlock=some b) w w'/\aT B w' v W /\
  ((qw F W s=none/\e=.returned (.tuple #[.string (ah []),aW x.f])/\∃gs',aB w' g t gs'/\gs'.length=gs.length/\∀j,j<f+10\/f+21<=j->gs'[j]?=gs[j]?) \/
   ∃c F' gs',qw F W s=some (c,F')/\e=.returned (.tuple #[.string (ah c),.nilIface])/\aB w' g t gs'/\gs'.length=gs.length/\(∀j,j<f+10\/f+21<=j->gs'[j]?=gs[j]?)/\gY w' gs' f M (n+3) F')
theorem aby(x:Fx)(B g f M n:Nat)(t:TypeId)(gs:List Value)(F:RD.Fr)(v:Value)(W s:aj)(w:World)(hG:aB w g t gs)(hP:gY w gs f M n F)(hw0:gs[f+21]?=some (.int .i64 (F.window:Nat)))(hw1:gs[f+22]?=some v)(hR:aT B w v W)(A8:W.length<=1048576)(hwn:0<F.window/\F.window<=1048576)(hB:B<=w.heap.size)(hV:bI x w)(hs:s.length<=1048576)(hn:n<900000000)(fV:x.base<=M)(hgb:x.base<=g)(hvb:∀k,v.ownBlock=some k->x.base<=k)
  (t1:t≠226) (t2:t≠5) (t3:t≠288) :
  Calls prog 107 #[.pointer (some ⟨g,f,none⟩),.string (ah s)] w (Qe x B g f M n t gs F v W s w):=by
 obtain⟨lv,l1,l2⟩:=hP.lit
 obtain⟨r0,r1,r2,Jd,Je,la3,la4,la5⟩:=hP.last
 have hb0:Below w.heap.size w (w.alloc (.cells #[.string (ah s)] 216)):=(Below.refl _ w).alloc (Nat.le_refl _) _
 have h0:bD (w.alloc (.cells #[.string (ah s)] 216)) w.heap.size s:=aB.new w 216 [.string (ah s)]
 have hV0:=hV.below hb0
 have hG0:=hG.below hb0 hG.lt
 have hP0:=hP.only (aH (G:=fun _=>False) hb0) (fun e=>e) (fun _ _ _ e=>e) (fun _ _ _ e=>e)
 have hR0:=hR.only (aH (G:=fun _=>False) hb0) (fun _ _ e=>e)
 have hL0:=l2.only (aH (G:=fun _=>False) hb0) (fun _ _ _ e=>e)
 have jP:=hV.size
 have hgl:=hG.lt
 have rP:=hP.tabs.lt
 go_enter func107,ntmps107
 go_wp2_with fail
 refine(abw x g (f+10) w.heap.size t gs lv F.codes s _ hG0 l1 hL0 (by omega) t3 h0 hV0 hs jP hgb).mono ?_
 obtain⟨p,hp⟩:∃p,p=w.heap.size:=⟨_,rfl⟩
 rw[<- hp]at h0 jP hgl rP⊢
 generalize w.alloc (.cells #[.string (ah s)] 216)=w1 at *
 have hpw:=hp
 replace hp:=aA hp
 have bH:g≠p:=by omega
 have iL:Only (fun b=>b=M\/b=g\/v.ownBlock=some b) w w1:=aH hb0
 rintro e w2 ⟨hO2,(⟨hnone,rfl,ve,rO⟩|⟨lits,i,cs,v',hlit,hil,rfl,hp2,hG2,hL2⟩)⟩
 ·have Es:=iL.then' hO2 (fun i hi e=>e.elim (fun e=>.inr (.inl e)) (fun e=>by omega))
  have hR2:=hR0.only hO2 (fun k hk e=>e.elim (fun e=>(hR0.blk hk).2.ne hG0 t2 e) (fun e=>(hR0.blk hk).2.ne h0 (by decide) e))
  have hbad:Hid (qw F W s=none):=by rw[Hid,qw,hnone]
  replace hpw:=aA hpw
  go_wp2_with fail
  go_ret2
  exact⟨Es,hR2,.inl ⟨hbad.out,rfl,_,rO,by rw[List.length_set],fun j hj=>List.getElem?_set_ne (by omega)⟩⟩
 ·have Es:=iL.then' hO2 (fun i hi e=>e.elim (fun e=>.inr (.inl e)) (fun e=>by omega))
  have hR2:=hR0.only hO2 (fun k hk e=>e.elim (fun e=>(hR0.blk hk).2.ne hG0 t2 e) (fun e=>(hR0.blk hk).2.ne h0 (by decide) e))
  have hns:∀b xs,aB w1 b 226 xs->¬(b=g\/b=p):=fun b xs hb e=>e.elim (fun e=>hb.apart hG0 (fun e=>t1 e.symm) e) (fun e=>hb.apart h0 (by decide) e)
  have hM2:=hP0.tabs.only hO2 (fun e=>e.elim (fun e=>hP0.tabs.ne hG0 e) (fun e=>hP0.tabs.ne h0 e)) hns
  have hT2:=(hP0.seq.only hO2 hns).cells (gs':=gs.set (f+10) v') (fun j h1 h2=>by rw[List.getElem?_set_ne (by omega)])
  have hV2:=hV0.only hO2 (fun k e=>e.elim (fun e=>by rw[e];exact hgb) (fun e=>by rw[e];exact jP))
  obtain⟨S1,hS1⟩:∃S1,s.drop i=S1:=⟨_,rfl⟩
  rw[hS1]at hp2
  have abC:S1.length<=1048576:=by rw[<- hS1,List.length_drop];omega
  have cp2:=aB.cell hp2 (j:=0) rfl
  have hll:=P_ hlit
  simp only[]at hll
  have hcall:=fun(W2:World)(hW:Only (fun _=>False) w2 W2)=>aa_ x g (f+11) M n t (gs.set (f+10) v') (F.t0,F.t1,F.t2) r0 r1 r2 S1 W2 (hG2.only hW (fun e=>e)) (by rw[List.getElem?_set_ne (by omega)];exact hP.map) (hT2.only hW (fun _ _ _ e=>e)) hP.fine (hV2.only hW (fun _ e=>e.elim)) abC (hM2.only hW (fun e=>e) (fun _ _ _ e=>e)) hn fV hgb t1 (by rw[List.getElem?_set_ne (by omega)];exact la3) (by rw[List.getElem?_set_ne (by omega)];exact la4) (by rw[List.getElem?_set_ne (by omega)];exact la5) Je
  have r_:qw F W s=match nT (F.t0,F.t1,F.t2) [r0,r1,r2] S1 with
    | none=>none
    | some (L,T',la)=>match dJ F.window L (W,lits)with
     | none=>none
     | some y=>if 1024<(y.1.drop W.length++y.2).length then none else some (y.1.drop W.length++y.2,{ F with codes:=cs,t0:=T'.1,t1:=T'.2.1,t2:=T'.2.2,last:=la }):=by
   rw[qw,hlit]
   simp only[]
   rw[hS1,Jd]
   rfl
  replace hcall:=aA hcall
  replace hS1:=aA hS1
  replace hpw:=aA hpw
  replace hlit:=aA hlit
  cases hq:nT (F.t0,F.t1,F.t2) [r0,r1,r2] S1 with
  | none =>
   rw[hq]at r_
   have rQ:Hid (∀W2:World,Only (fun _=>False) w2 W2->Calls prog 124 #[.pointer (some ⟨g,f+11,none⟩),.string (ah S1)] W2 fun e w'=>e=.returned (.tuple #[.slice none 0 0,aW x.f])/\Only (fun b=>b=M\/b=g) W2 w'/\∃gs',aB w' g t gs'/\gs'.length=(gs.set (f+10) v').length/\∀j,j<f+11+1\/f+11+10<=j->gs'[j]?=(gs.set (f+10) v')[j]?):=fun W2 hW=>(hcall.out W2 hW).mono fun e w' hh=>by
    obtain⟨k1,k2|⟨L,T',a,b,c,v3,gs',k2,-⟩⟩:=hh
    ·exact⟨k2.2.1,k1,k2.2.2⟩
    ·rw[hq]at k2;cases k2
   replace hq:=aA hq
   replace r_:=aA r_
   go_wp2_with fail
   go_region_with(go_at_call 124;refine(rQ.out _ ?_).mono ?_;exact(Only.refl _ _).drew;rintro e w3 ⟨rfl,hO3,AX,rO,hle,hse⟩)
   all_goals go_wp2_with fail
   all_goals go_ret2
   all_goals
    have aV:=hR2.only (dM hO3) (fun k hk e=>e.elim (fun e=>U8.o_ (by rw[<- e];exact(hR2.blk hk).2) hM2) (fun e=>(hR2.blk hk).2.ne hG2 t2 e))
    exact⟨Es.then' (dM hO3) (fun i hi e=>e.elim .inl (fun e=>.inr (.inl e))),aV,.inl ⟨r_.out,rfl,AX,rO,by rw[hle,List.length_set],fun j hj=>by rw[hse j (by omega),List.getElem?_set_ne (by omega)]⟩⟩
  | some r =>
   obtain⟨L,T',la⟩:=r
   rw[hq]at r_
   have rU:Hid (∀W2:World,Only (fun _=>False) w2 W2->Calls prog 124 #[.pointer (some ⟨g,f+11,none⟩),.string (ah S1)] W2 fun e w'=>∃a b c v3 gs',la=[a,b,c]/\e=.returned (.tuple #[v3,.nilIface])/\(∀q∈L,qo q)/\dG [a,b,c]/\wu T'/\L.length<=255/\w'.ownsRow W2.heap.size 264 3 v3 L.length (fB L)/\aB w' g t gs'/\(∀j,j<f+12\/f+21<=j->gs'[j]?=(gs.set (f+10) v')[j]?)/\gs'.length=(gs.set (f+10) v').length/\gs'[f+18]?=some (.int .i64 a)/\gs'[f+19]?=some (.int .i64 b)/\gs'[f+20]?=some (.int .i64 c)/\iC w' gs' (f+11) T'/\bP w' M (n+3)/\Only (fun b=>b=M\/b=g) W2 w'):=fun W2 hW=>(hcall.out W2 hW).mono fun e w' hh=>by
    obtain⟨k1,k2|⟨L',T'',a,b,c,v3,gs',k2,k3,k4,k5,k6,k7,k8,k9,k10,k11,k12,k13,k14,k15,k16⟩⟩:=hh
    ·rw[hq]at k2;cases k2.1
    ·rw[hq]at k2
     obtain⟨rfl,e2⟩:=Prod.mk.inj (Option.some.inj k2)
     obtain⟨rfl,rfl⟩:=Prod.mk.inj e2
     exact⟨a,b,c,v3,gs',rfl,k3,k4,k5,k6,k7,k8,k9,k10,k11,k12,k13,k14,k15,k16,k1⟩
   replace hq:=aA hq
   replace r_:=aA r_
   go_wp2_with fail
   go_region_with(go_at_call 124;refine(rU.out _ ?_).mono ?_;exact(Only.refl _ _).drew;rintro e w3 ⟨a,b,c,v3,gs3,rfl,rfl,k4,k5,k6,k7,k8,k9,k10,k11,k12,k13,k14,k15,k16,hO3⟩)
   all_goals go_wp2_with fail
   all_goals
    have qh:=Es.then' (dM hO3) (fun i hi e=>e.elim .inl (fun e=>.inr (.inl e)))
    have aV:=hR2.only (dM hO3) (fun k hk e=>e.elim (fun e=>U8.o_ (by rw[<- e];exact(hR2.blk hk).2) hM2) (fun e=>(hR2.blk hk).2.ne hG2 t2 e))
    have pY:=hV2.only (dM hO3) (fun k e=>e.elim (fun e=>by rw[e];exact fV) (fun e=>by rw[e];exact hgb))
    have hL3:=hL2.only (dM hO3) (fun b xs hb e=>e.elim (fun e=>hM2.ne hb e.symm) (fun e=>hb.apart hG2 (fun e=>t3 e.symm) e))
    have hB3:B<=w3.heap.size:=Nat.le_trans hB qh.size
    refine(abl x B g (f+21) F.window _ t gs3 v v3 W lits L w3 k9 (by rw[k10 _ (.inr (by omega)),List.getElem?_set_ne (by omega)];exact hw0) (by rw[k10 _ (.inr (by omega)),List.getElem?_set_ne (by omega)];exact hw1) aV A8 (by omega) hwn hB3 t2 k8 k7 k4 pY hvb).mono ?_
    rintro e w4 ⟨hO4,fA,(⟨hbad,rfl⟩|⟨y,hy,hyl,rfl⟩)⟩
    ·go_wp2_with fail
     go_ret2
     refine⟨qh.then' hO4 (fun i hi e=>.inr (.inr e)),fA,.inl ⟨?_,rfl,gs3,k9.only hO4 (fun e=>(aV.blk e).2.ne k9 t2 rfl),by rw[k11,List.length_set],fun j hj=>by rw[k10 j (by omega),List.getElem?_set_ne (by omega)]⟩⟩
     rw[r_.out]
     rcases hbad with hbad|⟨y,hy,hyl⟩
     ·simp only[hbad]
     ·simp only[hy]
      rw[if_pos hyl]
    ·go_wp2_with fail
     go_ret2
     refine⟨qh.then' hO4 (fun i hi e=>.inr (.inr e)),fA,.inr ⟨_,{ F with codes:=cs,t0:=T'.1,t1:=T'.2.1,t2:=T'.2.2,last:=[a,b,c] },gs3,?_,rfl,k9.only hO4 (fun e=>(aV.blk e).2.ne k9 t2 rfl),by rw[k11,List.length_set],fun j hj=>?_,?_⟩⟩
     ·rw[r_.out]
      simp only[hy]
      rw[if_neg (by omega)]
     ·rw[k10 j (by omega),List.getElem?_set_ne (by omega)]
     ·have abD:f+10<gs.length:=(List.getElem?_eq_some_iff.1 l1).1
      refine⟨⟨v',by rw[k10 _ (.inl (by omega)),List.getElem?_set_self abD],hL3.only hO4 (fun b xs hb e=>(aV.blk e).2.ne hb (by decide) rfl)⟩,by rw[k10 _ (.inl (by omega)),List.getElem?_set_ne (by omega)];exact hP.map,k16.only hO4 (fun e=>U8.o_ (aV.blk e).2 k16) (fun b xs hb e=>(aV.blk e).2.ne hb (by decide) rfl),k15.only hO4 (fun b xs hb e=>(aV.blk e).2.ne hb (by decide) rfl),k6,⟨a,b,c,rfl,k5,k12,k13,k14⟩⟩
theorem abE(g f nm:Nat)(lk:Bool)(s:aj)(w:World)(hs:s.length=1)(hn:nm<=1024) :
  Calls prog 97 #[.pointer (some ⟨g,f,none⟩),.agg #[.bool lk,.int .i64 1,.int .i64 nm],.string (ah s)] w fun e w'=>e=.returned (.tuple #[.string (ah (List.replicate nm (s.getD 0 0))),.nilIface])/\Below w.heap.size w w':=by
 obtain⟨b,rfl⟩:∃b,s=[b]:=by
  match s,hs with
  | [b],_=>exact⟨b,rfl⟩
 have hb0:Below w.heap.size w (w.alloc (.cells #[.bool lk,.int .i64 1,.int .i64 nm] 144)):=(Below.refl _ w).alloc (Nat.le_refl _) _
 go_enter func97,ntmps97
 go_wp2_with fail
 refine(Go.Proofs.Tryz.strings_Repeat (ah [b]) nm _ (by omega) (by simp[aQ];omega)).mono ?_
 rintro e w3 ⟨rfl,hb3⟩
 go_wp2_with fail
 go_ret2
 refine⟨?_,below_grow hb0 hb3 hb0.size⟩
 rw[lX,repeatL_one]
 rfl
theorem abG(x:Fx)(B g f M n nm:Nat)(lk:Bool)(t:TypeId)(gs:List Value)(F:RD.Fr)(v:Value)(W s:aj)(w:World)(hG:aB w g t gs)(hP:gY w gs f M n F)(hw0:gs[f+21]?=some (.int .i64 (F.window:Nat)))(hw1:gs[f+22]?=some v)(hR:aT B w v W)(A8:W.length<=1048576)(hwn:0<F.window/\F.window<=1048576)(hB:B<=w.heap.size)(hV:bI x w)(hs:s.length<=1048576)(hn:n<900000000)(fV:x.base<=M)(hgb:x.base<=g)(hvb:∀k,v.ownBlock=some k->x.base<=k)
  (t1:t≠226) (t2:t≠5) (t3:t≠288) :
  Calls prog 97 #[.pointer (some ⟨g,f,none⟩),.agg #[.bool lk,.int .i64 2,.int .i64 nm],.string (ah s)] w (Qe x B g f M n t gs F v W s w):=by
 have hb0:Below w.heap.size w (w.alloc (.cells #[.bool lk,.int .i64 2,.int .i64 nm] 144)):=(Below.refl _ w).alloc (Nat.le_refl _) _
 have hV0:=hV.below hb0
 have hG0:=hG.below hb0 hG.lt
 have hP0:=hP.only (aH (G:=fun _=>False) hb0) (fun e=>e) (fun _ _ _ e=>e) (fun _ _ _ e=>e)
 have hR0:=hR.only (aH (G:=fun _=>False) hb0) (fun _ _ e=>e)
 have hu:=aA (aby x B g f M n t gs F v W s _ hG0 hP0 hw0 hw1 hR0 A8 hwn (Nat.le_trans hB hb0.size) hV0 hs hn fV hgb hvb t1 t2 t3)
 go_enter func97,ntmps97
 go_wp2_with fail
 refine hu.out.mono ?_
 rintro e w2 ⟨hO2,hR2,(⟨hnone,rfl,hge⟩|⟨c,F',gs',hsome,rfl,q1,q2,q3,q4⟩)⟩
 ·go_wp2_with fail
  go_ret2
  exact⟨(aH hb0).trans hO2,hR2,.inl ⟨hnone,rfl,hge⟩⟩
 ·go_wp2_with fail
  go_ret2
  exact⟨(aH hb0).trans hO2,hR2,.inr ⟨c,F',gs',hsome,rfl,q1,q2,q3,q4⟩⟩
end Go.Proofs.YtbhemchnjpajiaaGreatDoor
