/- Several texts in one: PrTb3. -/
import Derived.Test.YtbhemchnjpajiaaGreatDoorKR
import Derived.Test.YtbhemchnjpajiaaGreatDoorKT
set_option linter.unusedVariables false
set_option maxRecDepth 100000
set_option maxHeartbeats 4000000
namespace Go.Proofs.YtbhemchnjpajiaaGreatDoor
open Go.RowKit Go.Proofs.Tryz RD
theorem nil_eq(W:World):(binOp .eql 117 (.slice none 0 0) (.slice none 0 0)).run prog W=.ok (.bool true) W:=by kernel_rfl
theorem aaX(b n c:Nat)(W:World):(binOp .eql 117 (.slice (some ⟨b,0,none⟩) n c) (.slice none 0 0)).run prog W=.ok (.bool false) W:=by kernel_rfl
def rV(w:World)(v:Value)(t:RD.Tab):Prop:=(t=zu/\v=.slice none 0 0)\/(t.there=true/\qp w v t.l)
theorem PK(k:Nat)(hk:k<=2):dI ((5:Nat):Int) (iV k)=true/\table 5 (iV k)=table 5 (RD.plain k)/\(iV k).length=16/\∀y∈iV k,-1<=y/\y<=255:=by
 have h0:dI ((5:Nat):Int) (RD.plain k)=true/\(RD.plain k).length<=16/\1<=(RD.plain k).length/\∀y∈RD.plain k,-1<=y/\y<=255:=by
  rcases(by omega:k=0\/k=1\/k=2)with rfl|rfl|rfl<;>decide
 obtain⟨h1,h2,h3,h4⟩:=h0
 have e:iV k=TM.dN (RD.plain k) (16-(RD.plain k).length):=rfl
 have hg:=OV ((5:Nat):Int) (RD.plain k) (16-(RD.plain k).length) h3 (by omega)
 obtain⟨n5,e5,vZ,hfb⟩:=Eb h1
 obtain rfl:n5=5:=by omega
 refine⟨by rw[e,hg];exact h1,by rw[e];exact OW _ vZ hfb,by rw[e,TM.Aw];omega,fun y hy=>?_⟩
 rw[e]at hy
 unfold TM.dN at hy
 rcases List.mem_append.1 hy with hy|hy
 ·exact h4 y hy
 ·rw[(List.mem_replicate.1 hy).2];omega
theorem aaY(x:Fx)(g o k p M n:Nat)(t:TypeId)(gs:List Value)(old:RD.Tab)(s:aj)(w:World)(hG:aB w g t gs)(hg0:gs[o]?=some (.map (some M)))(hk:k<=2)(h:bD w p s)(hV:bI x w)(hM:bP w M n)(hn:n<1000000000)(hpb:x.base<=p)(fV:x.base<=M) :
  Calls prog 147 #[.pointer (some ⟨g,o,none⟩),.int .i64 k,.int .i64 0,.pointer (some ⟨p,0,none⟩)] w (vY x p M n s (aZ k 0 old s) w):=by
 have hl:=aB.lt h
 have hb0:Below w.heap.size w (w.alloc (.cells #[.int .i64 0,.slice none 0 0] 133)):=(Below.refl _ w).alloc (Nat.le_refl _) _
 have hT0:=aB.new w 133 [.int .i64 0,.slice none 0 0]
 have h0:bD (w.alloc (.cells #[.int .i64 0,.slice none 0 0] 133)) p s:=aB.below h hb0 hl
 have hV0:=hV.below hb0
 have hG0:=hG.below hb0 hG.lt
 have hM0:=hM.only (aH (G:=fun _=>False) hb0) (fun e=>e) (fun _ _ _ e=>e)
 obtain⟨p1,p2,p3,p4⟩:=PK k hk
 replace p1:=aA p1
 replace p2:=aA p2
 go_enter func147,ntmps147
 go_wp2_with fail
 obtain⟨C,hC⟩:∃C,C=w.heap.size:=⟨_,rfl⟩
 rw[<- hC]at hT0⊢
 generalize w.alloc (.cells #[.int .i64 0,.slice none 0 0] 133)=w1 at *
 replace hC:=aA hC
 have hag:=aA (fun W=>aaO k W hk)
 have hof:Hid (∀W:World,Below w1.heap.size w1 W->Calls prog 160 #[.map (some M),jm ((5:Nat):Int) (iV k)] W fun e w'=>∃b7 jc,e=.returned (.tuple #[.agg #[.int .i64 5,.slice (some ⟨b7,0,none⟩) (table 5 (iV k)).length jc],.nilIface])/\aB w' b7 226 (CM.cellsOf (table 5 (iV k)))/\bP w' M (n+1)/\Only (·=M) W w'):=fun W hW=>(PD x M n 5 (iV k) W p3 (hM0.only (aH (G:=fun _=>False) hW) (fun e=>e) (fun _ _ _ e=>e)) (hV0.below hW) (by omega) p4 hn fV).mono fun e w' q=>by
  obtain⟨q1,q2|⟨v,q2,rfl,⟨b7,jc,rfl,hb7⟩,iy⟩⟩:=q
  ·rw[p1.out]at q2;cases q2.1
  ·exact⟨b7,jc,rfl,hb7,iy,q1⟩
 have g0:=hG0.cell hg0
 have hcm:C≠M:=fun e=>hM0.ne hT0 e.symm
 go_region_with(first
  | (go_at_call 161;refine(hag.out _).mono ?_;rintro e w2 ⟨rfl,hb2⟩;replace hb2:=C_ hb2;have g2:=(hG0.below hb2 hG0.lt).cell hg0)
  | (go_at_call 160;refine(hof.out _ ?_).mono ?_;exact hb2;rintro e w7 ⟨b7,jc,rfl,hb7,iy,dU⟩;have iW:=(hT0.below hb2 hT0.lt).only dU hcm;have d0:=iW.cell (j:=0) rfl;have d1:=iW.cell (j:=1) rfl;have uo:=iW.free))
 all_goals go_wp2_with fail
 all_goals
  have AL:Only (fun b=>b=p\/b=M) w w7:=((aH hb0).trans (aH hb2)).trans (dU.weaken (fun _ _ e=>.inr e))
  have uq:=(iW.put 0 (.int .i64 5)).put 1 (.slice (some ⟨b7,0,none⟩) (table 5 (iV k)).length jc)
  have r0:=uq.cell (j:=0) rfl
  have r1:=uq.cell (j:=1) rfl
  have AO:Only (fun b=>b=p\/b=M) w ((w7.setCell ⟨C,0,none⟩ (.int .i64 5)).setCell ⟨C,1,none⟩ (.slice (some ⟨b7,0,none⟩) (table 5 (iV k)).length jc)):=(AL.setCell ⟨C,0,none⟩ _ (fun e=>by rw[hC.out]at e;simp at e)).setCell ⟨C,1,none⟩ _ (fun e=>by rw[hC.out]at e;simp at e)
  have jd:Only (·=C) w7 ((w7.setCell ⟨C,0,none⟩ (.int .i64 5)).setCell ⟨C,1,none⟩ (.slice (some ⟨b7,0,none⟩) (table 5 (iV k)).length jc)):=((Only.refl (·=C) w7).setCell ⟨C,0,none⟩ _ (fun _=>rfl)).setCell ⟨C,1,none⟩ _ (fun _=>rfl)
  have kE:=hb7.only jd (fun e=>hb7.apart iW (by decide) e)
  have oU:=iy.only jd (fun e=>iy.ne iW e) (fun b xs hb e=>hb.apart iW (by decide) e)
  have hM2:=hM0.only (aH (G:=fun _=>False) hb2) (fun e=>e) (fun _ _ _ e=>e)
  have hp2:bD w2 p s:=aB.below h0 hb2 (aB.lt h0)
  have jQ:bD w7 p s:=aB.only hp2 dU (fun e=>hM2.ne hp2 e.symm)
  have oV:bD _ p s:=aB.only jQ jd (fun e=>aB.apart jQ iW (by decide) e)
  refine bodyPost_ret (v:=.tuple #[.agg #[.int .i64 5,.slice (some ⟨b7,0,none⟩) (table 5 (iV k)).length jc],.nilIface]) (by simp[results,results147,go_sem,r0,r1]) rfl ?_
  refine⟨AO,.inr ⟨⟨true,5,table 5 (RD.plain k)⟩,0,.slice (some ⟨b7,0,none⟩) (table 5 (iV k)).length jc,by rw[aZ,if_pos rfl],rfl,⟨b7,jc,by rw[p2.out],by rw[<- p2.out];exact kE⟩,by rw[List.drop_zero];exact oV,oU⟩⟩
theorem aaZ(x:Fx)(g o k p M n:Nat)(old:RD.Tab)(s:aj)(w:World)(hk:k<=2)(h:bD w p s)(hV:bI x w)(hs:s.length<=1048576)(hM:bP w M n)(hpb:x.base<=p) :
  Calls prog 147 #[.pointer (some ⟨g,o,none⟩),.int .i64 k,.int .i64 1,.pointer (some ⟨p,0,none⟩)] w (vY x p M n s (aZ k 1 old s) w):=by
 have hl:=aB.lt h
 have hb0:Below w.heap.size w (w.alloc (.cells #[.int .i64 0,.slice none 0 0] 133)):=(Below.refl _ w).alloc (Nat.le_refl _) _
 have hT0:=aB.new w 133 [.int .i64 0,.slice none 0 0]
 have h0:bD (w.alloc (.cells #[.int .i64 0,.slice none 0 0] 133)) p s:=aB.below h hb0 hl
 have hV0:=hV.below hb0
 have hM0:=hM.only (aH (G:=fun _=>False) hb0) (fun e=>e) (fun _ _ _ e=>e)
 go_enter func147,ntmps147
 go_wp2_with fail
 refine(aaH x k p M n old s _ hk h0 hV0 hs hM0 hpb).mono ?_
 obtain⟨C,hC⟩:∃C,C=w.heap.size:=⟨_,rfl⟩
 have AP:¬(C=p\/C=M):=by
  have:=hM.lt
  omega
 rw[<- hC]at hT0⊢
 generalize w.alloc (.cells #[.int .i64 0,.slice none 0 0] 133)=w1 at *
 replace hC:=aA hC
 rintro e w2 ⟨hO2,(⟨hR,rfl⟩|⟨tt,cc,v,hR,rfl,hst,hp2,hM2⟩)⟩
 ·have hT2:=hT0.only hO2 AP
  have c0:=hT2.cell (j:=0) rfl
  have c1:=hT2.cell (j:=1) rfl
  have fz:=hT2.free
  have bZ:=(hT2.put 0 (.int .i64 0)).put 1 (.slice none 0 0)
  have r0:=bZ.cell (j:=0) rfl
  have r1:=bZ.cell (j:=1) rfl
  have hO:Only (fun b=>b=p\/b=M) w ((w2.setCell ⟨C,0,none⟩ (.int .i64 0)).setCell ⟨C,1,none⟩ (.slice none 0 0)):=(((aH hb0).trans hO2).setCell ⟨C,0,none⟩ _ (fun e=>by rw[hC.out]at e;simp at e)).setCell ⟨C,1,none⟩ _ (fun e=>by rw[hC.out]at e;simp at e)
  replace hO:=aA hO
  replace bZ:=aA bZ
  replace hR:=aA hR
  go_wp2_with fail
  refine bodyPost_ret (v:=.tuple #[.agg #[.int .i64 0,.slice none 0 0],aW x.f]) (by simp[results,results147,go_sem,r0,r1]) rfl ?_
  exact⟨hO.out,.inl ⟨hR.out,rfl⟩⟩
 ·obtain⟨b7,c7,rfl,hb7⟩:=hst
  obtain⟨N7,fC⟩:∃q,tt.l.length=q:=⟨_,rfl⟩
  obtain⟨g7,fD⟩:∃q,tt.log=q:=⟨_,rfl⟩
  rw[fC,fD]
  have hT2:=hT0.only hO2 AP
  have c0:=hT2.cell (j:=0) rfl
  have c1:=hT2.cell (j:=1) rfl
  have fz:=hT2.free
  have bZ:=(hT2.put 0 (.int .i64 (g7:Nat))).put 1 (.slice (some ⟨b7,0,none⟩) N7 c7)
  have r0:=bZ.cell (j:=0) rfl
  have r1:=bZ.cell (j:=1) rfl
  have jd:Only (·=C) w2 ((w2.setCell ⟨C,0,none⟩ (.int .i64 (g7:Nat))).setCell ⟨C,1,none⟩ (.slice (some ⟨b7,0,none⟩) N7 c7)):=((Only.refl (·=C) w2).setCell ⟨C,0,none⟩ _ (fun _=>rfl)).setCell ⟨C,1,none⟩ _ (fun _=>rfl)
  have hO:Only (fun b=>b=p\/b=M) w ((w2.setCell ⟨C,0,none⟩ (.int .i64 (g7:Nat))).setCell ⟨C,1,none⟩ (.slice (some ⟨b7,0,none⟩) N7 c7)):=(((aH hb0).trans hO2).setCell ⟨C,0,none⟩ _ (fun e=>by rw[hC.out]at e;simp at e)).setCell ⟨C,1,none⟩ _ (fun e=>by rw[hC.out]at e;simp at e)
  have kE:=hb7.only jd (fun e=>hb7.apart hT2 (by decide) e)
  have oU:=hM2.only jd (fun e=>hM2.ne hT2 e) (fun b xs hb e=>hb.apart hT2 (by decide) e)
  have oV:bD _ p (s.drop cc):=aB.only hp2 jd (fun e=>aB.apart hp2 hT2 (by decide) e)
  replace hO:=aA hO
  replace jd:=aA jd
  replace bZ:=aA bZ
  replace hR:=aA hR
  replace kE:=aA kE
  replace oU:=aA oU
  replace oV:=aA oV
  replace fC:=aA fC
  replace fD:=aA fD
  go_wp2_with fail
  refine bodyPost_ret (v:=.tuple #[.agg #[.int .i64 (g7:Nat),.slice (some ⟨b7,0,none⟩) N7 c7],.nilIface]) (by simp[results,results147,go_sem,r0,r1]) rfl ?_
  exact⟨hO.out,.inr ⟨tt,cc,_,hR.out,by rw[fD.out],⟨b7,c7,by rw[fC.out],kE.out⟩,oV.out,oU.out⟩⟩
theorem aa0(x:Fx)(g o k p M n:Nat)(t:TypeId)(gs:List Value)(old:RD.Tab)(s:aj)(w:World)(hG:aB w g t gs)(hg0:gs[o]?=some (.map (some M)))(hn:n<1000000000)(fV:x.base<=M)(bH:g≠p)(hk:k<=2)(h:bD w p s)(hV:bI x w)(hs:s.length<=1048576)(hM:bP w M n)(hpb:x.base<=p) :
  Calls prog 147 #[.pointer (some ⟨g,o,none⟩),.int .i64 k,.int .i64 2,.pointer (some ⟨p,0,none⟩)] w (vY x p M n s (aZ k 2 old s) w):=by
 have hl:=aB.lt h
 have hb0:Below w.heap.size w (w.alloc (.cells #[.int .i64 0,.slice none 0 0] 133)):=(Below.refl _ w).alloc (Nat.le_refl _) _
 have hT0:=aB.new w 133 [.int .i64 0,.slice none 0 0]
 have h0:bD (w.alloc (.cells #[.int .i64 0,.slice none 0 0] 133)) p s:=aB.below h hb0 hl
 have hV0:=hV.below hb0
 have hM0:=hM.only (aH (G:=fun _=>False) hb0) (fun e=>e) (fun _ _ _ e=>e)
 have hG0:=hG.below hb0 hG.lt
 go_enter func147,ntmps147
 go_wp2_with fail
 refine(aaT x g o k p M n t gs old s _ hG0 hg0 hk h0 hV0 hs hM0 hn hpb fV bH).mono ?_
 obtain⟨C,hC⟩:∃C,C=w.heap.size:=⟨_,rfl⟩
 have AP:¬(C=p\/C=M):=by
  have:=hM.lt
  omega
 rw[<- hC]at hT0⊢
 generalize w.alloc (.cells #[.int .i64 0,.slice none 0 0] 133)=w1 at *
 replace hC:=aA hC
 rintro e w2 ⟨hO2,(⟨hR,rfl⟩|⟨tt,cc,v,hR,rfl,hst,hp2,hM2⟩)⟩
 ·have hT2:=hT0.only hO2 AP
  have c0:=hT2.cell (j:=0) rfl
  have c1:=hT2.cell (j:=1) rfl
  have fz:=hT2.free
  have bZ:=(hT2.put 0 (.int .i64 0)).put 1 (.slice none 0 0)
  have r0:=bZ.cell (j:=0) rfl
  have r1:=bZ.cell (j:=1) rfl
  have hO:Only (fun b=>b=p\/b=M) w ((w2.setCell ⟨C,0,none⟩ (.int .i64 0)).setCell ⟨C,1,none⟩ (.slice none 0 0)):=(((aH hb0).trans hO2).setCell ⟨C,0,none⟩ _ (fun e=>by rw[hC.out]at e;simp at e)).setCell ⟨C,1,none⟩ _ (fun e=>by rw[hC.out]at e;simp at e)
  replace hO:=aA hO
  replace bZ:=aA bZ
  replace hR:=aA hR
  go_wp2_with fail
  refine bodyPost_ret (v:=.tuple #[.agg #[.int .i64 0,.slice none 0 0],aW x.f]) (by simp[results,results147,go_sem,r0,r1]) rfl ?_
  exact⟨hO.out,.inl ⟨hR.out,rfl⟩⟩
 ·obtain⟨b7,c7,rfl,hb7⟩:=hst
  obtain⟨N7,fC⟩:∃q,tt.l.length=q:=⟨_,rfl⟩
  obtain⟨g7,fD⟩:∃q,tt.log=q:=⟨_,rfl⟩
  rw[fC,fD]
  have hT2:=hT0.only hO2 AP
  have c0:=hT2.cell (j:=0) rfl
  have c1:=hT2.cell (j:=1) rfl
  have fz:=hT2.free
  have bZ:=(hT2.put 0 (.int .i64 (g7:Nat))).put 1 (.slice (some ⟨b7,0,none⟩) N7 c7)
  have r0:=bZ.cell (j:=0) rfl
  have r1:=bZ.cell (j:=1) rfl
  have jd:Only (·=C) w2 ((w2.setCell ⟨C,0,none⟩ (.int .i64 (g7:Nat))).setCell ⟨C,1,none⟩ (.slice (some ⟨b7,0,none⟩) N7 c7)):=((Only.refl (·=C) w2).setCell ⟨C,0,none⟩ _ (fun _=>rfl)).setCell ⟨C,1,none⟩ _ (fun _=>rfl)
  have hO:Only (fun b=>b=p\/b=M) w ((w2.setCell ⟨C,0,none⟩ (.int .i64 (g7:Nat))).setCell ⟨C,1,none⟩ (.slice (some ⟨b7,0,none⟩) N7 c7)):=(((aH hb0).trans hO2).setCell ⟨C,0,none⟩ _ (fun e=>by rw[hC.out]at e;simp at e)).setCell ⟨C,1,none⟩ _ (fun e=>by rw[hC.out]at e;simp at e)
  have kE:=hb7.only jd (fun e=>hb7.apart hT2 (by decide) e)
  have oU:=hM2.only jd (fun e=>hM2.ne hT2 e) (fun b xs hb e=>hb.apart hT2 (by decide) e)
  have oV:bD _ p (s.drop cc):=aB.only hp2 jd (fun e=>aB.apart hp2 hT2 (by decide) e)
  replace hO:=aA hO
  replace jd:=aA jd
  replace bZ:=aA bZ
  replace hR:=aA hR
  replace kE:=aA kE
  replace oU:=aA oU
  replace oV:=aA oV
  replace fC:=aA fC
  replace fD:=aA fD
  go_wp2_with fail
  refine bodyPost_ret (v:=.tuple #[.agg #[.int .i64 (g7:Nat),.slice (some ⟨b7,0,none⟩) N7 c7],.nilIface]) (by simp[results,results147,go_sem,r0,r1]) rfl ?_
  exact⟨hO.out,.inr ⟨tt,cc,_,hR.out,by rw[fD.out],⟨b7,c7,by rw[fC.out],kE.out⟩,oV.out,oU.out⟩⟩
theorem aa1(x:Fx)(g o k p M n:Nat)(t:TypeId)(gs:List Value)(old:RD.Tab)(v:Value)(s:aj)(w:World)(hG:aB w g t gs)(hk:k<=2)(h:bD w p s)(hV:bI x w)(hM:bP w M n)(hpb:x.base<=p)(hl1:gs[o+1+k*2]?=some (.int .i64 (old.log:Nat)))(hl2:gs[o+1+k*2+1]?=some v)(hO:rV w v old) :
  Calls prog 147 #[.pointer (some ⟨g,o,none⟩),.int .i64 k,.int .i64 3,.pointer (some ⟨p,0,none⟩)] w (vY x p M n s (aZ k 3 old s) w):=by
 have hl:=aB.lt h
 have hb0:Below w.heap.size w (w.alloc (.cells #[.int .i64 0,.slice none 0 0] 133)):=(Below.refl _ w).alloc (Nat.le_refl _) _
 have hT0:=aB.new w 133 [.int .i64 0,.slice none 0 0]
 have h0:bD (w.alloc (.cells #[.int .i64 0,.slice none 0 0] 133)) p s:=aB.below h hb0 hl
 have hV0:=hV.below hb0
 have hM0:=hM.only (aH (G:=fun _=>False) hb0) (fun e=>e) (fun _ _ _ e=>e)
 have hG0:=hG.below hb0 hG.lt
 have c1:=hG0.cell hl1
 have c2:=hG0.cell hl2
 have cF:=hV0.cF
 have fz0:=hT0.free
 have z0:=hT0.cell (j:=0) rfl
 have z1:=hT0.cell (j:=1) rfl
 have hC0:=hM.lt
 have h8:=hV.eight
 have jP:=hV.size
 have hgl:=hG.lt
 rcases hO with⟨rfl,rfl⟩|⟨hth,b7,c7,rfl,hb7⟩
 ·have hnq:=nil_eq
  go_enter func147,ntmps147
  go_wp2_with fail
  obtain⟨C,hC⟩:∃C,C=w.heap.size:=⟨_,rfl⟩
  rw[<- hC]at hT0 fz0 z0 z1 jP hgl hl hC0⊢
  generalize w.alloc (.cells #[.int .i64 0,.slice none 0 0] 133)=w1 at *
  replace hC:=aA hC
  have PG:¬C=6:=by omega
  have bZ:=(hT0.put 0 (.int .i64 0)).put 1 (.slice none 0 0)
  have r0:=bZ.cell (j:=0) rfl
  have r1:=bZ.cell (j:=1) rfl
  have hO:Only (fun b=>b=p\/b=M) w ((w1.setCell ⟨C,0,none⟩ (.int .i64 0)).setCell ⟨C,1,none⟩ (.slice none 0 0)):=((aH hb0).setCell ⟨C,0,none⟩ _ (fun e=>by rw[hC.out]at e;simp at e)).setCell ⟨C,1,none⟩ _ (fun e=>by rw[hC.out]at e;simp at e)
  replace hO:=aA hO
  replace bZ:=aA bZ
  go_region_with(fail)
  all_goals go_wp2_with fail
  all_goals
   refine bodyPost_ret (v:=.tuple #[.agg #[.int .i64 0,.slice none 0 0],aW x.f]) (by simp[results,results147,go_sem,r0,r1]) rfl ?_
   exact⟨hO.out.drew,.inl ⟨by rw[aZ,if_neg (by decide),if_neg (by decide),if_neg (by decide),if_neg (by decide)],rfl⟩⟩
 ·obtain⟨N7,fC⟩:∃q,old.l.length=q:=⟨_,rfl⟩
  obtain⟨g7,fD⟩:∃q,old.log=q:=⟨_,rfl⟩
  rw[fC]at c2
  rw[fD]at c1
  replace fC:=aA fC
  replace fD:=aA fD
  replace hl1:=aA hl1
  replace hl2:=aA hl2
  have hnq:=aaX b7 N7 c7
  have hO3:Hid ((w.alloc (.cells #[.int .i64 0,.slice none 0 0] 133)).cell? ⟨w.heap.size,0,none⟩=some (.int .i64 0)):=z0
  go_enter func147,ntmps147
  go_wp2_with fail
  have kE:Below w.heap.size w (w.alloc (.cells #[.int .i64 (g7:Nat),.slice (some ⟨b7,0,none⟩) N7 c7] 133)):=(Below.refl _ w).alloc (Nat.le_refl _) _
  refine bodyPost_ret (v:=.tuple #[.agg #[.int .i64 (g7:Nat),.slice (some ⟨b7,0,none⟩) N7 c7],.nilIface]) (by simp[results,results147,go_sem]) rfl ?_
  refine⟨aH kE,.inr ⟨old,0,.slice (some ⟨b7,0,none⟩) N7 c7,?_,by rw[fD.out],⟨b7,c7,by rw[fC.out],hb7.below kE hb7.lt⟩,by rw[List.drop_zero];exact aB.below h kE (aB.lt h),(hM.only (aH (G:=fun _=>False) kE) (fun e=>e) (fun _ _ _ e=>e)).up⟩⟩
  rw[aZ,if_neg (by decide),if_neg (by decide),if_neg (by decide),if_pos hth]
theorem aa2(x:Fx)(g o k wy p M n:Nat)(t:TypeId)(gs:List Value)(old:RD.Tab)(v:Value)(s:aj)(w:World)(hG:aB w g t gs)(hg0:gs[o]?=some (.map (some M)))(hk:k<=2)(hwy:wy<=3)(h:bD w p s)(hV:bI x w)(hs:s.length<=1048576)(hM:bP w M n)(hn:n<1000000000)(hpb:x.base<=p)(fV:x.base<=M)(bH:g≠p)(hl1:gs[o+1+k*2]?=some (.int .i64 (old.log:Nat)))(hl2:gs[o+1+k*2+1]?=some v)(hO:rV w v old) :
  Calls prog 147 #[.pointer (some ⟨g,o,none⟩),.int .i64 k,.int .i64 wy,.pointer (some ⟨p,0,none⟩)] w (vY x p M n s (aZ k wy old s) w):=by
 rcases(by omega:wy=0\/wy=1\/wy=2\/wy=3)with rfl|rfl|rfl|rfl
 ·exact aaY x g o k p M n t gs old s w hG hg0 hk h hV hM hn hpb fV
 ·exact aaZ x g o k p M n old s w hk h hV hs hM hpb
 ·exact aa0 x g o k p M n t gs old s w hG hg0 hn fV bH hk h hV hs hM hpb
 ·exact aa1 x g o k p M n t gs old v s w hG hk h hV hM hpb hl1 hl2 hO
end Go.Proofs.YtbhemchnjpajiaaGreatDoor
