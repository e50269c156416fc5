/- Several texts in one: PrOf2, PrTb1, PrTb0. -/
import Derived.Test.YtbhemchnjpajiaaGreatDoorKQ
set_option linter.unusedVariables false
set_option maxRecDepth 100000
set_option maxHeartbeats 2000000
namespace Go.Proofs.YtbhemchnjpajiaaGreatDoor
open Go.RowKit Go.Proofs.Tryz
open Go.Maps (Keyed fit_look fit_store)
open Go.WideElems (Fit)
theorem aaF(W:World):(zeroValue 133).run prog W=.ok (.agg #[.int .i64 0,.slice none 0 0]) W:=by kernel_rfl
theorem bP.up{w:World}{M n:Nat}(h:bP w M n):bP w M (n+1):=by
 obtain⟨es,clock,h1,h2,h3,h4⟩:=h
 exact⟨es,clock,h1,h2,by omega,h4⟩
theorem PD(x:Fx)(M n lg:Nat)(z:List Int)(w:World)(hz:z.length=16)(hM:bP w M n)(hV:bI x w)(iw:lg<=15)(hzb:∀y∈z,-1<=y/\y<=255)(hn:n<1000000000)(fV:x.base<=M) :
  Calls prog 160 #[.map (some M),jm lg z] w (IK x M n lg z w):=by
 obtain⟨z0,z1,z2,z3,z4,z5,z6,z7,z8,z9,z10,z11,z12,z13,bf,bC,rfl⟩:∃z0 z1 z2 z3 z4 z5 z6 z7 z8 z9 z10 z11 z12 z13 bf bC,z=[z0,z1,z2,z3,z4,z5,z6,z7,z8,z9,z10,z11,z12,z13,bf,bC]:=by
  match z,hz with
  | [z0,z1,z2,z3,z4,z5,z6,z7,z8,z9,z10,z11,z12,z13,bf,bC],_=>exact⟨_,_,_,_,_,_,_,_,_,_,_,_,_,_,_,_,rfl⟩
 obtain⟨es,clock,h1,hF,hsz,hes⟩:=id hM
 have rP:=hM.lt
 have hm2:((w.alloc (.cells #[.int .i64 (lg:Int),.int .i64 z0,.int .i64 z1,.int .i64 z2,.int .i64 z3,.int .i64 z4,.int .i64 z5,.int .i64 z6,.int .i64 z7,.int .i64 z8,.int .i64 z9,.int .i64 z10,.int .i64 z11,.int .i64 z12,.int .i64 z13,.int .i64 bf,.int .i64 bC] 294)).alloc (.cells #[.int .i64 0,.slice none 0 0] 133)).heap[M]?=some (.map es clock):=by
  have hO:Only (fun _=>False) w ((w.alloc (.cells #[.int .i64 (lg:Int),.int .i64 z0,.int .i64 z1,.int .i64 z2,.int .i64 z3,.int .i64 z4,.int .i64 z5,.int .i64 z6,.int .i64 z7,.int .i64 z8,.int .i64 z9,.int .i64 z10,.int .i64 z11,.int .i64 z12,.int .i64 z13,.int .i64 bf,.int .i64 bC] 294)).alloc (.cells #[.int .i64 0,.slice none 0 0] 133)):=((Only.refl _ w).alloc _).alloc _
  rw[hO.block M rP (fun e=>e)]
  exact h1
 obtain⟨kl,hkl⟩:=Pv (lg:=(lg:Int)) (z:=[z0,z1,z2,z3,z4,z5,z6,z7,z8,z9,z10,z11,z12,z13,bf,bC]) rfl ⟨by omega,by omega⟩ (fun y hy=>by have:=hzb y hy;exact⟨by omega,by omega⟩)
 rcases fit_look true Pj underlying127 (aaF _) hm2 hF hkl with⟨hrun,-,-⟩|⟨e0,y,he0,hk,hrun,-,-,-⟩
 ·exact aaA x M n lg z0 z1 z2 z3 z4 z5 z6 z7 z8 z9 z10 z11 z12 z13 bf bC w hM hV iw hzb hn fV hrun
 ·obtain⟨vW,z',v,q1,q2,q3,q4,q5⟩:=hes e0 he0
  obtain⟨e1,e2⟩:=aas (q1.symm.trans hk)
  obtain rfl:vW=lg:=by omega
  subst e2
  obtain⟨b,cc,rfl,hb⟩:=id q5
  rw[q4]at hrun
  refine(aaz x M n vW z0 z1 z2 z3 z4 z5 z6 z7 z8 z9 z10 z11 z12 z13 bf bC w es clock b cc rP h1 hrun).mono ?_
  rintro e w' ⟨rfl,hb'⟩
  exact⟨aH hb',.inr ⟨_,q3,rfl,q5.only (aH (G:=fun _=>False) hb') (fun _ _ _ e=>e),(hM.only (aH (G:=fun _=>False) hb') (fun e=>e) (fun _ _ _ e=>e)).up⟩⟩
end Go.Proofs.YtbhemchnjpajiaaGreatDoor
namespace Go.Proofs.YtbhemchnjpajiaaGreatDoor
open Go.RowKit Go.Proofs.Tryz RD
theorem PE(k:Nat)(w:World)(hk:k<=2) :
  Calls prog 173 #[.int .i64 k] w fun e w'=>e=.returned (.int .i64 (RD.most k:Nat))/\w'=w:=by
 rcases(by omega:k=0\/k=1\/k=2)with rfl|rfl|rfl
 all_goals
  go_enter func173,ntmps173
  go_wp2
  go_ret
  exact⟨rfl,rfl⟩
theorem aaG(c:Nat)(w:World) :
  Calls prog 174 #[.int .i64 c] w fun e w'=>e=.returned (.agg #[.int .i64 0,.slice (some ⟨w.heap.size+1,0,none⟩) 1 1])/\aB w' (w.heap.size+1) 226 [.int .i64 c,.int .i64 0,.int .i64 0]/\Below w.heap.size w w':=by
 go_enter func174,ntmps174
 go_wp2_with fail
 refine bodyPost_ret (v:=.agg #[.int .i64 0,.slice (some ⟨w.heap.size+1,0,none⟩) 1 1]) (by simp[results,results174,go_sem]) rfl ?_
 refine⟨rfl,?_,((Below.refl _ w).alloc (Nat.le_refl _) _).alloc (by simp) _⟩
 have:=aB.new (w.alloc (.cells #[.int .i64 0,.slice (some ⟨w.heap.size+1,0,none⟩) 1 1] 133)) 226 [.int .i64 c,.int .i64 0,.int .i64 0]
 simpa using this
theorem aB.apart{w:World}{a b:Nat}{t u:TypeId}{xs ys:List Value}(h:aB w a t xs)(k:aB w b u ys)(hne:t≠u):a≠b:=by
 intro e
 subst e
 unfold aB at h k
 rw[h]at k
 injection k with k
 injection k with _ q _
 exact hne q
def vY(x:Fx)(p M n:Nat)(s:aj)(R:Option (RD.Tab×Nat))(w:World)(e:Ending)(w':World):Prop :=
 Only (fun b=>b=p\/b=M) w w'/\((R=none/\e=.returned (.tuple #[.agg #[.int .i64 0,.slice none 0 0],aW x.f])) \/
  ∃t c v,R=some (t,c)/\e=.returned (.tuple #[.agg #[.int .i64 (t.log:Nat),v],.nilIface])/\qp w' v t.l/\bD w' p (s.drop c)/\bP w' M (n+1))
theorem aaH(x:Fx)(k p M n:Nat)(old:RD.Tab)(s:aj)(w:World)(hk:k<=2)(h:bD w p s)(hV:bI x w)(hs:s.length<=1048576)(hM:bP w M n)(hpb:x.base<=p) :
  Calls prog 162 #[.int .i64 k,.pointer (some ⟨p,0,none⟩)] w (vY x p M n s (aZ k 1 old s) w):=by
 have hl:=aB.lt h
 have hb0:Below w.heap.size w (w.alloc (.cells #[.int .i64 0,.slice none 0 0] 133)):=(Below.refl _ w).alloc (Nat.le_refl _) _
 have hT0:=aB.new w 133 [.int .i64 0,.slice none 0 0]
 have h0:bD (w.alloc (.cells #[.int .i64 0,.slice none 0 0] 133)) p s:=aB.below h hb0 hl
 have hV0:=hV.below hb0
 have hM0:=hM.only (aH (G:=fun _=>False) hb0) (fun e=>e) (fun _ _ _ e=>e)
 have hs0:(w.alloc (.cells #[.int .i64 0,.slice none 0 0] 133)).heap.size=w.heap.size+1:=World.size_alloc _ _
 have h8:=hV.eight
 have jP:=hV.size
 go_enter func162,ntmps162
 go_wp2_with fail
 refine(vH x p s 1 _ h0 hV0 (by omega) (by omega)).mono ?_
 obtain⟨C,hC⟩:∃C,C=w.heap.size:=⟨_,rfl⟩
 rw[<- hC]at hT0 hs0 jP hl⊢
 generalize w.alloc (.cells #[.int .i64 0,.slice none 0 0] 133)=w1 at *
 replace hC:=aA hC
 rintro e w2 (⟨h1,rfl,hb⟩|⟨h1,rfl,rfl⟩)
 ·have hT2:=hT0.below hb hT0.lt
  have c0:=hT2.cell (j:=0) rfl
  have c1:=hT2.cell (j:=1) rfl
  have fz:=hT2.free
  have bZ:=(hT2.put 0 (.int .i64 0)).put 1 (.slice none 0 0)
  have r0:=bZ.cell (j:=0) rfl
  have r1:=bZ.cell (j:=1) rfl
  have hO:Only (fun b=>b=p\/b=M) w ((w2.setCell ⟨C,0,none⟩ (.int .i64 0)).setCell ⟨C,1,none⟩ (.slice none 0 0)):=(((aH hb0).trans (aH hb)).setCell ⟨C,0,none⟩ _ (fun e=>by rw[hC.out]at e;simp at e)).setCell ⟨C,1,none⟩ _ (fun e=>by rw[hC.out]at e;simp at e)
  replace hO:=aA hO
  replace bZ:=aA bZ
  go_wp2_with fail
  refine bodyPost_ret (v:=.tuple #[.agg #[.int .i64 0,.slice none 0 0],aW x.f]) (by simp[results,results162,go_sem,r0,r1]) rfl ?_
  exact⟨hO.out,.inl ⟨by rw[aZ,if_neg (by decide),if_pos rfl,if_pos (.inl (by omega))],rfl⟩⟩
 ·have hnum:au (s.take 1)=ak s 0:=vJ s (by omega)
  have hat:ak s 0<=255:=dQ s 0
  have aF:Only (fun b=>b=p\/b=M) w (w1.setCell ⟨p,0,none⟩ (.string (ah (s.drop 1)))):=(aH hb0).setCell ⟨p,0,none⟩ _ (fun _=>.inl rfl)
  have Ef:C≠p:=fun e=>by
   have:=hC.out
   omega
  have hT2:=hT0.only ((Only.refl (·=p) w1).setCell ⟨p,0,none⟩ (.string (ah (s.drop 1))) (fun _=>rfl)) Ef
  have hM2:=hM0.only ((Only.refl (·=p) w1).setCell ⟨p,0,none⟩ (.string (ah (s.drop 1))) (fun _=>rfl)) (fun e=>hM0.ne h0 e) (fun b xs hb e=>by
   rw[e]at hb
   have q:=h0
   unfold bD aB at q
   unfold aB at hb
   rw[q]at hb
   injection hb with hb
   injection hb with _ q _
   exact absurd q (by decide))
  have hp2:bD (w1.setCell ⟨p,0,none⟩ (.string (ah (s.drop 1)))) p (s.drop 1):=aB.put h0 0 _
  have hV2:=hV0.only ((Only.refl (·=p) w1).setCell ⟨p,0,none⟩ (.string (ah (s.drop 1))) (fun _=>rfl)) (fun k e=>by rw[e];exact hpb)
  rw[hnum]
  replace hnum:=aA hnum
  generalize w1.setCell ⟨p,0,none⟩ (.string (ah (s.drop 1)))=w2 at *
  have c0:=hT2.cell (j:=0) rfl
  have c1:=hT2.cell (j:=1) rfl
  have fz:=hT2.free
  have cF:=hV2.cF
  obtain⟨c,hc⟩:∃c,ak s 0=c:=⟨_,rfl⟩
  rw[hc]at hat⊢
  obtain⟨m,hm⟩:∃m,RD.most k=m:=⟨_,rfl⟩
  have hmb:m<=16:=by rw[<- hm];unfold RD.most;split<;>omega
  have hsy:=fun W=>PE k W hk
  rw[hm]at hsy
  replace hsy:=aA hsy
  go_wp2_with fail
  refine(hsy.out _).mono ?_
  rintro e w3 ⟨rfl,hw3⟩
  subst hw3
  by_cases hge:m<=c
  ·have IL:(m:Int)<=(c:Int):=by omega
   have bZ:=(hT2.put 0 (.int .i64 0)).put 1 (.slice none 0 0)
   have r0:=bZ.cell (j:=0) rfl
   have r1:=bZ.cell (j:=1) rfl
   have hO:Only (fun b=>b=p\/b=M) w ((w3.setCell ⟨C,0,none⟩ (.int .i64 0)).setCell ⟨C,1,none⟩ (.slice none 0 0)):=(aF.setCell ⟨C,0,none⟩ _ (fun e=>by rw[hC.out]at e;simp at e)).setCell ⟨C,1,none⟩ _ (fun e=>by rw[hC.out]at e;simp at e)
   have PG:¬C=6:=by omega
   replace hO:=aA hO
   replace bZ:=aA bZ
   go_wp2_with fail
   go_region_with(fail)
   all_goals go_wp2_with fail
   all_goals
    refine bodyPost_ret (v:=.tuple #[.agg #[.int .i64 0,.slice none 0 0],aW x.f]) (by simp[results,results162,go_sem,r0,r1]) rfl ?_
    exact⟨hO.out.drew,.inl ⟨by rw[aZ,if_neg (by decide),if_pos rfl,if_pos (.inr (by rw[hc,hm];exact hge))],rfl⟩⟩
  ·have IL:¬(m:Int)<=(c:Int):=by omega
   have hsg:=aA (fun W=>aaG c W)
   go_wp2_with fail
   refine(hsg.out _).mono ?_
   rintro e w4 ⟨rfl,hS4,hb4⟩
   have gV:=hT2.below hb4 hT2.lt
   have kZ:=hM2.only (aH (G:=fun _=>False) hb4) (fun e=>e) (fun _ _ _ e=>e)
   have xZ:bD w4 p (s.drop 1):=aB.below hp2 hb4 (aB.lt hp2)
   have d0:=gV.cell (j:=0) rfl
   have d1:=gV.cell (j:=1) rfl
   have Pz:=gV.free
   obtain⟨q,hq⟩:∃q,w3.heap.size+1=q:=⟨_,rfl⟩
   rw[hq]at hS4⊢
   have kW:=(gV.put 0 (.int .i64 0)).put 1 (.slice (some ⟨q,0,none⟩) 1 1)
   have r0:=kW.cell (j:=0) rfl
   have r1:=kW.cell (j:=1) rfl
   have bT:Only (·=C) w4 ((w4.setCell ⟨C,0,none⟩ (.int .i64 0)).setCell ⟨C,1,none⟩ (.slice (some ⟨q,0,none⟩) 1 1)):=((Only.refl (·=C) w4).setCell ⟨C,0,none⟩ _ (fun _=>rfl)).setCell ⟨C,1,none⟩ _ (fun _=>rfl)
   have hO:Only (fun b=>b=p\/b=M) w ((w4.setCell ⟨C,0,none⟩ (.int .i64 0)).setCell ⟨C,1,none⟩ (.slice (some ⟨q,0,none⟩) 1 1)):=((aF.trans (aH hb4)).setCell ⟨C,0,none⟩ _ (fun e=>by rw[hC.out]at e;simp at e)).setCell ⟨C,1,none⟩ _ (fun e=>by rw[hC.out]at e;simp at e)
   have hS6:=hS4.only bT (fun e=>hS4.apart gV (by decide) e)
   have IQ:bD _ p (s.drop 1):=aB.only xZ bT (fun e=>aB.apart xZ gV (by decide) e)
   have vX:=kZ.only bT (fun e=>kZ.ne gV e) (fun b xs hb e=>hb.apart gV (by decide) e)
   have hst:qp ((w4.setCell ⟨C,0,none⟩ (.int .i64 0)).setCell ⟨C,1,none⟩ (.slice (some ⟨q,0,none⟩) 1 1)) (.slice (some ⟨q,0,none⟩) 1 1) [((c:Nat),0,0)]:=⟨q,1,rfl,hS6⟩
   replace hO:=aA hO
   replace bT:=aA bT
   replace hS6:=aA hS6
   replace IQ:=aA IQ
   replace vX:=aA vX
   replace kW:=aA kW
   replace hst:=aA hst
   go_wp2_with fail
   refine bodyPost_ret (v:=.tuple #[.agg #[.int .i64 0,.slice (some ⟨q,0,none⟩) 1 1],.nilIface]) (by simp[results,results162,go_sem,r0,r1]) rfl ?_
   exact⟨hO.out,.inr ⟨⟨true,0,[((c:Nat),0,0)]⟩,1,_,by rw[aZ,if_neg (by decide),if_pos rfl,if_neg (by rw[hc,hm];omega),hc],rfl,hst.out,IQ.out,vX.out.up⟩⟩
theorem IU(lg z0 z1 z2 z3 z4 z5 z6 z7 z8 z9 z10 z11 z12 z13 bf bC:Int)(w:World)(t0 t1 t3 t4 t5 t6 t7 t8:Value):(results Tryz.f161 #[t0,t1,.pointer (some ⟨w.heap.size,0,none⟩),t3,t4,t5,t6,t7,t8]).run prog (w.alloc (.cells #[.int .i64 lg,.int .i64 z0,.int .i64 z1,.int .i64 z2,.int .i64 z3,.int .i64 z4,.int .i64 z5,.int .i64 z6,.int .i64 z7,.int .i64 z8,.int .i64 z9,.int .i64 z10,.int .i64 z11,.int .i64 z12,.int .i64 z13,.int .i64 bf,.int .i64 bC] 294))=.ok (.agg #[.int .i64 lg,.int .i64 z0,.int .i64 z1,.int .i64 z2,.int .i64 z3,.int .i64 z4,.int .i64 z5,.int .i64 z6,.int .i64 z7,.int .i64 z8,.int .i64 z9,.int .i64 z10,.int .i64 z11,.int .i64 z12,.int .i64 z13,.int .i64 bf,.int .i64 bC]) (w.alloc (.cells #[.int .i64 lg,.int .i64 z0,.int .i64 z1,.int .i64 z2,.int .i64 z3,.int .i64 z4,.int .i64 z5,.int .i64 z6,.int .i64 z7,.int .i64 z8,.int .i64 z9,.int .i64 z10,.int .i64 z11,.int .i64 z12,.int .i64 z13,.int .i64 bf,.int .i64 bC] 294)):=by
 simp[results,results161,go_sem]
def iV(k:Nat):List Int:=RD.plain k++List.replicate (16-(RD.plain k).length) 0
theorem aaI:jm ((5:Nat):Int) (iV 0)=.agg #[.int .i64 5,.int .i64 5,.int .i64 3,.int .i64 3,.int .i64 2,.int .i64 2,.int .i64 2,.int .i64 2,.int .i64 2,.int .i64 2,.int .i64 2,.int .i64 2,.int .i64 1,.int .i64 1,.int .i64 1,.int .i64 1,.int .i64 1]:=by
 simp[jm,iV,RD.plain,intCells]
theorem aaJ:jm ((5:Nat):Int) (iV 1)=.agg #[.int .i64 5,.int .i64 3,.int .i64 3,.int .i64 3,.int .i64 3,.int .i64 3,.int .i64 3,.int .i64 3,.int .i64 2,.int .i64 2,.int .i64 2,.int .i64 2,.int .i64 2,.int .i64 1,.int .i64 0,.int .i64 0,.int .i64 0]:=by
 simp[jm,iV,RD.plain,intCells,List.replicate]
theorem aaK:jm ((5:Nat):Int) (iV 2)=.agg #[.int .i64 5,.int .i64 5,.int .i64 3,.int .i64 3,.int .i64 2,.int .i64 2,.int .i64 2,.int .i64 2,.int .i64 2,.int .i64 2,.int .i64 2,.int .i64 2,.int .i64 1,.int .i64 1,.int .i64 1,.int .i64 1,.int .i64 1]:=by
 simp[jm,iV,RD.plain,intCells]
theorem aaL(w:World):Calls prog 161 #[.int .i64 0] w fun e w'=>e=.returned (.agg #[.int .i64 5,.int .i64 5,.int .i64 3,.int .i64 3,.int .i64 2,.int .i64 2,.int .i64 2,.int .i64 2,.int .i64 2,.int .i64 2,.int .i64 2,.int .i64 2,.int .i64 1,.int .i64 1,.int .i64 1,.int .i64 1,.int .i64 1])/\Below w.heap.size w w':=by
 go_enter func161,ntmps161
 go_wp2_with fail
 exact bodyPost_ret (IU 5 5 3 3 2 2 2 2 2 2 2 2 1 1 1 1 1 w _ _ _ _ _ _ _ _) rfl ⟨rfl,(Below.refl _ w).alloc (Nat.le_refl _) _⟩
theorem aaM(w:World):Calls prog 161 #[.int .i64 1] w fun e w'=>e=.returned (.agg #[.int .i64 5,.int .i64 3,.int .i64 3,.int .i64 3,.int .i64 3,.int .i64 3,.int .i64 3,.int .i64 3,.int .i64 2,.int .i64 2,.int .i64 2,.int .i64 2,.int .i64 2,.int .i64 1,.int .i64 0,.int .i64 0,.int .i64 0])/\Below w.heap.size w w':=by
 go_enter func161,ntmps161
 go_wp2_with fail
 exact bodyPost_ret (IU 5 3 3 3 3 3 3 3 2 2 2 2 2 1 0 0 0 w _ _ _ _ _ _ _ _) rfl ⟨rfl,(Below.refl _ w).alloc (Nat.le_refl _) _⟩
theorem aaN(w:World):Calls prog 161 #[.int .i64 2] w fun e w'=>e=.returned (.agg #[.int .i64 5,.int .i64 5,.int .i64 3,.int .i64 3,.int .i64 2,.int .i64 2,.int .i64 2,.int .i64 2,.int .i64 2,.int .i64 2,.int .i64 2,.int .i64 2,.int .i64 1,.int .i64 1,.int .i64 1,.int .i64 1,.int .i64 1])/\Below w.heap.size w w':=by
 go_enter func161,ntmps161
 go_wp2_with fail
 exact bodyPost_ret (IU 5 5 3 3 2 2 2 2 2 2 2 2 1 1 1 1 1 w _ _ _ _ _ _ _ _) rfl ⟨rfl,(Below.refl _ w).alloc (Nat.le_refl _) _⟩
theorem aaO(k:Nat)(w:World)(hk:k<=2) :
  Calls prog 161 #[.int .i64 k] w fun e w'=>e=.returned (jm ((5:Nat):Int) (iV k))/\Below w.heap.size w w':=by
 rcases(by omega:k=0\/k=1\/k=2)with rfl|rfl|rfl
 ·rw[aaI];exact aaL w
 ·rw[aaJ];exact aaM w
 ·rw[aaK];exact aaN w
end Go.Proofs.YtbhemchnjpajiaaGreatDoor
