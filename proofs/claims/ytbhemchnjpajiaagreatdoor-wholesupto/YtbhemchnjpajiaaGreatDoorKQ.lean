/- Several texts in one: PrOf. -/
import Derived.Test.YtbhemchnjpajiaaGreatDoorKP
set_option linter.unusedVariables false
set_option maxRecDepth 100000
set_option maxHeartbeats 4000000
namespace Go.Proofs.YtbhemchnjpajiaaGreatDoor
open Go.RowKit Go.Proofs.Tryz
open Go.Maps (Keyed fit_look fit_store)
open Go.WideElems (Fit)
def qp(w:World)(v:Value)(l:List CM.aG):Prop:=∃b c,v=.slice (some ⟨b,0,none⟩) l.length c/\aB w b 226 (CM.cellsOf l)
theorem qp.only{G:Nat->Prop}{w w':World}{v:Value}{l:List CM.aG}(h:qp w v l)(ho:Only G w w')(hn:∀b xs,aB w b 226 xs->¬G b):qp w' v l:=by
 obtain⟨b,c,rfl,hb⟩:=h
 exact⟨b,c,rfl,hb.only ho (hn b _ hb)⟩
theorem qp.AA{w:World}{v:Value}{l:List CM.aG}(h:qp w v l):dA w v l:=by
 obtain⟨b,c,rfl,hb⟩:=h
 refine⟨_,c,rfl,.inr ⟨b,rfl,hb.lt,fun i hi=>?_⟩⟩
 obtain⟨q0,q1,q2⟩:=CM.cellsOf_at l i hi
 exact⟨hb.cell q0,hb.cell q1,hb.cell q2⟩
def mR(v:Value):Option (DataW Unit×List MemPlace):=some (.agg [],[])
def bP(w:World)(M n:Nat):Prop:=∃es clock,w.heap[M]?=some (.map es clock)/\Fit prog 294 mR es clock/\es.size<=n /\
 ∀e∈es.toList,∃(lg:Nat)(z:List Int)(v:Value),e.key=jm lg z/\z.length=16/\dI lg z=true/\e.val=.agg #[.int .i64 lg,v]/\qp w v (table lg z)
theorem bP.lt{w:World}{M n:Nat}(h:bP w M n):M<w.heap.size:=by
 obtain⟨es,clock,h,-⟩:=h
 exact(Array.getElem?_eq_some_iff.1 h).1
theorem bP.ne{w:World}{M n b:Nat}{t:TypeId}{xs:List Value}(h:bP w M n)(k:aB w b t xs):M≠b:=by
 obtain⟨es,clock,h,-⟩:=h
 intro e
 subst e
 have k:w.heap[M]?=some (.cells xs.toArray t (0,0)):=k
 rw[h]at k
 cases k
theorem bP.only{G:Nat->Prop}{w w':World}{M n:Nat}(h:bP w M n)(ho:Only G w w')(hM:¬G M)(hn:∀b xs,aB w b 226 xs->¬G b):bP w' M n:=by
 have hl:=h.lt
 obtain⟨es,clock,h1,h2,h3,h4⟩:=h
 refine⟨es,clock,by rw[ho.block M hl hM];exact h1,h2,h3,fun e he=>?_⟩
 obtain⟨lg,z,v,q1,q2,q3,q4,q5⟩:=h4 e he
 exact⟨lg,z,v,q1,q2,q3,q4,q5.only ho hn⟩
def IK(x:Fx)(M n lg:Nat)(z:List Int)(w:World)(e:Ending)(w':World):Prop :=
 Only (·=M) w w'/\((dI lg z=false/\e=.returned (.tuple #[.agg #[.int .i64 0,.slice none 0 0],aW x.f])) \/
  ∃v,dI lg z=true/\e=.returned (.tuple #[.agg #[.int .i64 lg,v],.nilIface])/\qp w' v (table lg z)/\bP w' M (n+1))
theorem Px{α:Type}:∀(a b:List α),a.Nodup->(∀x∈a,x∈b)->a.length<=b.length
 | [],_,_,_=>Nat.zero_le _
 | x::a,b,hn,hs=>by
  have:DecidableEq α:=fun _ _=>Classical.propDecidable _
  have hx:=hs x (by simp)
  have h1:=Px a (b.erase x) (List.nodup_cons.1 hn).2 (fun y hy=>(List.mem_erase_of_ne (by rintro rfl;exact(List.nodup_cons.1 hn).1 hy)).2 (hs y (by simp[hy])))
  rw[List.length_erase_of_mem hx]at h1
  have h2:=List.length_pos_of_mem hx
  simp only[List.length_cons]
  omega
theorem below_grow{B:Nat}{a b c:World}(h:Below B a b)(k:Below b.heap.size b c)(hB:B<=b.heap.size):Below B a c:=h.trans ⟨k.os,k.tape,k.output,k.size,fun j hj=>k.block j (by omega)⟩
theorem aax{w:World}{M:Nat}{o:Obj}{es:Array MapEntry}{clock:Nat}(hb:w.heap[M]?=some (.map es clock)):Only (·=M) w (Go.ChangeMaps.setBlock w M o) :=
 ⟨rfl,rfl,rfl,by simp[Go.ChangeMaps.setBlock],fun k hk hn=>by simp[Go.ChangeMaps.setBlock,Ne.symm hn]⟩
theorem aay{w:World}{M:Nat}{o:Obj}(hM:M<w.heap.size):(Go.ChangeMaps.setBlock w M o).heap[M]?=some o:=by
 simp[Go.ChangeMaps.setBlock,hM]
theorem aaz(x:Fx)(M n lg:Nat)(z0 z1 z2 z3 z4 z5 z6 z7 z8 z9 z10 z11 z12 z13 bf bC:Int)(w:World)(es:Array MapEntry)(clock:Nat)(b cc:Nat)(rP:M<w.heap.size)(hb:w.heap[M]?=some (.map es clock))
  (hrun:(Instr.lookup 127 (.map (some M)) (.agg #[.int .i64 (lg:Int),.int .i64 z0,.int .i64 z1,.int .i64 z2,.int .i64 z3,.int .i64 z4,.int .i64 z5,.int .i64 z6,.int .i64 z7,.int .i64 z8,.int .i64 z9,.int .i64 z10,.int .i64 z11,.int .i64 z12,.int .i64 z13,.int .i64 bf,.int .i64 bC]) true).run prog ((w.alloc (.cells #[.int .i64 (lg:Int),.int .i64 z0,.int .i64 z1,.int .i64 z2,.int .i64 z3,.int .i64 z4,.int .i64 z5,.int .i64 z6,.int .i64 z7,.int .i64 z8,.int .i64 z9,.int .i64 z10,.int .i64 z11,.int .i64 z12,.int .i64 z13,.int .i64 bf,.int .i64 bC] 294)).alloc (.cells #[.int .i64 0,.slice none 0 0] 133))=.ok (.tuple #[.agg #[.int .i64 (lg:Int),.slice (some ⟨b,0,none⟩) (table lg [z0,z1,z2,z3,z4,z5,z6,z7,z8,z9,z10,z11,z12,z13,bf,bC]).length cc],.bool true]) ((w.alloc (.cells #[.int .i64 (lg:Int),.int .i64 z0,.int .i64 z1,.int .i64 z2,.int .i64 z3,.int .i64 z4,.int .i64 z5,.int .i64 z6,.int .i64 z7,.int .i64 z8,.int .i64 z9,.int .i64 z10,.int .i64 z11,.int .i64 z12,.int .i64 z13,.int .i64 bf,.int .i64 bC] 294)).alloc (.cells #[.int .i64 0,.slice none 0 0] 133))) :
  Calls prog 160 #[.map (some M),.agg #[.int .i64 (lg:Int),.int .i64 z0,.int .i64 z1,.int .i64 z2,.int .i64 z3,.int .i64 z4,.int .i64 z5,.int .i64 z6,.int .i64 z7,.int .i64 z8,.int .i64 z9,.int .i64 z10,.int .i64 z11,.int .i64 z12,.int .i64 z13,.int .i64 bf,.int .i64 bC]] w fun e w'=>e=.returned (.tuple #[.agg #[.int .i64 lg,.slice (some ⟨b,0,none⟩) (table lg [z0,z1,z2,z3,z4,z5,z6,z7,z8,z9,z10,z11,z12,z13,bf,bC]).length cc],.nilIface])/\Below w.heap.size w w':=by
 generalize(table lg [z0,z1,z2,z3,z4,z5,z6,z7,z8,z9,z10,z11,z12,z13,bf,bC]).length=N at *
 go_enter func160,ntmps160
 go_wp2_with fail
 refine bodyPost_ret (v:=.tuple #[.agg #[.int .i64 (lg:Int),.slice (some ⟨b,0,none⟩) N cc],.nilIface]) (by simp[results,results160,go_sem]) rfl ?_
 exact⟨rfl,(((Below.refl _ w).alloc (Nat.le_refl _) _).alloc (by simp) _).alloc (by simp;omega) _⟩
theorem aaA(x:Fx)(M n lg:Nat)(z0 z1 z2 z3 z4 z5 z6 z7 z8 z9 z10 z11 z12 z13 bf bC:Int)(w:World)(hM:bP w M n)(hV:bI x w)(iw:lg<=15)(hzb:∀y∈[z0,z1,z2,z3,z4,z5,z6,z7,z8,z9,z10,z11,z12,z13,bf,bC],-1<=y/\y<=255)(hn:n<1000000000)(fV:x.base<=M)
  (hrun:(Instr.lookup 127 (.map (some M)) (.agg #[.int .i64 (lg:Int),.int .i64 z0,.int .i64 z1,.int .i64 z2,.int .i64 z3,.int .i64 z4,.int .i64 z5,.int .i64 z6,.int .i64 z7,.int .i64 z8,.int .i64 z9,.int .i64 z10,.int .i64 z11,.int .i64 z12,.int .i64 z13,.int .i64 bf,.int .i64 bC]) true).run prog ((w.alloc (.cells #[.int .i64 (lg:Int),.int .i64 z0,.int .i64 z1,.int .i64 z2,.int .i64 z3,.int .i64 z4,.int .i64 z5,.int .i64 z6,.int .i64 z7,.int .i64 z8,.int .i64 z9,.int .i64 z10,.int .i64 z11,.int .i64 z12,.int .i64 z13,.int .i64 bf,.int .i64 bC] 294)).alloc (.cells #[.int .i64 0,.slice none 0 0] 133))=.ok (.tuple #[.agg #[.int .i64 0,.slice none 0 0],.bool false]) ((w.alloc (.cells #[.int .i64 (lg:Int),.int .i64 z0,.int .i64 z1,.int .i64 z2,.int .i64 z3,.int .i64 z4,.int .i64 z5,.int .i64 z6,.int .i64 z7,.int .i64 z8,.int .i64 z9,.int .i64 z10,.int .i64 z11,.int .i64 z12,.int .i64 z13,.int .i64 bf,.int .i64 bC] 294)).alloc (.cells #[.int .i64 0,.slice none 0 0] 133))) :
  Calls prog 160 #[.map (some M),.agg #[.int .i64 (lg:Int),.int .i64 z0,.int .i64 z1,.int .i64 z2,.int .i64 z3,.int .i64 z4,.int .i64 z5,.int .i64 z6,.int .i64 z7,.int .i64 z8,.int .i64 z9,.int .i64 z10,.int .i64 z11,.int .i64 z12,.int .i64 z13,.int .i64 bf,.int .i64 bC]] w (IK x M n lg [z0,z1,z2,z3,z4,z5,z6,z7,z8,z9,z10,z11,z12,z13,bf,bC] w):=by
 have rP:=hM.lt
 have h8:=hV.eight
 have jP:=hV.size
 have hba:Below w.heap.size w (((w.alloc (.cells #[.int .i64 (lg:Int),.int .i64 z0,.int .i64 z1,.int .i64 z2,.int .i64 z3,.int .i64 z4,.int .i64 z5,.int .i64 z6,.int .i64 z7,.int .i64 z8,.int .i64 z9,.int .i64 z10,.int .i64 z11,.int .i64 z12,.int .i64 z13,.int .i64 bf,.int .i64 bC] 294)).alloc (.cells #[.int .i64 0,.slice none 0 0] 133)).alloc (.cells #[.int .i64 0,.slice none 0 0] 133)):=(((Below.refl _ w).alloc (Nat.le_refl _) _).alloc (by simp) _).alloc (by simp;omega) _
 have hC:aB (((w.alloc (.cells #[.int .i64 (lg:Int),.int .i64 z0,.int .i64 z1,.int .i64 z2,.int .i64 z3,.int .i64 z4,.int .i64 z5,.int .i64 z6,.int .i64 z7,.int .i64 z8,.int .i64 z9,.int .i64 z10,.int .i64 z11,.int .i64 z12,.int .i64 z13,.int .i64 bf,.int .i64 bC] 294)).alloc (.cells #[.int .i64 0,.slice none 0 0] 133)).alloc (.cells #[.int .i64 0,.slice none 0 0] 133)) w.heap.size 294 [.int .i64 (lg:Int),.int .i64 z0,.int .i64 z1,.int .i64 z2,.int .i64 z3,.int .i64 z4,.int .i64 z5,.int .i64 z6,.int .i64 z7,.int .i64 z8,.int .i64 z9,.int .i64 z10,.int .i64 z11,.int .i64 z12,.int .i64 z13,.int .i64 bf,.int .i64 bC]:=((aB.new w 294 [.int .i64 (lg:Int),.int .i64 z0,.int .i64 z1,.int .i64 z2,.int .i64 z3,.int .i64 z4,.int .i64 z5,.int .i64 z6,.int .i64 z7,.int .i64 z8,.int .i64 z9,.int .i64 z10,.int .i64 z11,.int .i64 z12,.int .i64 z13,.int .i64 bf,.int .i64 bC]).alloc _).alloc _
 have hR:aB (((w.alloc (.cells #[.int .i64 (lg:Int),.int .i64 z0,.int .i64 z1,.int .i64 z2,.int .i64 z3,.int .i64 z4,.int .i64 z5,.int .i64 z6,.int .i64 z7,.int .i64 z8,.int .i64 z9,.int .i64 z10,.int .i64 z11,.int .i64 z12,.int .i64 z13,.int .i64 bf,.int .i64 bC] 294)).alloc (.cells #[.int .i64 0,.slice none 0 0] 133)).alloc (.cells #[.int .i64 0,.slice none 0 0] 133)) (w.heap.size+1) 133 [.int .i64 0,.slice none 0 0]:=by
  have:=(aB.new (w.alloc (.cells #[.int .i64 (lg:Int),.int .i64 z0,.int .i64 z1,.int .i64 z2,.int .i64 z3,.int .i64 z4,.int .i64 z5,.int .i64 z6,.int .i64 z7,.int .i64 z8,.int .i64 z9,.int .i64 z10,.int .i64 z11,.int .i64 z12,.int .i64 z13,.int .i64 bf,.int .i64 bC] 294)) 133 [.int .i64 0,.slice none 0 0]).alloc (.cells #[.int .i64 0,.slice none 0 0] 133)
  simpa using this
 have hBt:aB (((w.alloc (.cells #[.int .i64 (lg:Int),.int .i64 z0,.int .i64 z1,.int .i64 z2,.int .i64 z3,.int .i64 z4,.int .i64 z5,.int .i64 z6,.int .i64 z7,.int .i64 z8,.int .i64 z9,.int .i64 z10,.int .i64 z11,.int .i64 z12,.int .i64 z13,.int .i64 bf,.int .i64 bC] 294)).alloc (.cells #[.int .i64 0,.slice none 0 0] 133)).alloc (.cells #[.int .i64 0,.slice none 0 0] 133)) (w.heap.size+1+1) 133 [.int .i64 0,.slice none 0 0]:=by
  have:=aB.new ((w.alloc (.cells #[.int .i64 (lg:Int),.int .i64 z0,.int .i64 z1,.int .i64 z2,.int .i64 z3,.int .i64 z4,.int .i64 z5,.int .i64 z6,.int .i64 z7,.int .i64 z8,.int .i64 z9,.int .i64 z10,.int .i64 z11,.int .i64 z12,.int .i64 z13,.int .i64 bf,.int .i64 bC] 294)).alloc (.cells #[.int .i64 0,.slice none 0 0] 133)) 133 [.int .i64 0,.slice none 0 0]
  simpa using this
 have hM1:bP (((w.alloc (.cells #[.int .i64 (lg:Int),.int .i64 z0,.int .i64 z1,.int .i64 z2,.int .i64 z3,.int .i64 z4,.int .i64 z5,.int .i64 z6,.int .i64 z7,.int .i64 z8,.int .i64 z9,.int .i64 z10,.int .i64 z11,.int .i64 z12,.int .i64 z13,.int .i64 bf,.int .i64 bC] 294)).alloc (.cells #[.int .i64 0,.slice none 0 0] 133)).alloc (.cells #[.int .i64 0,.slice none 0 0] 133)) M n:=hM.only (aH (G:=fun _=>False) hba) (fun e=>e) (fun _ _ _ e=>e)
 go_enter func160,ntmps160
 go_wp2_with fail
 generalize(((w.alloc (.cells #[.int .i64 (lg:Int),.int .i64 z0,.int .i64 z1,.int .i64 z2,.int .i64 z3,.int .i64 z4,.int .i64 z5,.int .i64 z6,.int .i64 z7,.int .i64 z8,.int .i64 z9,.int .i64 z10,.int .i64 z11,.int .i64 z12,.int .i64 z13,.int .i64 bf,.int .i64 bC] 294)).alloc (.cells #[.int .i64 0,.slice none 0 0] 133)).alloc (.cells #[.int .i64 0,.slice none 0 0] 133))=w1 at *
 have hV1:=hV.below hba
 have hI:Ints w1 (some ⟨w.heap.size,1,none⟩) 16 [z0,z1,z2,z3,z4,z5,z6,z7,z8,z9,z10,z11,z12,z13,bf,bC]:=by
  refine⟨rfl,by omega,.inr ⟨w.heap.size,1,rfl,hC.lt,fun i hi=>?_⟩⟩
  apply hC.cell
  rw[Nat.add_comm 1 i]
  exact zx [z0,z1,z2,z3,z4,z5,z6,z7,z8,z9,z10,z11,z12,z13,bf,bC] i hi
 have c0:=hC.cell (j:=0) rfl
 have hRl:=hR.lt
 obtain⟨C,wW⟩:∃C,C=w.heap.size:=⟨_,rfl⟩
 rw[<- wW]at hC hR hBt hI c0 rP hRl jP
 rw[<- wW]
 replace wW:=aA wW
 clear hrun
 cases hg:dI lg [z0,z1,z2,z3,z4,z5,z6,z7,z8,z9,z10,z11,z12,z13,bf,bC]with
 | false =>
  have hst:∀W:World,W.heap=w1.heap->Calls prog 172 #[.int .i64 (lg:Int),.slice (some ⟨C,1,none⟩) 16 16] W fun e w'=>e=.returned (.tuple #[.slice none 0 0,.int .i64 4])/\w'=W:=fun W hW=>by
   refine(aan (lg:Int) (some ⟨C,1,none⟩) 16 16 [z0,z1,z2,z3,z4,z5,z6,z7,z8,z9,z10,z11,z12,z13,bf,bC] W ?_ hg).mono (fun e w' h=>⟨h.1,h.2.symm⟩)
   obtain⟨q1,q2,q3⟩:=hI
   refine⟨q1,q2,?_⟩
   rcases q3 with q3|⟨b',off,q4,q5,q6⟩
   ·exact .inl q3
   ·exact .inr ⟨b',off,q4,by rw[hW];exact q5,fun i hi=>by rw[<- q6 i hi];exact World.cell?_of_block (by rw[hW])⟩
  have z0':=hR.cell (j:=0) rfl
  have z1':=hR.cell (j:=1) rfl
  have fz:=hR.free
  have cF:=hV1.cF
  have fO:¬6=C+1:=by omega
  have Zk:¬C+1=6:=by omega
  go_region_with(go_at_call 172;refine(hst w1.drew rfl).mono ?_;rintro e w2 ⟨rfl,rfl⟩)
  all_goals go_wp2_with fail
  all_goals go_region_with(fail)
  all_goals go_wp2_with fail
  all_goals
   have hR2:=(hR.put 0 (.int .i64 0)).put 1 (.slice none 0 0)
   have r0:=hR2.cell (j:=0) rfl
   have r1:=hR2.cell (j:=1) rfl
   have hCw:w.heap.size<=C:=by rw[wW.out];exact Nat.le_refl _
   have hO2:Only (·=M) w ((w1.setCell ⟨C+1,0,none⟩ (.int .i64 0)).setCell ⟨C+1,1,none⟩ (.slice none 0 0)):=((aH (G:=(·=M)) hba).setCell ⟨C+1,0,none⟩ _ (fun e=>by simp at e;omega)).setCell ⟨C+1,1,none⟩ _ (fun e=>by simp at e;omega)
   refine bodyPost_ret (v:=.tuple #[.agg #[.int .i64 0,.slice none 0 0],aW x.f]) (by simp[results,results160,go_sem,r0,r1]) rfl ?_
   exact⟨hO2.drew.drew,.inl ⟨hg,rfl⟩⟩
 | true =>
  have hgt:(lg=5\/lg=6)/\TM.dZ [z0,z1,z2,z3,z4,z5,z6,z7,z8,z9,z10,z11,z12,z13,bf,bC] (2^lg:Nat)=true:=by
   unfold dI at hg
   simp only[Bool.or_eq_true,Bool.and_eq_true,decide_eq_true_eq]at hg
   rcases hg with⟨e,h⟩|⟨e,h⟩
   ·obtain rfl:lg=5:=by omega
    exact⟨.inl rfl,h⟩
   ·obtain rfl:lg=6:=by omega
    exact⟨.inr rfl,h⟩
  have hst:∀W:World,W.heap=w1.heap->(W.os=w1.os/\W.tape=w1.tape/\W.output=w1.output)->Calls prog 172 #[.int .i64 (lg:Int),.slice (some ⟨C,1,none⟩) 16 16] W fun e w'=>e=.returned (.tuple #[.slice (some ⟨w1.heap.size,0,none⟩) (2^lg) (2^lg),.int .i64 0])/\aB w' w1.heap.size 226 (CM.cellsOf (table lg [z0,z1,z2,z3,z4,z5,z6,z7,z8,z9,z10,z11,z12,z13,bf,bC]))/\Below w1.heap.size w1 w':=fun W hW lM=>by
   refine(aao lg (some ⟨C,1,none⟩) 16 16 [z0,z1,z2,z3,z4,z5,z6,z7,z8,z9,z10,z11,z12,z13,bf,bC] W ?_ hgt.1 hgt.2).mono (fun e w' h=>?_)
   ·obtain⟨q1,q2,q3⟩:=hI
    refine⟨q1,q2,?_⟩
    rcases q3 with q3|⟨b',off,q4,q5,q6⟩
    ·exact .inl q3
    ·exact .inr ⟨b',off,q4,by rw[hW];exact q5,fun i hi=>by rw[<- q6 i hi];exact World.cell?_of_block (by rw[hW])⟩
   ·rw[hW]at h
    exact⟨h.1,h.2.1,⟨h.2.2.os.trans lM.1,h.2.2.tape.trans lM.2.1,h.2.2.output.trans lM.2.2,by have:=h.2.2.size;rw[hW]at this;exact this,fun k hk=>by rw[h.2.2.block k hk,hW]⟩⟩
  go_region_with(go_at_call 172;refine(hst w1.drew rfl ⟨rfl,rfl,rfl⟩).mono ?_;rintro e w2 ⟨rfl,hS2,hb2⟩)
  all_goals
   have hC2:=hC.below hb2 hC.lt
   have hR2:=hR.below hb2 hR.lt
   have hM2:=hM1.only (aH (G:=fun _=>False) hb2) (fun e=>e) (fun _ _ _ e=>e)
   have hB2:=(aB.only · (aH (G:=fun _=>False) hb2) (fun e=>e):aB w1 (C+1+1) 133 [.int .i64 0,.slice none 0 0]->_) hBt
   have aio:=hC2.cell (j:=0) rfl
   have aip:=hC2.cell (j:=1) rfl
   have aiq:=hC2.cell (j:=2) rfl
   have air:=hC2.cell (j:=3) rfl
   have ais:=hC2.cell (j:=4) rfl
   have ait:=hC2.cell (j:=5) rfl
   have aiu:=hC2.cell (j:=6) rfl
   have aiv:=hC2.cell (j:=7) rfl
   have aiw:=hC2.cell (j:=8) rfl
   have aix:=hC2.cell (j:=9) rfl
   have aiy:=hC2.cell (j:=10) rfl
   have aiz:=hC2.cell (j:=11) rfl
   have aiA:=hC2.cell (j:=12) rfl
   have aiB:=hC2.cell (j:=13) rfl
   have aiC:=hC2.cell (j:=14) rfl
   have aiD:=hC2.cell (j:=15) rfl
   have aiE:=hC2.cell (j:=16) rfl
   have fzB:=hB2.free
   have Oy:=hR2.free
   have Py:C<w2.heap.size:=hC2.lt
   have aiG:C+1<w2.heap.size:=hR2.lt
   have aiH:M<w2.heap.size:=hM2.lt
   have hne2:¬C=w2.heap.size:=by omega
   replace hS2:=aA hS2
   go_wp2_with fail
  have hO3:Only (fun _=>False) w2 (w2.alloc (.cells #[.int .i64 (lg:Int),.slice (some ⟨w1.heap.size,0,none⟩) (2^lg) (2^lg)] 133)):=(Only.refl _ w2).alloc _
  have gK:=hM2.only hO3 (fun e=>e) (fun _ _ _ e=>e)
  have aV:=hR2.only hO3 (fun e=>e)
  have hS3:=hS2.out.only hO3 (fun e=>e)
  have bZ:=aB.new w2 133 [.int .i64 (lg:Int),.slice (some ⟨w1.heap.size,0,none⟩) (2^lg) (2^lg)]
  have hb3:Below w.heap.size w (w2.alloc (.cells #[.int .i64 (lg:Int),.slice (some ⟨w1.heap.size,0,none⟩) (2^lg) (2^lg)] 133)):=(below_grow hba hb2 hba.size).alloc (by have:=hba.size;have:=hb2.size;omega) _
  obtain⟨es,clock,hm1,hF,hsz,hes⟩:=id gK
  obtain⟨kl,hkl⟩:=Pv (lg:=(lg:Int)) (z:=[z0,z1,z2,z3,z4,z5,z6,z7,z8,z9,z10,z11,z12,z13,bf,bC]) rfl ⟨by omega,by omega⟩ (fun y hy=>by have:=hzb y hy;exact⟨by omega,by omega⟩)
  obtain⟨es',clock',hr,hF',-,-,-,hall⟩:=fit_store (R':=mR) Pj underlying127 hm1 hF (by unfold maxLen;omega) (key:=jm lg [z0,z1,z2,z3,z4,z5,z6,z7,z8,z9,z10,z11,z12,z13,bf,bC]) (val:=.agg #[.int .i64 (lg:Int),.slice (some ⟨w1.heap.size,0,none⟩) (2^lg) (2^lg)]) (fun _ _ _ z h=>h) hkl rfl
  have hr':(Instr.mapUpdate 127 (.map (some M)) (.agg #[.int .i64 (lg:Int),.int .i64 z0,.int .i64 z1,.int .i64 z2,.int .i64 z3,.int .i64 z4,.int .i64 z5,.int .i64 z6,.int .i64 z7,.int .i64 z8,.int .i64 z9,.int .i64 z10,.int .i64 z11,.int .i64 z12,.int .i64 z13,.int .i64 bf,.int .i64 bC]) (.agg #[.int .i64 (lg:Int),.slice (some ⟨w1.heap.size,0,none⟩) (2^lg) (2^lg)])).run prog (w2.alloc (.cells #[.int .i64 (lg:Int),.slice (some ⟨w1.heap.size,0,none⟩) (2^lg) (2^lg)] 133))=.ok () (Go.ChangeMaps.setBlock (w2.alloc (.cells #[.int .i64 (lg:Int),.slice (some ⟨w1.heap.size,0,none⟩) (2^lg) (2^lg)] 133)) M (.map es' clock')):=hr
  rw[hr']
  have hO4:Only (·=M) (w2.alloc (.cells #[.int .i64 (lg:Int),.slice (some ⟨w1.heap.size,0,none⟩) (2^lg) (2^lg)] 133)) (Go.ChangeMaps.setBlock (w2.alloc (.cells #[.int .i64 (lg:Int),.slice (some ⟨w1.heap.size,0,none⟩) (2^lg) (2^lg)] 133)) M (.map es' clock')):=aax hm1
  have hm4:(Go.ChangeMaps.setBlock (w2.alloc (.cells #[.int .i64 (lg:Int),.slice (some ⟨w1.heap.size,0,none⟩) (2^lg) (2^lg)] 133)) M (.map es' clock')).heap[M]?=some (.map es' clock'):=aay gK.lt
  generalize Go.ChangeMaps.setBlock (w2.alloc (.cells #[.int .i64 (lg:Int),.slice (some ⟨w1.heap.size,0,none⟩) (2^lg) (2^lg)] 133)) M (.map es' clock')=w4 at *
  generalize(w2.alloc (.cells #[.int .i64 (lg:Int),.slice (some ⟨w1.heap.size,0,none⟩) (2^lg) (2^lg)] 133))=w3 at *
  have fA:=aV.only hO4 (fun e=>gK.ne aV e.symm)
  have gV:=bZ.only hO4 (fun e=>gK.ne bZ e.symm)
  have hS4:=hS3.only hO4 (fun e=>gK.ne hS3 e.symm)
  have hl4:(table lg [z0,z1,z2,z3,z4,z5,z6,z7,z8,z9,z10,z11,z12,z13,bf,bC]).length=2^lg:=by unfold table;exact TM.mW _ _
  have kZ:bP w4 M (n+1):=by
   refine⟨es',clock',hm4,hF',?_,fun e he=>?_⟩
   ·have h1:=Px (es'.toList.map (·.key)) (jm lg [z0,z1,z2,z3,z4,z5,z6,z7,z8,z9,z10,z11,z12,z13,bf,bC]::es.toList.map (·.key)) hF'.stamped.2.2 (fun k hk=>by
     obtain⟨e,he,rfl⟩:=List.mem_map.1 hk
     rcases hall e he with h|h
     ·exact List.mem_cons_of_mem _ (List.mem_map.2 ⟨e,h.1,rfl⟩)
     ·rw[h.1];exact List.mem_cons_self)
    simp at h1
    omega
   ·rcases hall e he with h|h
    ·obtain⟨vW,z',v',q1,q2,q3,q4,q5⟩:=hes e h.1
     exact⟨vW,z',v',q1,q2,q3,q4,q5.only hO4 (fun b xs hb e=>gK.ne hb e.symm)⟩
    ·exact⟨lg,[z0,z1,z2,z3,z4,z5,z6,z7,z8,z9,z10,z11,z12,z13,bf,bC],_,h.1,rfl,hg,h.2,w1.heap.size,2^lg,by rw[hl4],hS4⟩
  have t40:=gV.cell (j:=0) rfl
  have t41:=gV.cell (j:=1) rfl
  have r40:=fA.cell (j:=0) rfl
  have r41:=fA.cell (j:=1) rfl
  have Pz:=fA.free
  have aaC:¬w2.heap.size=C+1:=by omega
  have hne5:¬C+1=w2.heap.size:=by omega
  replace kZ:=aA kZ
  replace hS4:=aA hS4
  have hb4:Only (·=M) w w4:=(aH (G:=(·=M)) hb3).trans ⟨hO4.os,hO4.tape,hO4.output,hO4.size,fun k hk hn=>hO4.block k hk hn⟩
  have gQ:=(fA.put 0 (.int .i64 (lg:Int))).put 1 (.slice (some ⟨w1.heap.size,0,none⟩) (2^lg) (2^lg))
  have hCw:w.heap.size<=C:=by rw[wW.out];exact Nat.le_refl _
  have dB:Only (·=M) w ((w4.setCell ⟨C+1,0,none⟩ (.int .i64 (lg:Int))).setCell ⟨C+1,1,none⟩ (.slice (some ⟨w1.heap.size,0,none⟩) (2^lg) (2^lg))):=(hb4.setCell ⟨C+1,0,none⟩ _ (fun e=>by simp at e;omega)).setCell ⟨C+1,1,none⟩ _ (fun e=>by simp at e;omega)
  have bT:Only (·=C+1) w4 ((w4.setCell ⟨C+1,0,none⟩ (.int .i64 (lg:Int))).setCell ⟨C+1,1,none⟩ (.slice (some ⟨w1.heap.size,0,none⟩) (2^lg) (2^lg))):=((Only.refl (·=C+1) w4).setCell ⟨C+1,0,none⟩ _ (fun _=>rfl)).setCell ⟨C+1,1,none⟩ _ (fun _=>rfl)
  have vX:=kZ.out.only bT (fun e=>kZ.out.ne fA e) (fun b xs hb e=>by
   rw[e]at hb
   have:=fA
   unfold aB at hb this
   rw[this]at hb
   injection hb with hb
   injection hb with _ q _
   exact absurd q (by decide))
  have hS6:=hS4.out.only bT (fun e=>by
   have hb:=hS4.out
   rw[e]at hb
   have:=fA
   unfold aB at hb this
   rw[this]at hb
   injection hb with hb
   injection hb with _ q _
   exact absurd q (by decide))
  have r50:=gQ.cell (j:=0) rfl
  have r51:=gQ.cell (j:=1) rfl
  replace dB:=aA dB
  replace bT:=aA bT
  replace vX:=aA vX
  replace hS6:=aA hS6
  replace gQ:=aA gQ
  go_wp2_with fail
  refine bodyPost_ret (v:=.tuple #[.agg #[.int .i64 (lg:Int),.slice (some ⟨w1.heap.size,0,none⟩) (2^lg) (2^lg)],.nilIface]) (by simp[results,results160,go_sem,r50,r51]) rfl ?_
  exact⟨dB.out,.inr ⟨.slice (some ⟨w1.heap.size,0,none⟩) (2^lg) (2^lg),hg,rfl,⟨w1.heap.size,2^lg,by rw[hl4],hS6.out⟩,vX.out⟩⟩
end Go.Proofs.YtbhemchnjpajiaaGreatDoor
