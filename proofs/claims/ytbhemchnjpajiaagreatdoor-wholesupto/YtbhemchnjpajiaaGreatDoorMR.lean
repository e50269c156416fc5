/- Proved: for every setting and every string whose bulk is at most 1048576 the law Wholes returns true, over the six errors of package faults and the handle of the type error as the program's text lays them; what was handed in reads as it did. -/
import Derived.Test.YtbhemchnjpajiaaGreatDoorCards
import Derived.Test.YtbhemchnjpajiaaGreatDoorTie
import Derived.Test.YtbhemchnjpajiaaGreatDoorLM
import Derived.Test.YtbhemchnjpajiaaGreatDoorMX
import Derived.WalkKit
import Derived.ChangeMaps5
import Derived.ProofKit
import Derived.OpenShut
import Derived.ShutString
import Derived.ChangeOld
import Derived.Below
import Derived.Deep.DeepHandedRow
import Derived.Deep.DeepWitnessRowRef
namespace Go.Proofs.YtbhemchnjpajiaaGreatDoor.wholesLaw
open Go.ChangeShapes Go.WideShapes Go.ChangeAt Go.RowKit Go.ChangeMaps
set_option linter.unusedVariables false
theorem own:ownKnob Tryz.prog.godebug=none:=by kernel_rfl
theorem laidOut:laidOutB Tryz.prog=true:=by kernel_rfl
theorem wf64{a:Int}(h:(Lit.int .i64 a).wf=true):-9223372036854775808<=a/\a<=9223372036854775807:=by
 have h':(decide ((-9223372036854775808:Int)<=a)&&decide (a<=9223372036854775807))=true:=h
 simpa using h'
abbrev FN:Array Value:=#[.agg #[.int .i64 0,.slice none 0 0],.string ⟨#[]⟩]
theorem laid_met(os:Os):laidMetH Tryz.prog theLaid ((laidWorld os).forCall (fun _ _=>0) ⟨#[],FN,[]⟩).memory :=
 laidMetH_of_parts (laidMet_of_run' 8 (by kernel_rfl) (by kernel_rfl)) (by kernel_rfl)
theorem reads(os:Os){H:Type}(enc:TypeId×Value->H):∃places,DataW.whole enc Tryz.prog ((laidWorld os).forCall (fun _ _=>0) ⟨#[],FN,[]⟩).memory Tryz.f6.params.toList (Rows.OpenSpec.upto Rows.wholesSpec).vars false FN.toList 8=some ([.agg [.lit (.int .i64 0),.nil],.lit (.string [])],[],places) :=
 ⟨[],by kernel_rfl⟩
set_option maxRecDepth 100000 in
theorem contract(H:Type)(enc:TypeId×Value->H)(W:World)(base:Nat)(args:Array Value)(ds gs:List (DataW H))(before:List MemPlace)
  (hval:∀(j:Nat) t v,Tryz.f6.params[j]?=some t->args[j]?=some v->Value.okWide Tryz.prog W .any base t v)
  (hW:DataW.Whole enc Tryz.prog Tryz.f6.params.toList Rows.wholesSpec.vars false W args.toList ds gs before) (hk:Rows.uptoSmall H (ds++gs)=true) (hL:laidMetH Tryz.prog theLaid W) (hS:W.ShapedOpen Tryz.prog) :
  Calls Tryz.prog 6 args W fun e W'=>∃v,e=.returned v/\Rows.wholesSpec.post enc Tryz.prog Tryz.f6 false true false false W args v W':=by
 have hW':=hW
 obtain⟨p,q,hA0,hV,rfl,hfz,hnd⟩:=hW
 have hA:DataW.TrodAll enc Tryz.prog W 0 (fun _=>true) true Tryz.f6.params.toList args.toList ds p:=hA0
 rw[Tryz.params6]at hA hval
 obtain⟨v0,vs0,d0,ds0,p0,q0,hargs,rfl,rfl,h0,r0⟩:=trodAll_cons hA
 obtain⟨v1,vs1,d1,ds1,p1,q1,rfl,rfl,rfl,h1,r1⟩:=trodAll_cons r0
 obtain⟨rfl,rfl,rfl⟩:=trodAll_nil r1
 obtain rfl:args=#[v0,v1]:=by cases args;simp_all
 obtain⟨rfl,rfl⟩:=trodVars_none hV
 have Uy:=of_decide_eq_true hk
 simp only[List.cons_append,List.nil_append,Rows.uptoBulkAll]at Uy
 obtain⟨b1,rfl,rfl,rfl,w1⟩:=open_string Tryz.underlying9 (hval 1 9 v1 rfl rfl) h1
 obtain⟨cs0,rfl,hcs0⟩:=okWide_struct Tryz.underlying24 (hval 0 24 v0 rfl rfl)
 have k0:=h0
 have lt0:∀x∈p0,x.block<W.heap.size:=by obtain⟨m,hm⟩:=k0;exact DataW.trod_lt m _ _ _ hm
 obtain⟨n0,h0⟩:=h0
 obtain⟨y0,y1,n,hx,hl,t0,t1⟩:=trod_struct2 Tryz.underlying24 h0
 rw[adH]at hcs0
 obtain⟨c0,c1,rfl⟩:∃c0 c1,cs0=#[c0,c1]:=by
  obtain⟨l⟩:=cs0
  match l,hcs0 with
  | [c0,c1],_=>exact⟨c0,c1,rfl⟩
 have t0':DataW.trod enc Tryz.prog W 0 (fun _=>true) true n 3 [c0]=some y0:=t0
 have t1':DataW.trod enc Tryz.prog W 0 (fun _=>true) true n 22 [c1]=some y1:=t1
 obtain⟨lim,e0,rfl,wl⟩:=DataW.trod_int Tryz.underlying3 t0'
 obtain rfl:=List.singleton_inj.1 e0
 obtain⟨dd,hD,hdl,hdt⟩:=adK t1'
 have hx1:d0=.agg [.lit (.int .i64 lim),y1.1]:=congrArg Prod.fst hx
 have hb0:Rows.uptoBulk d0=Rows.uptoBulk y1.1+2:=by
  rw[hx1]
  simp only[Rows.uptoBulk,Rows.uptoBulkAll]
  omega
 obtain⟨x,hVa,hEr⟩:=adV (adW hS) hL
 simp only[Rows.uptoBulk]at Uy
 have hka:=aj0 x lim dd _ b1.data.toList W (wf64 wl) hD (by omega) (fun d hd=>by have:=hdt d hd;omega) (by omega) hVa hEr
 rw[<- RD.Lm]at hka
 refine hka.mono fun e W'⟨he,bel⟩=>?_
 subst he
 exact⟨_,rfl,_,_,_,[],_,[],hW',trodAll_mk1 (shut_bool Tryz.underlying4 _),(trodAll_cons_mk (Below.trod laidOut (by kernel_rfl) (of_decide_eq_true (by kernel_rfl)) k0 bel lt0) (trodAll_cons_mk (shut_string Tryz.underlying9 w1) trodAll_mk0)),rfl,bel.frame _,fun h=>by cases h⟩
set_option maxRecDepth 100000 in
theorem lifted(os:Os)(started:os.Started)(H:Type)(enc:TypeId×Value->H)(F:Stop.Interp) :
  ReturnsInHanded {} Tryz.checked os 6 .any ((Rows.OpenSpec.upto Rows.wholesSpec).preRow enc Tryz.prog Tryz.f6 Rows.wholesUptoRow.domain false Rows.wholesUptoRow.laid) (((Rows.OpenSpec.upto Rows.wholesSpec).at F).post enc Tryz.prog Tryz.f6 false true false false):=by
 obtain⟨places,hx⟩:=reads os enc
 refine returnsInHanded_of_row (C:=Tryz.checked) (s:=Rows.OpenSpec.upto Rows.wholesSpec) own started (by kernel_rfl) Tryz.func6
  (witness_row_atRef (enc:=enc) (C:=Tryz.checked) false (laidWorld os) FN rfl (by kernel_rfl) (by kernel_rfl) (by kernel_rfl)
   (OpenSpec.preRow_of_cond 8 hx (by kernel_rfl) (fun k hk=>by cases hk;kernel_rfl) (by kernel_rfl) (laid_met os))) ?_
 intro W base args ds gs before hval hW _ hcond _ hL hS _
 exact contract H enc W base args ds gs before hval hW (hcond _ rfl) hL hS
theorem ahc:Rows.WholesUptoSaid :=
 OpenClaim.holds_of_cond 6 Tryz.f6 rfl rfl rfl rfl rfl rfl rfl ⟨rfl,rfl,rfl,rfl,rfl⟩ rfl rfl rfl rfl rfl (by kernel_rfl) Tryz.func6 (by kernel_rfl)
  (of_decide_eq_true (by kernel_rfl)) (by unfold Func.isWrapper;first|(rw[if_pos (by decide +kernel)];kernel_rfl)|(rw[if_neg (by decide +kernel)];exact⟨rfl,rfl⟩))
  (fun os started H enc _ F=>by rw[OpenClaim.pre_eq_preRow];exact lifted os started H enc F)
theorem wants(t:TypeId)(h:t∈#[24,9]):Tryz.prog.wantsStandIn t=false:=by
 simp only[List.mem_toArray,List.mem_cons,List.not_mem_nil,or_false]at h
 rcases h with rfl|rfl<;>kernel_rfl
theorem plain (f : FuncId) (fn : Func) (hf : Tryz.pinned.checked.prog.funcNamed "skein/skeinlaw.Wholes" = some f) (hfn : Tryz.pinned.checked.prog.funcs[f]? = some fn) :
  true=Tryz.pinned.checked.prog.looks []/\∀(j:Nat) t,fn.params[j]?=some t->Tryz.pinned.checked.prog.wantsStandIn t=false:=by
 obtain rfl : f = 6 := Option.some.inj ((show Tryz.prog.funcNamed "skein/skeinlaw.Wholes" = some 6 by kernel_rfl).symm.trans hf) |>.symm
 obtain rfl:fn=Tryz.f6:=(Option.some.inj (Tryz.func6.symm.trans hfn)).symm
 refine⟨by kernel_rfl,fun j t ht=>?_⟩
 rw[Tryz.params6]at ht
 exact wants t (Array.mem_of_getElem? ht)
theorem ahd:Rows.WholesUptoCardSaid :=
 Claim7.holds_tied_plain_at .later [] _ _ _ _ ahc (fun _ h=>by cases h) (by kernel_rfl) (fun _ h=>by cases h) wholesUpto_row_tie rfl ⟨rfl,rfl⟩ (by kernel_rfl) rfl plain (by kernel_rfl)
end Go.Proofs.YtbhemchnjpajiaaGreatDoor.wholesLaw
namespace Go.Proofs.YtbhemchnjpajiaaGreatDoor
theorem wholesUpto_proved:Rows.WholesUptoCardSaid:=wholesLaw.ahd
#print axioms wholesUpto_proved
end Go.Proofs.YtbhemchnjpajiaaGreatDoor
