/- Proved: for every two settings and every two scripts whose bulk is at most 1048576 in all the law Apart returns true, over the six errors of package faults and the handle of the type error as the program's text lays them; what was handed in reads as it did. -/
import Derived.Test.YtbhemchnjpajiaaGreatDoorCards
import Derived.Test.YtbhemchnjpajiaaGreatDoorTie
import Derived.Test.YtbhemchnjpajiaaGreatDoorLM
import Derived.Test.YtbhemchnjpajiaaGreatDoorMZ
import Derived.WalkKit
import Derived.ChangeMaps5
import Derived.ProofKit
import Derived.OpenShut
import Derived.ShutString
import Derived.ChangeOld
import Derived.Below
import Derived.Deep.DeepHandedRow
import Derived.Deep.DeepWitnessRowRef
namespace Go.Proofs.YtbhemchnjpajiaaGreatDoor.apartLaw
open Go.ChangeShapes Go.WideShapes Go.ChangeAt Go.RowKit Go.ChangeMaps
set_option linter.unusedVariables false
theorem own:ownKnob Tryz.prog.godebug=none:=by kernel_rfl
theorem laidOut:laidOutB Tryz.prog=true:=by kernel_rfl
theorem wf64{a:Int}(h:(Lit.int .i64 a).wf=true):-9223372036854775808<=a/\a<=9223372036854775807:=by
 have h':(decide ((-9223372036854775808:Int)<=a)&&decide (a<=9223372036854775807))=true:=h
 simpa using h'
abbrev FN:Array Value:=#[.agg #[.int .i64 0,.slice none 0 0],.agg #[.int .i64 0,.slice none 0 0],.slice none 0 0,.slice none 0 0]
theorem laid_met(os:Os):laidMetH Tryz.prog theLaid ((laidWorld os).forCall (fun _ _=>0) ⟨#[],FN,[]⟩).memory :=
 laidMetH_of_parts (laidMet_of_run' 8 (by kernel_rfl) (by kernel_rfl)) (by kernel_rfl)
theorem reads(os:Os){H:Type}(enc:TypeId×Value->H):∃places,DataW.whole enc Tryz.prog ((laidWorld os).forCall (fun _ _=>0) ⟨#[],FN,[]⟩).memory Tryz.f8.params.toList (Rows.OpenSpec.upto Rows.apartSpec).vars false FN.toList 8=some ([.agg [.lit (.int .i64 0),.nil],.agg [.lit (.int .i64 0),.nil],.nil,.nil],[],places) :=
 ⟨[],by kernel_rfl⟩
set_option maxRecDepth 100000 in
theorem alq{H:Type}{enc:TypeId×Value->H}{W:World}{base fuel:Nat}{v:Value}{x:DataW H×List MemPlace}(hval:Value.okWide Tryz.prog W .any base 24 v)(h:DataW.trod enc Tryz.prog W 0 (fun _=>true) true fuel 24 v.cells.toList=some x):∃lim u ds,v=.agg #[.int .i64 lim,u]/\(-9223372036854775808<=lim/\lim<=9223372036854775807)/\iE W u ds/\ds.length<=Rows.uptoBulk x.1/\∀d∈ds,d.2.length<=Rows.uptoBulk x.1:=by
 obtain⟨cs0,rfl,hcs0⟩:=okWide_struct Tryz.underlying24 hval
 obtain⟨y0,y1,n,hx,hl,t0,t1⟩:=trod_struct2 Tryz.underlying24 h
 rw[adH]at hcs0
 obtain⟨c0,c1,rfl⟩:∃c0 c1,cs0=#[c0,c1]:=by
  obtain⟨l⟩:=cs0
  match l,hcs0 with
  | [c0,c1],_=>exact⟨c0,c1,rfl⟩
 have t0':DataW.trod enc Tryz.prog W 0 (fun _=>true) true n 3 [c0]=some y0:=t0
 have t1':DataW.trod enc Tryz.prog W 0 (fun _=>true) true n 22 [c1]=some y1:=t1
 obtain⟨lim,e0,rfl,wl⟩:=DataW.trod_int Tryz.underlying3 t0'
 obtain rfl:=List.singleton_inj.1 e0
 obtain⟨dd,hD,hdl,hdt⟩:=adK t1'
 have hx1:x.1=.agg [.lit (.int .i64 lim),y1.1]:=congrArg Prod.fst hx
 have hb0:Rows.uptoBulk x.1=Rows.uptoBulk y1.1+2:=by
  rw[hx1]
  simp only[Rows.uptoBulk,Rows.uptoBulkAll]
  omega
 exact⟨lim,c1,dd,rfl,wf64 wl,hD,by omega,fun d hd=>by have:=hdt d hd;omega⟩
set_option maxRecDepth 100000 in
theorem contract(H:Type)(enc:TypeId×Value->H)(W:World)(base:Nat)(args:Array Value)(ds gs:List (DataW H))(before:List MemPlace)
  (hval:∀(j:Nat) t v,Tryz.f8.params[j]?=some t->args[j]?=some v->Value.okWide Tryz.prog W .any base t v)
  (hW:DataW.Whole enc Tryz.prog Tryz.f8.params.toList Rows.apartSpec.vars false W args.toList ds gs before) (hk:Rows.uptoSmall H (ds++gs)=true) (hL:laidMetH Tryz.prog theLaid W) (hS:W.ShapedOpen Tryz.prog) :
  Calls Tryz.prog 8 args W fun e W'=>∃v,e=.returned v/\Rows.apartSpec.post enc Tryz.prog Tryz.f8 false true false false W args v W':=by
 have hW':=hW
 obtain⟨p,q,hA0,hV,rfl,hfz,hnd⟩:=hW
 have hA:DataW.TrodAll enc Tryz.prog W 0 (fun _=>true) true Tryz.f8.params.toList args.toList ds p:=hA0
 rw[Tryz.params8]at hA hval
 obtain⟨v0,vs0,d0,ds0,p0,q0,hargs,rfl,rfl,h0,r0⟩:=trodAll_cons hA
 obtain⟨v1,vs1,d1,ds1,p1,q1,rfl,rfl,rfl,h1,r1⟩:=trodAll_cons r0
 obtain⟨v2,vs2,d2,ds2,p2,q2,rfl,rfl,rfl,h2,r2⟩:=trodAll_cons r1
 obtain⟨v3,vs3,d3,ds3,p3,q3,rfl,rfl,rfl,h3,r3⟩:=trodAll_cons r2
 obtain⟨rfl,rfl,rfl⟩:=trodAll_nil r3
 obtain rfl:args=#[v0,v1,v2,v3]:=by cases args;simp_all
 obtain⟨rfl,rfl⟩:=trodVars_none hV
 have Uy:=of_decide_eq_true hk
 simp only[List.cons_append,List.nil_append,Rows.uptoBulkAll]at Uy
 obtain⟨a2,len2,cap2,rfl⟩:=okWide_slice Tryz.underlying46 (hval 2 46 v2 rfl rfl)
 have k2:=h2
 have lt2:∀x∈p2,x.block<W.heap.size:=by obtain⟨m,hm⟩:=k2;exact DataW.trod_lt m _ _ _ hm
 obtain⟨n2,h2⟩:=h2
 obtain⟨acts,hAc,hal,has,haN⟩:=ak0 h2
 simp only[]at hal has
 obtain⟨a3,alO,cap3,rfl⟩:=okWide_slice Tryz.underlying46 (hval 3 46 v3 rfl rfl)
 have k3:=h3
 have lt3:∀x∈p3,x.block<W.heap.size:=by obtain⟨m,hm⟩:=k3;exact DataW.trod_lt m _ _ _ hm
 obtain⟨n3,h3⟩:=h3
 obtain⟨aah,alG,hal2,alr,alH⟩:=ak0 h3
 simp only[]at hal2 alr
 have k0:=h0
 have k1:=h1
 have lt0:∀x∈p0,x.block<W.heap.size:=by obtain⟨m,hm⟩:=k0;exact DataW.trod_lt m _ _ _ hm
 have lt1:∀x∈p1,x.block<W.heap.size:=by obtain⟨m,hm⟩:=k1;exact DataW.trod_lt m _ _ _ hm
 obtain⟨n0,h0⟩:=h0
 obtain⟨n1,h1⟩:=h1
 obtain⟨lim,u0,dd,rfl,wl,hD,hdl,hdt⟩:=alq (hval 0 24 v0 rfl rfl) h0
 obtain⟨aaB,u1,dd2,rfl,wl2,hD2,ai5,als⟩:=alq (hval 1 24 v1 rfl rfl) h1
 simp only[]at hdl hdt ai5 als
 obtain⟨x,hVa,hEr⟩:=adV (adW hS) hL
 have hka:=alK x lim aaB dd dd2 _ _ _ _ acts aah W wl wl2 hD hD2 (by omega) (by omega) (fun d hd=>by have:=hdt d hd;omega) (fun d hd=>by have:=als d hd;omega) hAc alG (by omega) (by omega) haN alH (by omega) (by omega) hVa hEr
 refine hka.mono fun e W'⟨he,bel⟩=>?_
 subst he
 exact⟨_,rfl,_,_,_,[],_,[],hW',trodAll_mk1 (shut_bool Tryz.underlying4 _),(trodAll_cons_mk (Below.trod laidOut (by kernel_rfl) (of_decide_eq_true (by kernel_rfl)) k0 bel lt0) (trodAll_cons_mk (Below.trod laidOut (by kernel_rfl) (of_decide_eq_true (by kernel_rfl)) k1 bel lt1) (trodAll_cons_mk (Below.trod laidOut (by kernel_rfl) (of_decide_eq_true (by kernel_rfl)) k2 bel lt2) (trodAll_cons_mk (Below.trod laidOut (by kernel_rfl) (of_decide_eq_true (by kernel_rfl)) k3 bel lt3) trodAll_mk0)))),rfl,bel.frame _,fun h=>by cases h⟩
set_option maxRecDepth 100000 in
theorem lifted(os:Os)(started:os.Started)(H:Type)(enc:TypeId×Value->H)(F:Stop.Interp) :
  ReturnsInHanded {} Tryz.checked os 8 .any ((Rows.OpenSpec.upto Rows.apartSpec).preRow enc Tryz.prog Tryz.f8 Rows.apartUptoRow.domain false Rows.apartUptoRow.laid) (((Rows.OpenSpec.upto Rows.apartSpec).at F).post enc Tryz.prog Tryz.f8 false true false false):=by
 obtain⟨places,hx⟩:=reads os enc
 refine returnsInHanded_of_row (C:=Tryz.checked) (s:=Rows.OpenSpec.upto Rows.apartSpec) own started (by kernel_rfl) Tryz.func8
  (witness_row_atRef (enc:=enc) (C:=Tryz.checked) false (laidWorld os) FN rfl (by kernel_rfl) (by kernel_rfl) (by kernel_rfl)
   (OpenSpec.preRow_of_cond 8 hx (by kernel_rfl) (fun k hk=>by cases hk;kernel_rfl) (by kernel_rfl) (laid_met os))) ?_
 intro W base args ds gs before hval hW _ hcond _ hL hS _
 exact contract H enc W base args ds gs before hval hW (hcond _ rfl) hL hS
theorem ahc:Rows.ApartUptoSaid :=
 OpenClaim.holds_of_cond 8 Tryz.f8 rfl rfl rfl rfl rfl rfl rfl ⟨rfl,rfl,rfl,rfl,rfl⟩ rfl rfl rfl rfl rfl (by kernel_rfl) Tryz.func8 (by kernel_rfl)
  (of_decide_eq_true (by kernel_rfl)) (by unfold Func.isWrapper;first|(rw[if_pos (by decide +kernel)];kernel_rfl)|(rw[if_neg (by decide +kernel)];exact⟨rfl,rfl⟩))
  (fun os started H enc _ F=>by rw[OpenClaim.pre_eq_preRow];exact lifted os started H enc F)
theorem wants(t:TypeId)(h:t∈#[24,24,46,46]):Tryz.prog.wantsStandIn t=false:=by
 simp only[List.mem_toArray,List.mem_cons,List.not_mem_nil,or_false]at h
 rcases h with rfl|rfl|rfl|rfl<;>kernel_rfl
theorem plain (f : FuncId) (fn : Func) (hf : Tryz.pinned.checked.prog.funcNamed "skein/skeinlaw.Apart" = some f) (hfn : Tryz.pinned.checked.prog.funcs[f]? = some fn) :
  true=Tryz.pinned.checked.prog.looks []/\∀(j:Nat) t,fn.params[j]?=some t->Tryz.pinned.checked.prog.wantsStandIn t=false:=by
 obtain rfl : f = 8 := Option.some.inj ((show Tryz.prog.funcNamed "skein/skeinlaw.Apart" = some 8 by kernel_rfl).symm.trans hf) |>.symm
 obtain rfl:fn=Tryz.f8:=(Option.some.inj (Tryz.func8.symm.trans hfn)).symm
 refine⟨by kernel_rfl,fun j t ht=>?_⟩
 rw[Tryz.params8]at ht
 exact wants t (Array.mem_of_getElem? ht)
theorem ahd:Rows.ApartUptoCardSaid :=
 Claim7.holds_tied_plain_at .later [] _ _ _ _ ahc (fun _ h=>by cases h) (by kernel_rfl) (fun _ h=>by cases h) apartUpto_row_tie rfl ⟨rfl,rfl⟩ (by kernel_rfl) rfl plain (by kernel_rfl)
end Go.Proofs.YtbhemchnjpajiaaGreatDoor.apartLaw
namespace Go.Proofs.YtbhemchnjpajiaaGreatDoor
theorem apartUpto_proved:Rows.ApartUptoCardSaid:=apartLaw.ahd
#print axioms apartUpto_proved
end Go.Proofs.YtbhemchnjpajiaaGreatDoor
