/- Several texts in one: QNew, QErr, QSk1, QCfg, QCfg2, QCfg3. -/
import Derived.Test.YtbhemchnjpajiaaGreatDoorLE
import Derived.Carry
import Derived.WalkKit
import Derived.LaidEql
import Derived.Stop.Asserts
import Derived.RowKitTokens
import Derived.Test.YtbhemchnjpajiaaGreatDoorJG
import Derived.Test.YtbhemchnjpajiaaGreatDoorJI
set_option linter.unusedVariables false
set_option linter.unusedSimpArgs false
set_option maxRecDepth 100000
set_option maxHeartbeats 4000000
namespace Go.Proofs.YtbhemchnjpajiaaGreatDoor
open Go.RowKit Go.Proofs.Tryz RD
def Bj(lim:Int)(dv:Value)(M:Nat):List Value:=[.int .i64 lim,dv,.map (some M),.int .i64 0,.int .i64 0,.int .i64 0,.slice none 0 0,.int .i64 0]++(bY++[.bool false,.int .i64 0,.int .i64 0])
theorem acS(lim:Int)(da:Option Addr)(dn dc:Nat)(w:World) :
  Calls prog 39 #[.int .i64 lim,.slice da dn dc] w fun e w'=>∃S M,e=.returned (.pointer (some ⟨S,0,none⟩))/\w.heap.size<=M/\M<S/\w'.heap[M]?=some (.map #[] 0)/\aB w' S 146 (Bj lim (.slice da dn dc) M)/\Below w.heap.size w w':=by
 have hmm:=@run_makeMap prog
 go_enter func39,ntmps39
 go_wp2_with fail
 go_ret
 have h0:(w.alloc (.map #[] 0)).heap[w.heap.size]?=some (.map #[] 0):=heap_alloc_new w _
 have hh:((w.alloc (.map #[] 0)).alloc (.cells (Bj lim (.slice da dn dc) w.heap.size).toArray 146)).heap[w.heap.size]?=some (.map #[] 0):=by
  rw[(((Below.refl (w.heap.size+1) (w.alloc (.map #[] 0))).alloc (by simp) _).block w.heap.size (by omega))]
  exact h0
 exact⟨w.heap.size+1,w.heap.size,rfl,Nat.le_refl _,by omega,hh,by have:=aB.new (w.alloc (.map #[] 0)) 146 (Bj lim (.slice da dn dc) w.heap.size);rw[show(w.alloc (.map #[] 0)).heap.size=w.heap.size+1 by simp]at this;exact this,((Below.refl _ w).alloc (Nat.le_refl _) _).alloc (by simp) _⟩
theorem bF.start{x:Fx}{c:aC}{S M:Nat}{dv:Value}{w:World}(hb:aB w S 146 (Bj c.limit dv M))(hM:w.heap[M]?=some (.map #[] 0))(uz:M<S)(hd:lJ w dv c.aP)(hk:∀k,dv.ownBlock=some k->k<M/\DB w k)(hV:bI x w)(hS:x.base<=M) :
  bF x (fun k=>k=S\/k=M) c MS.start S (Bj c.limit dv M) (.slice none 0 0) w/\gX w S=0:=by
 have hN:bK w M=0:=by unfold bK;rw[hM];rfl
 have hT:bP w M (bK w M):=⟨#[],0,hM,⟨Nat.zero_le _,⟨fun e he=>(by cases he),by simp,by simp⟩,fun e he=>(by cases he)⟩,Nat.zero_le _,fun e he=>by cases he⟩
 refine⟨⟨hb,rfl,rfl,⟨dv,rfl,hd,fun k hk'=>⟨fun e=>by have:=(hk k hk').1;omega,by have:=(hk k hk').1;omega,(hk k hk').2⟩⟩,⟨M,rfl,.inr rfl,hT,fun e=>by have:4<=0:=e;omega⟩,fun k hk'=>?_,rfl,rfl,rfl,rfl,aT.nil 0 w,rfl,rfl,rfl,rfl,by show 0<7;omega,⟨by show 0<=1024;omega,by show 0<=1099511627776;omega,by show([]:aj).length<=_;simp⟩,⟨.inl rfl,fun k e=>by cases e⟩,hV,fun k e=>by omega,fun _=>rfl,fun e=>by have:4<=0:=e;omega⟩,by rw[wC hb rfl,hN]⟩
 rcases hk' with e|e
 ·rw[e];exact⟨hb.lt,b_.jg hb (by decide) (by decide)⟩
 ·rw[e];exact⟨hT.lt,b_.of_map hT⟩
def QH(x:Fx)(m:MS)(w:World)(e:Ending)(w':World):Prop :=
 e=.returned (.iface 106 (.pointer (some ⟨w.heap.size,0,none⟩)))/\aB w' w.heap.size 111 [.int .i64 (m.fr:Nat),.int .i64 (m.f.blocks:Nat),aW (eF x (if m.nx=0/\m.bg=[]then 2 else 7))]/\Below w.heap.size w w'
theorem acT(x:Fx)(G:Nat->Prop)(c:aC)(m:MS)(S:Nat)(ss:List Value)(v6:Value)(w:World)(h:bF x G c m S ss v6 w) :
  Calls prog 44 #[.pointer (some ⟨S,0,none⟩)] w (QH x m w):=by
 have c5:=h.blk.cell h.nx
 have c6:=h.blk.cell h.bg
 obtain⟨ad,cc,rfl,q1,q2,q3⟩:=h.row.form
 have cE:=h.vars.cE
 have cS:=h.vars.cS
 have hft:=fun z=>N9 S 146 ss m.fr m.f.blocks w h.blk h.fr h.bl z
 have Hg:=h.lV
 obtain⟨nx,hnx⟩:∃n,n=m.nx:=⟨_,rfl⟩
 rw[<- hnx]at c5 Hg
 obtain⟨L,hL⟩:∃L,L=m.bg.length:=⟨_,rfl⟩
 rw[<- hL]at c6
 have hq:L<=1048576:=by rw[hL];exact h.gZ.2.2
 by_cases h0:nx=0
 ·by_cases h1:L=0
  ·have he:eF x (if m.nx=0/\m.bg=[]then 2 else 7)=x.e:=by
    rw[if_pos ⟨by rw[<- hnx];exact h0,List.length_eq_zero_iff.1 (by rw[<- hL];exact h1)⟩];rfl
   replace he:=aA he
   replace hnx:=aA hnx
   replace hL:=aA hL
   subst h0 h1
   go_enter func44,ntmps44
   go_wp2_with fail
   refine(hft _).mono ?_
   rintro e w1 ⟨rfl,hB,hb⟩
   go_wp2_with fail
   go_ret
   exact⟨rfl,by rw[he.out];exact hB,hb⟩
  ·have he:eF x (if m.nx=0/\m.bg=[]then 2 else 7)=x.s:=by
    rw[if_neg (fun e=>h1 (by rw[hL,e.2];rfl))];rfl
   replace he:=aA he
   replace hnx:=aA hnx
   replace hL:=aA hL
   subst h0
   have h1':((L:Int)==0)=false:=by simpa using h1
   go_enter func44,ntmps44
   go_wp2_with fail
   refine(hft _).mono ?_
   rintro e w1 ⟨rfl,hB,hb⟩
   go_wp2_with fail
   go_ret
   exact⟨rfl,by rw[he.out];exact hB,hb⟩
 ·have he:eF x (if m.nx=0/\m.bg=[]then 2 else 7)=x.s:=by
   rw[if_neg (fun e=>h0 (by rw[hnx];exact e.1))];rfl
  replace he:=aA he
  replace hnx:=aA hnx
  replace hL:=aA hL
  have h0':((nx:Int)==0)=false:=by simpa using h0
  go_enter func44,ntmps44
  go_wp2_with fail
  refine(hft _).mono ?_
  rintro e w1 ⟨rfl,hB,hb⟩
  go_wp2_with fail
  go_ret
  exact⟨rfl,by rw[he.out];exact hB,hb⟩
end Go.Proofs.YtbhemchnjpajiaaGreatDoor
namespace Go.Proofs.YtbhemchnjpajiaaGreatDoor
open Go.RowKit Go.Extern.Stop Go.Stop Go.Extern Go.Proofs.Tryz
def cmpEntry : Array Value → Sem Value := Extern.ReflectliteType.method fun t => do Extern.Rtype.noPackHeld "Comparable" t; pure (.bool (← typeInfo t).comparable)
theorem QI(v:Value)(w:World):(Extern.ReflectliteType.typeOf #[.iface 308 v]).run prog w=.ok (.iface 181 (.agg #[.pointer (some ⟨8,308,none⟩)])) w:=by kernel_rfl
theorem QJ(w:World):(cmpEntry #[.agg #[.pointer (some ⟨8,308,none⟩)]]).run prog w=.ok (.bool true) w:=by kernel_rfl
theorem eMethodComparable (v : Value) (w : World) : (Go.method 437 181 v "Comparable").run Tryz.prog w = .ok (207, v) w := by kernel_rfl
theorem QK:(prog.info? 308).map (·.comparable)=some true:=by kernel_rfl
theorem QL:(prog.info? 326).map (·.size)=some 1:=by kernel_rfl
theorem QM(v:Value)(xT:TypeId)(w:World):(Instr.typeAssert (.iface 308 v) xT 192 true).run prog w=.ok (.tuple #[.nilIface,.bool false]) w:=run_typeAssert_lacksB underlying192 (by kernel_rfl) (by kernel_rfl) v xT w
theorem QN(v:Value)(xT:TypeId)(w:World):(Instr.typeAssert (.iface 308 v) xT 188 true).run prog w=.ok (.tuple #[.nilIface,.bool false]) w:=run_typeAssert_lacksB underlying188 (by kernel_rfl) (by kernel_rfl) v xT w
theorem QO(v:Value)(xT:TypeId)(w:World):(Instr.typeAssert (.iface 308 v) xT 189 true).run prog w=.ok (.tuple #[.nilIface,.bool false]) w:=run_typeAssert_lacksB underlying189 (by kernel_rfl) (by kernel_rfl) v xT w
theorem QS(v:Value)(xT:TypeId)(w:World):(Instr.typeAssert (.iface 106 v) xT 192 true).run prog w=.ok (.tuple #[.nilIface,.bool false]) w:=run_typeAssert_lacksB underlying192 (by kernel_rfl) (by kernel_rfl) v xT w
theorem QT(v:Value)(xT:TypeId)(w:World):(Instr.typeAssert (.iface 106 v) xT 188 true).run prog w=.ok (.tuple #[.iface 106 v,.bool true]) w:=run_typeAssert_hasB underlying188 (by kernel_rfl) v xT w
theorem eMethodUnwrap (v : Value) (w : World) : (Go.method 437 106 v "Unwrap").run Tryz.prog w = .ok (200, v) w := by kernel_rfl
theorem acU(F:Nat)(b:Addr)(w:World)(h1:w.cell? ⟨F,2,none⟩=some (aW b)) :
  Calls prog 52 #[.iface 106 (.pointer (some ⟨F,0,none⟩)),aW b] w fun e w'=>e=.returned (.bool true)/\w'=w:=by
 obtain⟨i,hi,hcmp⟩:=Option.map_eq_some_iff.1 QK
 obtain⟨j,hj,hjs⟩:=Option.map_eq_some_iff.1 QL
 have h8:=@run_callFunc_extern prog 67 _ Extern.ReflectliteType.typeOf func67 (by kernel_rfl) (by kernel_rfl) (by kernel_rfl) (by kernel_rfl)
 have h32:=@run_callFunc_extern prog 207 _ cmpEntry func207 (by kernel_rfl) (by kernel_rfl) (by kernel_rfl) (by kernel_rfl)
 have tT:=QI
 have cT:=QJ
 have mR:=eMethodComparable
 have nE:=QM
 have uE:=QN
 have vE:=QO
 have nW:=QS
 have uW:=QT
 have mU:=eMethodUnwrap
 have heq:=run_eql_iface_ptr_same (P:=prog) w b underlying92 underlying308 hi hcmp hj
 have hty:=run_eql_iface_types (P:=prog) 106 308 (.pointer (some ⟨F,0,none⟩)) (.pointer (some b)) underlying92 (by decide) w
 go_enter func52,ntmps52
 go_wp2
 refine wp_loop_rounds 2 ?_
 rw[rounds_succ]
 go_wp2
 rw[rounds_succ]
 go_wp2
 go_ret
 exact⟨rfl,rfl⟩
theorem acV(F:Nat)(b a:Addr)(ca cb:Array Value)(ta tb:TypeId)(w:World)(h1:w.cell? ⟨F,2,none⟩=some (aW a))(hne:a≠b)(ha:w.heap[a.block]?=some (.cells ca ta (0,0)))(hb:w.heap[b.block]?=some (.cells cb tb (0,0))) :
  Calls prog 52 #[.iface 106 (.pointer (some ⟨F,0,none⟩)),aW b] w fun e w'=>e=.returned (.bool false)/\w'=w:=by
 obtain⟨i,hi,hcmp⟩:=Option.map_eq_some_iff.1 QK
 obtain⟨j,hj,hjs⟩:=Option.map_eq_some_iff.1 QL
 have h8:=@run_callFunc_extern prog 67 _ Extern.ReflectliteType.typeOf func67 (by kernel_rfl) (by kernel_rfl) (by kernel_rfl) (by kernel_rfl)
 have h32:=@run_callFunc_extern prog 207 _ cmpEntry func207 (by kernel_rfl) (by kernel_rfl) (by kernel_rfl) (by kernel_rfl)
 have tT:=QI
 have cT:=QJ
 have mR:=eMethodComparable
 have nE:=QM
 have uE:=QN
 have vE:=QO
 have nW:=QS
 have uW:=QT
 have mU:=eMethodUnwrap
 have heq:=run_eql_iface_ptr_other (P:=prog) w underlying92 underlying308 hi hcmp hj (by rw[hjs];decide) hne ha hb
 have hty:=run_eql_iface_types (P:=prog) 106 308 (.pointer (some ⟨F,0,none⟩)) (.pointer (some b)) underlying92 (by decide) w
 go_enter func52,ntmps52
 go_wp2
 refine wp_loop_rounds 2 ?_
 rw[rounds_succ]
 go_wp2
 rw[rounds_succ]
 go_wp2
 go_ret
 exact⟨rfl,rfl⟩
end Go.Proofs.YtbhemchnjpajiaaGreatDoor
namespace Go.Proofs.YtbhemchnjpajiaaGreatDoor
open Go.RowKit Go.Proofs.Tryz RD
def jE(x:Fx)(w:World):Prop:=∀a∈[x.e,x.f,x.l,x.d,x.s,x.u],∃ca ta,w.heap[a.block]?=some (.cells ca ta (0,0))
theorem jE.only{x:Fx}{w w':World}{G:Nat->Prop}(h:jE x w)(hV:bI x w)(ho:Only G w w')(hG:∀k,G k->x.base<=k):jE x w':=fun a ha=>by
 obtain⟨ca,ta,hc⟩:=h a ha
 have hb:a.block<x.base:=by
  obtain⟨b1,b2,b3,b4,b5,b6⟩:=hV.blocks
  simp only[List.mem_cons,List.not_mem_nil,or_false]at ha
  rcases ha with rfl|rfl|rfl|rfl|rfl|rfl<;>assumption
 refine⟨ca,ta,?_⟩
 rw[ho.block a.block (Nat.lt_of_lt_of_le hb hV.size) (fun e=>by have:=hG _ e;omega)]
 exact hc
theorem jE.below{x:Fx}{w w':World}(h:jE x w)(hV:bI x w)(hb:Below w.heap.size w w'):jE x w':=h.only (G:=fun _=>False) hV (aH hb) (fun _ e=>e.elim)
theorem jE.same{x:Fx}{w w':World}(h:jE x w)(hh:w'.heap=w.heap):jE x w':=fun a ha=>by rw[hh];exact h a ha
theorem acW(x:Fx)(n:Nat):eF x n∈[x.e,x.f,x.l,x.d,x.s,x.u]:=by
 unfold eF
 repeat' split
 all_goals simp
theorem yw(x:Fx)(F n:Nat)(b:Addr)(w:World)(hb:b∈[x.e,x.f,x.l,x.d,x.s,x.u])(h1:w.cell? ⟨F,2,none⟩=some (aW (eF x n)))(hE:jE x w) :
  Calls prog 52 #[.iface 106 (.pointer (some ⟨F,0,none⟩)),aW b] w fun e w'=>e=.returned (.bool (decide (eF x n=b)))/\w'=w:=by
 by_cases e:eF x n=b
 ·rw[show decide (eF x n=b)=true by simpa using e]
  rw[e]at h1
  exact acU F b w h1
 ·rw[show decide (eF x n=b)=false by simpa using e]
  obtain⟨ca,ta,ha⟩:=hE _ (acW x n)
  obtain⟨cb,tb,hb'⟩:=hE _ hb
  exact acV F b (eF x n) ca cb ta tb w h1 e ha hb'
theorem QU{x:Fx}{w:World}(hV:bI x w){n:Nat}(hn:n=2\/n=4\/n=5\/n=6\/n=7\/n=8) :
  decide (eF x n=x.e)=decide (n=2)/\decide (eF x n=x.l)=decide (n=5)/\decide (eF x n=x.d)=decide (n=6)/\decide (eF x n=x.s)=decide (n=7)/\decide (eF x n=x.u)=decide (n=8):=by
 have h:=hV.apart
 simp only[List.nodup_cons,List.mem_cons,List.not_mem_nil,or_false,not_or]at h
 obtain⟨⟨a1,a2,a3,a4,a5⟩,⟨b1,b2,b3,b4⟩,⟨c1,c2,c3⟩,⟨d1,d2⟩,e1,-⟩:=h
 rcases hn with rfl|rfl|rfl|rfl|rfl|rfl
 ·have e:eF x 2=x.e:=rfl
  rw[e]
  simp[a1,a2,a3,a4,a5]
 ·have e:eF x 4=x.f:=rfl
  rw[e]
  simp[Ne.symm a1,b1,b2,b3,b4]
 ·have e:eF x 5=x.l:=rfl
  rw[e]
  simp[Ne.symm a2,c1,c2,c3]
 ·have e:eF x 6=x.d:=rfl
  rw[e]
  simp[Ne.symm a3,Ne.symm c1,d1,d2]
 ·have e:eF x 7=x.s:=rfl
  rw[e]
  simp[Ne.symm a4,Ne.symm c2,Ne.symm d1,e1]
 ·have e:eF x 8=x.u:=rfl
  rw[e]
  simp[Ne.symm a5,Ne.symm c3,Ne.symm d2,Ne.symm e1]
theorem FU(x:Fx)(F n:Nat)(w:World)(hn:n=2\/n=4\/n=5\/n=6\/n=7\/n=8)(h1:w.cell? ⟨F,2,none⟩=some (aW (eF x n)))(hV:bI x w)(hE:jE x w) :
  Calls prog 43 #[.iface 106 (.pointer (some ⟨F,0,none⟩))] w fun e w'=>e=.returned (.int .i64 n)/\w'=w:=by
 obtain⟨q1,q2,q3,q4,q5⟩:=QU hV hn
 have cE:=hV.cE
 have cL:=hV.cL
 have cD:=hV.cD
 have cS:=hV.cS
 have cU:=hV.cU
 have i1:=yw x F n x.e w (by simp) h1 hE
 have i2:=yw x F n x.l w (by simp) h1 hE
 have i3:=yw x F n x.d w (by simp) h1 hE
 have i4:=yw x F n x.s w (by simp) h1 hE
 have i5:=yw x F n x.u w (by simp) h1 hE
 rw[q1]at i1
 rw[q2]at i2
 rw[q3]at i3
 rw[q4]at i4
 rw[q5]at i5
 clear q1 q2 q3 q4 q5 hV hE
 rcases hn with rfl|rfl|rfl|rfl|rfl|rfl
 ·go_enter func43,ntmps43
  go_wp2_with fail
  refine i1.mono ?_
  rintro e w1 ⟨rfl,hw⟩
  subst hw
  go_wp2_with fail
  go_ret
  exact⟨rfl,rfl⟩
 ·go_enter func43,ntmps43
  go_wp2_with fail
  refine i1.mono ?_
  rintro e w1 ⟨rfl,hw⟩
  subst hw
  go_wp2_with fail
  refine i2.mono ?_
  rintro e w1 ⟨rfl,hw⟩
  subst hw
  go_wp2_with fail
  refine i3.mono ?_
  rintro e w1 ⟨rfl,hw⟩
  subst hw
  go_wp2_with fail
  refine i4.mono ?_
  rintro e w1 ⟨rfl,hw⟩
  subst hw
  go_wp2_with fail
  refine i5.mono ?_
  rintro e w1 ⟨rfl,hw⟩
  subst hw
  go_wp2_with fail
  go_ret
  exact⟨rfl,rfl⟩
 ·go_enter func43,ntmps43
  go_wp2_with fail
  refine i1.mono ?_
  rintro e w1 ⟨rfl,hw⟩
  subst hw
  go_wp2_with fail
  refine i2.mono ?_
  rintro e w1 ⟨rfl,hw⟩
  subst hw
  go_wp2_with fail
  go_ret
  exact⟨rfl,rfl⟩
 ·go_enter func43,ntmps43
  go_wp2_with fail
  refine i1.mono ?_
  rintro e w1 ⟨rfl,hw⟩
  subst hw
  go_wp2_with fail
  refine i2.mono ?_
  rintro e w1 ⟨rfl,hw⟩
  subst hw
  go_wp2_with fail
  refine i3.mono ?_
  rintro e w1 ⟨rfl,hw⟩
  subst hw
  go_wp2_with fail
  go_ret
  exact⟨rfl,rfl⟩
 ·go_enter func43,ntmps43
  go_wp2_with fail
  refine i1.mono ?_
  rintro e w1 ⟨rfl,hw⟩
  subst hw
  go_wp2_with fail
  refine i2.mono ?_
  rintro e w1 ⟨rfl,hw⟩
  subst hw
  go_wp2_with fail
  refine i3.mono ?_
  rintro e w1 ⟨rfl,hw⟩
  subst hw
  go_wp2_with fail
  refine i4.mono ?_
  rintro e w1 ⟨rfl,hw⟩
  subst hw
  go_wp2_with fail
  go_ret
  exact⟨rfl,rfl⟩
 ·go_enter func43,ntmps43
  go_wp2_with fail
  refine i1.mono ?_
  rintro e w1 ⟨rfl,hw⟩
  subst hw
  go_wp2_with fail
  refine i2.mono ?_
  rintro e w1 ⟨rfl,hw⟩
  subst hw
  go_wp2_with fail
  refine i3.mono ?_
  rintro e w1 ⟨rfl,hw⟩
  subst hw
  go_wp2_with fail
  refine i4.mono ?_
  rintro e w1 ⟨rfl,hw⟩
  subst hw
  go_wp2_with fail
  refine i5.mono ?_
  rintro e w1 ⟨rfl,hw⟩
  subst hw
  go_wp2_with fail
  go_ret
  exact⟨rfl,rfl⟩
theorem acX(id:Int)(t:aj)(w:World)(hi:0<=id/\id<=255)(ht:1<=t.length/\t.length<=256) :
  Calls prog 54 #[.agg #[.int .i64 id,.string (ah t)]] w fun e w'=>e=.returned (.bool true)/\Below w.heap.size w w':=by
 have hz:=aQ t
 have h1:((t.length:Int)<=256):=by omega
 have h2:decide ((t.length:Int)<=256)=true:=by simpa using h1
 go_enter func54,ntmps54
 go_wp2_with fail
 go_ret
 exact⟨rfl,(Below.refl _ w).alloc (Nat.le_refl _) _⟩
theorem QV(id:Int)(C:Nat)(d:Int)(t:aj)(w:World)(hC:w.cell? ⟨C,0,none⟩=some (.int .i64 id)) :
  Calls prog 75 #[.agg #[.int .i64 d,.string (ah t)],.pointer (some ⟨C,0,none⟩)] w fun e w'=>e=.returned (.bool (d==id))/\Below w.heap.size w w':=by
 have hC':(w.alloc (.cells #[.int .i64 d,.string (ah t)] 65)).cell? ⟨C,0,none⟩=some (.int .i64 id):=by
  rw[World.cell?_alloc_lt _ _ _ (World.block_lt_of_cell? w _ hC)];exact hC
 go_enter func75,ntmps75
 go_wp2_with fail
 go_ret
 exact⟨rfl,(Below.refl _ w).alloc (Nat.le_refl _) _⟩
theorem lJ.take{w:World}{a:Option Addr}{c:Nat}{ds:List (Int×aj)}(h:lJ w (.slice a ds.length c) ds)(k:Nat)(hk:k<=ds.length):lJ w (.slice a k c) (ds.take k):=by
 obtain⟨a',c',e,h1,h2⟩:=h
 injection e with e1 e2 e3
 subst e1 e3
 have hl:(ds.take k).length=k:=by rw[List.length_take];omega
 refine⟨a,c,by rw[hl],by omega,?_⟩
 rcases h2 with h2|⟨b,rfl,hb,hd⟩
 ·left;rw[h2];simp
 ·refine .inr ⟨b,rfl,hb,fun i hi=>?_⟩
  rw[hl]at hi
  have:=hd i (by omega)
  have e:(ds.take k).getD i (0,[])=ds.getD i (0,[]):=by
   rw[List.getD_eq_getElem?_getD,List.getD_eq_getElem?_getD,List.getElem?_take,if_pos hi]
  rw[e]
  exact this
def acY(c:aC):Prop:=∀d∈c.aP,0<=d.1/\d.1<=255
theorem getD_mem{ds:List (Int×aj)}{i:Nat}(h:i<ds.length):ds.getD i (0,[])∈ds:=by
 rw[List.getD_eq_getElem?_getD,List.getElem?_eq_getElem h]
 exact List.getElem_mem h
theorem own_below{w w':World}{base:Nat}{e:TypeId}{size:Nat}{v:Value}{n:Nat}{xs:List Value}(h:w.ownsRow base e size v n xs)(hb:Below w.heap.size w w'):w'.ownsRow base e size v n xs:=by
 obtain⟨h1,h2⟩:=h
 refine⟨h1,?_⟩
 rcases h2 with h2|⟨g,cap,cur,hv,hbg,hg,r⟩
 ·exact .inl h2
 ·exact .inr ⟨g,cap,cur,hv,hbg,by rw[hb.block g (Array.getElem?_eq_some_iff.1 hg).1];exact hg,r⟩
theorem KP:(prog.info? 65).map (fun i=>(i.zero,i.size,i.bytes))=some (some (.agg #[.int .i64 0,.string ⟨#[]⟩]),2,24):=by kernel_rfl
theorem QW(w:World)(I:Int)(T:ByteArray):∀j u,([.int .i64 I,.string T]:List Value)[j]?=some u->(w.alloc (.cells #[.int .i64 I,.string T] 65)).cell? ((⟨w.heap.size,0,none⟩:Addr).add j)=some u:=fun j u hu=>by
 rw[Addr.add_mid,Nat.zero_add]
 exact(aB.new w 65 [.int .i64 I,.string T]).cell hu
theorem QX(I:Int)(T:ByteArray):∀u∈([.int .i64 I,.string T]:List Value),u.oneCell'=true:=by
 intro u hu
 simp only[List.mem_cons,List.not_mem_nil,or_false]at hu
 rcases hu with rfl|rfl<;>rfl
theorem QY(ds:List (Int×aj))(k:Nat)(h:k<ds.length):iJ (ds.take (k+1))=iJ (ds.take k)++[.int .i64 (ds.getD k (0,[])).1,.string (ah (ds.getD k (0,[])).2)]:=by
 rw[List.take_succ_eq_append_getElem h,List.getD_eq_getElem?_getD,List.getElem?_eq_getElem h]
 unfold iJ
 rw[List.flatMap_append]
 rfl
theorem acZ{P:Program}{ops:Array Oper}{o:Oper}{a:Act}{w:World}{K:Act->World->Prop}{Q:Exit->Act->World->Prop}{E:Prop}(hgd:o.guard=none)(f:Nat)(vs:Array Value)(hrun:(execOp a.eval o).run P w=.ok (.enter f vs) w){Post:Ending->World->Prop}(hc:Calls P f vs w Post)(hk:∀e w',Post e w'->∃v,e=.returned v/\K (a.put o.dst v) w') :
  if Region.wanted o (yielded ops a.tmps)=true then Oper.wp P o a w K Q else E:=by
 have hw:Region.wanted o (yielded ops a.tmps)=true:=by simp[Region.wanted,hgd]
 rw[if_pos hw]
 exact zZ f vs hrun hc hk
def ac0(ds:List (Int×aj))(w:World)(e:Ending)(w':World):Prop:=Below w.heap.size w w'/\∃v,e=.returned v/\w'.ownsRow w.heap.size 65 2 v ds.length (iJ ds)/\∃a c,v=.slice a ds.length c
end Go.Proofs.YtbhemchnjpajiaaGreatDoor
