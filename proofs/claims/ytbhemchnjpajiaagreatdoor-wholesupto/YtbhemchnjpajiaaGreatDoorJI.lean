/- Several texts in one: SumLeaves, RollMath, RollWalks, SumWalks, RollSum. -/
import Derived.Test.YtbhemchnjpajiaaGreatDoorRows
import Derived.Test.YtbhemchnjpajiaaGreatDoorJA
import Derived.WalkKit
import Derived.WalkSpells
import Derived.WalkLawsBesides
import Derived.Deep.QuietTactic
import Derived.BigQuiet
import Derived.Test.YtbhemchnjpajiaaGreatDoorJB
import Derived.Deep.DeepMust
import Derived.Deep.LoopGhost
import Derived.Deep.RegionWith
import Derived.Lib.Strings
import Derived.Lib.Walk
import Derived.Lib.BufferWrite
import Derived.Lib.UnsafeStr
import Derived.Lib.Hide
import Derived.Laws.MakeOwn
set_option linter.unusedVariables false
set_option maxRecDepth 100000
set_option maxHeartbeats 1000000
namespace Go.Proofs.YtbhemchnjpajiaaGreatDoor
open Go.RowKit Go.Proofs.Tryz
theorem DR(x k:Int)(w:World)(hk:SM.Turns k)(h0:0<=x)(h1:x<=4294967295) :
  Calls prog 61 #[.int .u32 x,.int .i64 k] w fun e w'=>e=.returned (.int .u32 (SM.rl x k))/\w'=w:=by
 have H:=SM.UF x k hk h0 h1
 have hb:bits .and .u64 k 31=k:=by rcases hk with rfl|rfl|rfl|rfl|rfl|rfl|rfl<;>decide
 rcases hk with rfl|rfl|rfl|rfl|rfl|rfl|rfl
 all_goals
  simp at H
  have HH:Hid _:=H
  clear H
  go_enter func61,ntmps61
  go_wp2
  go_ret
  exact⟨by rw[HH.out];rfl,rfl⟩
theorem X7(wd x:Int)(w:World)(h0:0<=wd)(h1:wd<=4294967295)(h2:0<=x)(h3:x<=4294967295) :
  Calls prog 45 #[.int .u32 wd,.int .u32 x] w fun e w'=>e=.returned (.int .u32 (SM.mx wd x))/\w'=w:=by
 go_enter func45,ntmps45
 go_wp2_with(go_at_call 61;refine(DR _ _ _ (by unfold SM.Turns;decide) (by omega) (by omega)).mono ?_;rintro e w' ⟨rfl,rfl⟩)
 go_ret
 exact⟨by rw[<- SM.UQ];rfl,rfl⟩
theorem N_(h:Int)(w:World)(h0:0<=h)(h1:h<=4294967295) :
  Calls prog 49 #[.int .u32 h] w fun e w'=>e=.returned (.int .u32 (SM.fin h))/\w'=w:=by
 go_enter func49,ntmps49
 have H:Hid (SM.fin h=_):=(SM.UN h h0 h1).symm
 go_wp2
 go_ret
 exact⟨by rw[H.out];rfl,rfl⟩
theorem times_any(a b:Int)(w:World)(h0:0<=a)(h1:a<=4294967295)(h2:0<=b)(h3:b<=4294967295) :
  Calls prog 90 #[.int .i64 a,.int .i64 b] w fun e w'=>e=.returned (.int .i64 (SM.tm a b))/\w'=w:=by
 have m1:=SM.F6 a (b/65536) 4294967295 65535 h0 h1 (by omega) (by omega)
 have m2:=SM.F6 a (b%65536) 4294967295 65535 h0 h1 (by omega) (by omega)
 have H:Hid _:=SM.UG a b
 go_enter func90,ntmps90
 go_wp2
 go_ret
 exact⟨by rw[<- H.out];rfl,rfl⟩
theorem Oa(s:ByteArray)(w:World)(h:4<=s.size)(hs:s.size<=maxLen) :
  Calls prog 46 #[.string s] w fun e w'=>e=.returned (.int .u32 (SM.dV s.data.toList))/\∃n,w'=w.drewN n:=by
 unfold maxLen at hs
 have i0:(0:Int)<(s.size:Int):=by omega
 have i1:(1:Int)<(s.size:Int):=by omega
 have i2:(2:Int)<(s.size:Int):=by omega
 have i3:(3:Int)<(s.size:Int):=by omega
 have j0:0<s.size:=by omega
 have j1:1<s.size:=by omega
 have j2:2<s.size:=by omega
 have j3:3<s.size:=by omega
 go_enter func46,ntmps46
 go_wp2
 go_quiet(fail)
 go_wp2
 go_ret
 exact⟨by rw[<- SM.UM s h];rfl,nq,rfl⟩
theorem Hq(s:ByteArray)(i:Int)(w:World)(h0:0<=i)(h1:i+4<=s.size)(hs:s.size<=maxLen) :
  Calls prog 70 #[.string s,.int .i64 i,.int .i64 4] w fun e w'=>e=.returned (.int .i64 (SM.dV (s.data.toList.drop i.toNat)))/\w'=w:=by
 unfold maxLen at hs
 obtain⟨n,rfl⟩:=Int.eq_ofNat_of_zero_le h0
 go_enter func70,ntmps70
 go_wp2
 go_loop[7,8] (fun v k=>∃j:Nat,j<=4/\k=.int .i64 (3-(j:Int))/\v=.int .i64 (SM.lv s n j)) (fun _ k=>(intOf k+1).toNat)
 case atStart=>exact⟨0,by omega,by simp,by simp[SM.lv,SM.yU]⟩
 case round =>
  obtain⟨j,hj,rfl,rfl⟩:=hrel
  by_cases hlt:j<4
  ·have hv:=SM.UH s n j (by omega)
   have hg:Hid _:=SM.tC s (n+(3-j)) (by omega)
   have hbb:Hid _:=SM.mV s (n+(3-j))
   go_wp2
   go_round
   case rel =>
    refine⟨j+1,by omega,by go_num,?_⟩
    rw[hg.out]
    have hbb:=hbb.out
    rw[IntWalk.wrap64_in (SM.byteAt s (n+(3-j))) (by omega),IntWalk.wrap64_in _ (by omega)]
    rfl
   case measure=>simp[intOf];omega
  ·obtain rfl:j=4:=by omega
   have H:Hid _:=SM.UK s n (by omega)
   go_wp2
   go_ret
   exact⟨by rw[<- H.out];rfl,rfl⟩
theorem xH(a k:Int)(w:World)(hk:SM.Turns k)(h0:0<=a)(h1:a<=4294967295) :
  Calls prog 91 #[.int .i64 a,.int .i64 k] w fun e w'=>e=.returned (.int .i64 (SM.rl a k))/\w'=w:=by
 have hk':1<=k/\k<=18:=by unfold SM.Turns at hk;omega
 go_enter func91,ntmps91
 go_wp2
 go_loop[5,6] (fun p i=>∃j:Nat,(j:Int)<=k/\i=.int .i64 j/\p=.int .i64 (2^j)) (fun _ i=>(k-intOf i).toNat)
 case atStart=>exact⟨0,by omega,rfl,rfl⟩
 case round =>
  obtain⟨j,hj,rfl,rfl⟩:=hrel
  have hp:=SM.UO j (by omega)
  by_cases hlt:(j:Int)<k
  ·go_wp2
   go_round
   case rel=>exact⟨j+1,by omega,by go_num,by rw[Int.pow_succ];go_num⟩
   case measure=>simp[intOf];omega
  ·have hm:=SM.F6 a (2^j) 4294967295 262144 h0 h1 (by omega) (by omega)
   have e:k.toNat=j:=by omega
   have H:Hid (SM.rl a k=a*2^j%4294967296+a*2^j/4294967296):=by rw[Hid,SM.rl,e]
   clear e
   go_wp2
   go_ret
   exact⟨by rw[H.out];rfl,rfl⟩
end Go.Proofs.YtbhemchnjpajiaaGreatDoor
namespace Go.Proofs.YtbhemchnjpajiaaGreatDoor.SM
open Go
theorem DT(l t:List UInt8)(h:4<=l.length):dV (l++t)=dV l:=by
 match l,h with
 | a::b::c::d::r,_=>simp[dV]
theorem drop_append(l t:List UInt8)(k:Nat)(h:k<=l.length):(l++t).drop k=l.drop k++t:=by
 rw[List.drop_append,Nat.sub_eq_zero_of_le h,List.drop_zero]
theorem X8(l t:List UInt8)(i:Nat)(h:16*i<=l.length):stripe (l++t) i=stripe l i:=by
 induction i with
 | zero=>rfl
 | succ i ih =>
  simp only[stripe,ih (by omega),Four.step,List.drop_drop]
  rw[drop_append l t _ (by omega),drop_append l t _ (by omega),drop_append l t _ (by omega),drop_append l t _ (by omega)]
  rw[DT _ _ (by simp;omega),DT _ _ (by simp;omega),DT _ _ (by simp;omega),DT _ _ (by simp;omega)]
theorem data_append(a b:ByteArray):(a++b).data.toList=a.data.toList++b.data.toList:=by simp
theorem size_append(a b:ByteArray):(a++b).size=a.size+b.size:=by simp
theorem X9(a b:ByteArray)(k:Nat)(h:k<=a.size):cut a k++b=cut (a++b) k:=by
 apply F8
 rw[data_append,nZ,nZ,data_append,drop_append _ _ _ (by simpa using h)]
def words(s:ByteArray):Four:=stripe s.data.toList (s.size/16)
theorem X_(s:ByteArray):sum s.data.toList=fin (tl (((if 16<=s.size then(words s).join else 374761393)+s.size)%4294967296) (cut s (16*(s.size/16))).data.toList):=by
 have e:s.data.toList.length=s.size:=by simp
 unfold sum words
 rw[e,nZ]
end Go.Proofs.YtbhemchnjpajiaaGreatDoor.SM
namespace Go.Proofs.YtbhemchnjpajiaaGreatDoor
open Go.RowKit Go.Proofs.Tryz
theorem start_any(w:World) :
  Calls prog 27 #[] w fun e w'=>e=.returned (.agg #[.int .u32 606290984,.int .u32 2246822519,.int .u32 0,.int .u32 1640531535,.string ⟨#[]⟩,.int .u64 0])/\Below w.heap.size w w':=by
 go_enter func27,ntmps27
 go_wp2
 refine bodyPost_ret (v:=.agg #[.int .u32 606290984,.int .u32 2246822519,.int .u32 0,.int .u32 1640531535,.string ⟨#[]⟩,.int .u64 0]) (by simp[results,results27,go_sem]) rfl ⟨rfl,?_⟩
 exact(Below.refl _ w).alloc (Nat.le_refl _) _
theorem Ya(f:SM.Four)(w:World)(hf:f.ok) :
  Calls prog 48 #[.agg #[.int .u32 f.a,.int .u32 f.b,.int .u32 f.c,.int .u32 f.d]] w fun e w'=>e=.returned (.int .u32 f.join)/\Below w.heap.size w w':=by
 obtain⟨ha,hb,hc,hd⟩:=hf
 have H':=aA (SM.U1 f)
 go_enter func48,ntmps48
 go_wp2
 go_quiet((go_at_call 61;refine Calls.quiet_of_same (DR _ _ _ ?_ ?_ ?_);(unfold SM.Turns;decide);omega;omega))
 go_wp2
 go_ret
 exact⟨by rw[<- H'.out];rfl,(((Below.refl _ w).alloc (Nat.le_refl _) _).trans ⟨rfl,rfl,rfl,Nat.le_refl _,fun _ _=>rfl⟩)⟩
theorem Yb:(prog.info? 5).map (fun i=>(i.zero,i.size,i.bytes))=some (some (.int .u8 0),1,1):=by kernel_rfl
theorem clone_any(s:ByteArray)(w:World)(hs:s.size<=281474976710656) :
  Calls prog 62 #[.string s] w fun e w'=>e=.returned (.string s)/\Below w.heap.size w w':=by
 by_cases h0:s.size=0
 ·have hs:s=⟨#[]⟩:=by
   apply ByteArray.ext
   exact Array.eq_empty_of_size_eq_zero h0
  subst hs
  go_enter func62,ntmps62
  go_wp2
  go_ret
  exact⟨rfl,Below.refl _ _⟩
 ·obtain⟨i0,hi,hz0,hz1,hz2⟩:=info_parts Yb
  have hinfo:(prog.info? 5).map (·.size)=some 1:=by rw[hi];simp[hz1]
  have hco:prog.cellsOf 5=1:=by simp[Program.cellsOf,hi,hz1]
  obtain⟨M,hM⟩:∃M,M=madeCells (Value.int .u8 0).cells (((s.size:Nat):Int).toNat*i0.size):=⟨_,rfl⟩
  have hMs:M.size=s.size:=by rw[hM,size_madeCells,hz1];simp
  have hmk:∀W:World,(Instr.makeSlice 36 (.int .i64 (s.size:Int)) (.int .i64 (s.size:Int))).run prog W=.ok (.slice (some ⟨W.heap.size,0,none⟩) s.size s.size) (W.alloc (.cells M 5)):=fun W=>by
   have h:=run_make (P:=prog) W 36 5 i0 (.int .u8 0) underlying36 hi hz0 .i64 .i64 (s.size:Int) (s.size:Int) (by omega) (by omega) (by rw[hz2];omega) (by omega)
   rw[<- hM]at h
   simpa using h
  clear hM
  have hcp:=Lib.run_copy_row_string (P:=prog) (w.alloc (.cells M 5)) 36 9 3 5 w.heap.size 0 s.size s.size s M 5 underlying36 hinfo (heap_alloc_new w _) (Nat.le_refl _) (by omega)
  obtain⟨Y,hY⟩:∃Y,Y=(M.toList.take 0++Lib.byteCells s.data.toList++M.toList.drop (0+s.size)).toArray:=⟨_,rfl⟩
  rw[<- hY]at hcp
  have hYl:Y.toList=Lib.byteCells s.data.toList:=by
   rw[hY,List.toList_toArray,List.take_zero,List.nil_append,List.drop_of_length_le (by rw[Array.length_toList];omega),List.append_nil]
  have hYs:Y.size=s.size:=by rw[<- Array.length_toList,hYl,Lib.byteCells_length,<- Lib.size_eq]
  have hgY:((w.alloc (.cells M 5)).setRow w.heap.size Y).heap[w.heap.size]?=some (.cells Y 5 (0,0)):=setRow_heap _ _ M _ 5 (0,0) (heap_alloc_new w _)
  have hne:s.data.toList≠[]:=fun e=>h0 (by rw[Lib.size_eq,e];rfl)
  have hUS:=Lib.run_unsafeString_row (P:=prog) ((w.alloc (.cells M 5)).setRow w.heap.size Y) 177 3 9 5 underlying177 hco w.heap.size Y.size (by unfold World.shape?;rw[hgY]) s.data.toList hne (by rw[<- Lib.size_eq];omega) (by rw[<- Lib.size_eq];omega)
   (fun j x hx=>Lib.cells_of_row hgY Y.size j _ (by rw[List.take_of_length_le (by rw[Array.length_toList];exact Nat.le_refl _),hYl];simp[Lib.byteCells,hx]))
  rw[<- Lib.size_eq]at hUS
  clear hY
  go_enter func62,ntmps62
  go_wp2
  go_ret
  have hb1:Below w.heap.size w (w.alloc (.cells M 5)):=(Below.refl _ w).alloc (Nat.le_refl _) _
  have hb2:Below w.heap.size (w.alloc (.cells M 5)) ((w.alloc (.cells M 5)).setRow w.heap.size Y):=⟨rfl,rfl,rfl,by simp,fun k hk=>setRow_other _ _ _ _ (by omega)⟩
  exact⟨rfl,Lib.below_freeze (hb1.trans hb2) (p:=⟨w.heap.size,0,none⟩) (Nat.le_refl _) _⟩
theorem Ob(s:ByteArray)(w:World)(hs:s.size<=281474976710656) :
  Calls prog 47 #[.string s] w fun e w'=>e=.returned (.string s)/\Below w.heap.size w w':=by
 go_enter func47,ntmps47
 go_wp2_with(go_at_call 62;refine(clone_any _ _ hs).mono ?_;rintro e w1 ⟨rfl,hb⟩)
 go_ret
 exact⟨rfl,hb⟩
def kS(a b c d:Int)(r:ByteArray)(n:Nat):List Value:=[.int .u32 a,.int .u32 b,.int .u32 c,.int .u32 d,.string r,.int .u64 n]
def iZ(s:ByteArray):List Value:=kS (SM.words s).a (SM.words s).b (SM.words s).c (SM.words s).d (SM.cut s (16*(s.size/16))) s.size
theorem vO(pre post:List Value)(x:List Value)(j:Nat)(h:j<x.length):(pre++(x++post))[pre.length+j]?=x[j]?:=by
 rw[List.getElem?_append_right (by omega),Nat.add_sub_cancel_left,List.getElem?_append_left h]
theorem DU(pre post x:List Value)(j:Nat)(v:Value)(h:j<x.length):(pre++(x++post)).set (pre.length+j) v=pre++(x.set j v++post):=by
 rw[List.set_append_right _ _ (by omega),Nat.add_sub_cancel_left,List.set_append_left _ _ h]
theorem DV{w:World}{g:Nat}{t:TypeId}{pre post:List Value}{a b c d:Int}{r:ByteArray}{n:Nat}(h:aB w g t (pre++(kS a b c d r n++post))) :
  w.cell? ⟨g,pre.length,none⟩=some (.int .u32 a)/\w.cell? ⟨g,pre.length+1,none⟩=some (.int .u32 b)/\w.cell? ⟨g,pre.length+2,none⟩=some (.int .u32 c)/\w.cell? ⟨g,pre.length+3,none⟩=some (.int .u32 d) /\
  w.cell? ⟨g,pre.length+4,none⟩=some (.string r)/\w.cell? ⟨g,pre.length+5,none⟩=some (.int .u64 n) :=
 ⟨h.cell (vO pre post _ 0 (by simp[kS])),h.cell (vO pre post _ 1 (by simp[kS])),h.cell (vO pre post _ 2 (by simp[kS])),h.cell (vO pre post _ 3 (by simp[kS])),
  h.cell (vO pre post _ 4 (by simp[kS])),h.cell (vO pre post _ 5 (by simp[kS]))⟩
def l7(l:List UInt8)(i j:Nat)(r:ByteArray)(n:Nat):List Value:=kS (SM.half l i j 0) (SM.half l i j 1) (SM.half l i j 2) (SM.half l i j 3) r n
theorem Hr(l:List UInt8)(i:Nat)(r:ByteArray)(n:Nat):l7 l i 0 r n=kS (SM.stripe l i).a (SM.stripe l i).b (SM.stripe l i).c (SM.stripe l i).d r n:=by
 simp[l7,SM.K_,SM.Four.get]
theorem Yc(l:List UInt8)(i:Nat)(r:ByteArray)(n:Nat):l7 l i 4 r n=kS (SM.stripe l (i+1)).a (SM.stripe l (i+1)).b (SM.stripe l (i+1)).c (SM.stripe l (i+1)).d r n:=by
 simp[l7,SM.La,SM.Four.get]
theorem Yd(l:List UInt8)(i j:Nat)(r:ByteArray)(n:Nat)(k:Nat)(hk:k<4):(l7 l i j r n)[k]?=some (.int .u32 (SM.half l i j k)):=by
 rcases(by omega:k=0\/k=1\/k=2\/k=3)with rfl|rfl|rfl|rfl<;>rfl
theorem Oc(l:List UInt8)(i j:Nat)(r:ByteArray)(n:Nat)(hj:j<4):(l7 l i j r n).set j (.int .u32 (SM.half l i (j+1) j))=l7 l i (j+1) r n:=by
 unfold l7 kS
 rcases(by omega:j=0\/j=1\/j=2\/j=3)with rfl|rfl|rfl|rfl
 ·simp[SM.yV l i 0]
 ·simp[SM.yV l i 1]
 ·simp[SM.yV l i 2]
 ·simp[SM.yV l i 3]
theorem DW(l:List UInt8)(i j:Nat)(r:ByteArray)(n:Nat):(l7 l i j r n).length=6:=rfl
theorem add_any(L T:ByteArray)(g:Nat)(t:TypeId)(pre post:List Value)(w:World)(h:aB w g t (pre++(iZ L++post)))(hs:L.size+T.size<=140737488355328) :
  Calls prog 28 #[.pointer (some ⟨g,pre.length,none⟩),.string T] w fun e w'=>e=.returned (.tuple #[])/\aB w' g t (pre++(iZ (L++T)++post))/\Only (·=g) w w':=by
 obtain⟨c0,c1,c2,c3,c4,c5⟩:=DV (by unfold iZ at h;exact h)
 have f0:=h.free
 have hz:=SM.w_ L (16*(L.size/16))
 have hSz:=SM.size_append L T
 have HS:Hid _:=aA (SM.X9 L T (16*(L.size/16)) (by omega))
 obtain⟨S,hS⟩:∃S,S=L++T:=⟨_,rfl⟩
 rw[<- hS]at hSz HS
 have ahT:S.size<=140737488355328:=by omega
 have Ye:16*(L.size/16)<=S.size:=by omega
 have Yf:=aA hSz
 clear hSz
 have hb0:aB (w.setCell ⟨g,pre.length+5,none⟩ (.int .u64 ((L.size:Int)+T.size))) g t (pre++(l7 S.data.toList (L.size/16) 0 (SM.cut L (16*(L.size/16))) S.size++post)):=by
  have e:=h.put (pre.length+5) (.int .u64 ((L.size:Int)+T.size))
  rw[DU _ _ _ _ _ (by simp[iZ,kS])]at e
  rw[Hr,hS,SM.data_append,SM.X8 _ _ _ (by simp;omega),SM.size_append]
  simpa[iZ,kS,SM.words]using e
 have ho0:Only (·=g) w (w.setCell ⟨g,pre.length+5,none⟩ (.int .u64 ((L.size:Int)+T.size))):=(Only.refl _ w).setCell _ _ (fun _=>rfl)
 have hb0:=aA hb0
 have ho0:=aA ho0
 have hS':=aA hS
 clear hS
 go_enter func28,ntmps28
 go_wp2
 rw[HS.out]
 generalize w.setCell ⟨g,pre.length+5,none⟩ (.int .u64 ((L.size:Int)+T.size))=w0 at *
 clear c0 c1 c2 c3 c4 c5 f0
 go_loopg[1] (S.size+1-16*(L.size/16)) (fun gh tv wr=>∃i:Nat,gh=S.size+1-16*i/\16*i<=S.size/\tv=.string (SM.cut S (16*i))/\aB wr g t (pre++(l7 S.data.toList i 0 (SM.cut L (16*(L.size/16))) S.size++post))/\Only (·=g) w wr)
 case atStart=>exact⟨L.size/16,rfl,Ye,rfl,hb0.out,ho0.out⟩
 case round =>
  obtain⟨i,rfl,hi,rfl,hb,ho⟩:=hrel
  have hzi:=SM.w_ S (16*i)
  have hb:=aA hb
  have ho:=aA ho
  by_cases hlt:16*i+16<=S.size
  ·have h16:(16:Int)<=((S.size-16*i:Nat):Int):=by omega
   have d16:decide ((16:Int)<=((S.size-16*i:Nat):Int))=true:=decide_eq_true h16
   go_wp2_with fail
   go_loopg[24] 5 (fun gh jv wr'=>∃j:Nat,gh=5-j/\j<=4/\jv=.int .i64 j/\aB wr' g t (pre++(l7 S.data.toList i j (SM.cut L (16*(L.size/16))) S.size++post))/\Only (·=g) w wr')
   case atStart=>exact⟨0,by omega,by omega,rfl,hb.out,ho.out⟩
   case round =>
    obtain⟨j,rfl,hj,rfl,hbj,hoj⟩:=hrel
    by_cases hlj:j<4
    ·have f1:=hbj.free
     have c1:wr.cell? ⟨g,pre.length+j,none⟩=some (.int .u32 (SM.half S.data.toList i j j)):=hbj.cell (by rw[vO _ _ _ _ (by rw[DW];omega)];exact Yd _ _ _ _ _ _ hlj)
     have hbj:=aA hbj
     have hoj:=aA hoj
     have hhb:=SM.KZ S.data.toList i j j
     have hnb:=SM.uY (S.data.toList.drop (16*i+4*j))
     have hN:Hid (SM.dV (List.take (S.size-16*i-4*j) (List.drop (4*j) (SM.cut S (16*i)).data.toList))=SM.dV (S.data.toList.drop (16*i+4*j))):=by
      unfold Hid
      rw[SM.nZ,List.drop_drop,List.take_of_length_le (by simp;omega)]
     have aw:IntKind.i64.wrap (4*(j:Int))=4*(j:Int):=by rw[IntKind.wrap_i64];omega
     have a1:0<=4*(j:Int):=by omega
     have a2:4*(j:Int)<=((S.size-16*i:Nat):Int):=by omega
     have a3:¬((S.size-16*i:Nat):Int)<4*(j:Int):=by omega
     have a4:¬4*(j:Int)<0:=by omega
     have a5:(4*(j:Int)).toNat=4*j:=by omega
     have a6:4*j<=S.size-16*i:=by omega
     have a7:(j:Int)<4:=by omega
     go_wp2_with fail
     go_region_with(first
      | (go_at_call 46;refine(Oa _ _ (by simp only[ByteArray.size_extract];omega) (by unfold maxLen;simp only[ByteArray.size_extract];omega)).mono ?_;rintro e w1 ⟨rfl,q1,rfl⟩)
      | (go_at_call 45;refine(X7 _ _ _ (by omega) (by omega) (SM.uY _).1 (SM.uY _).2).mono ?_;rintro e w1 ⟨rfl,rfl⟩))
     all_goals rw[hN.out,SM.Lc _ _ _ hlj]
     all_goals go_wp2_with fail
     ·go_roundg(5-(j+1))
      case rel =>
       refine⟨j+1,rfl,by omega,by go_num,?_,(hoj.out.drewN _).setCell _ _ (fun _=>rfl)⟩
       have e:=(hbj.out.drewN (1+q1)).put (pre.length+j) (.int .u32 (SM.half S.data.toList i (j+1) j))
       rw[DU _ _ _ _ _ (by rw[DW];omega),Oc _ _ _ _ _ hlj]at e
       exact e
      case measure=>omega
     ·go_roundg(5-(j+1))
      case rel =>
       refine⟨j+1,rfl,by omega,by go_num,?_,(hoj.out.drewN _).setCell _ _ (fun _=>rfl)⟩
       have e:=(hbj.out.drewN (1+q1)).put (pre.length+j) (.int .u32 (SM.half S.data.toList i (j+1) j))
       rw[DU _ _ _ _ _ (by rw[DW];omega),Oc _ _ _ _ _ hlj]at e
       exact e
      case measure=>omega
    ·obtain rfl:j=4:=by omega
     go_wp2_with fail
     rw[SM.F9]
     rw[Yc]at hbj
     go_roundg(S.size+1-16*(i+1))
     case rel=>exact⟨i+1,rfl,by omega,rfl,by rw[Hr];exact hbj,hoj⟩
     case measure=>omega
  ·go_wp2_with fail
   refine(Ob _ _ (by omega)).mono ?_
   rintro e w1 ⟨rfl,hb1⟩
   have hbw:=hb.out.below hb1 hb.out.lt
   have f1:=hbw.free
   have c1:w1.cell? ⟨g,pre.length+4,none⟩=some (.string (SM.cut L (16*(L.size/16)))):=(DV (by unfold l7 at hbw;exact hbw)).2.2.2.2.1
   have hbw:=aA hbw
   have how:=aA ((ho.out.below hb1).setCell ⟨g,pre.length+4,none⟩ (.string (SM.cut S (16*i))) (fun _=>rfl))
   go_wp2_with fail
   go_end0
   refine⟨rfl,?_,how.out⟩
   have e:=hbw.out.put (pre.length+4) (.string (SM.cut S (16*i)))
   rw[DU _ _ _ _ _ (by rw[DW];omega),Hr]at e
   rw[<- hS'.out]
   have:=Yf.out
   have hd:S.size/16=i:=by omega
   simpa[iZ,kS,SM.words,hd]using e
def strLen:Value->Nat|.string b=>b.size|_=>0
theorem Yg{k:IntKind}{a b:Int}(h:a=b):Ending.returned (.int k a)=.returned (.int k b):=by rw[h]
theorem kT{k:IntKind}{a b:Int}(h:a=b):Value.int k a=.int k b:=by rw[h]
theorem Yh{a b:ByteArray}(h:a=b):Value.string a=.string b:=by rw[h]
theorem Oe(h:Int)(s:ByteArray)(w:World)(h0:0<=h)(h1:h<=4294967295)(hs:s.size<=maxLen) :
  Calls prog 50 #[.int .u32 h,.string s] w fun e w'=>e=.returned (.int .u32 (SM.tl h s.data.toList))/\∃n,w'=w.drewN n:=by
 unfold maxLen at hs
 go_enter func50,ntmps50
 go_wp2
 go_loopw[0,1] (fun hv sv wr=>∃i q:Nat,4*i<=s.size/\hv=.int .u32 (SM.fH h s.data.toList i)/\sv=.string (SM.cut s (4*i))/\wr=w.drewN q) (fun _ sv _=>strLen sv)
 case atStart=>exact⟨0,0,by omega,rfl,by rw[SM.UR],rfl⟩
 case round =>
  obtain⟨i,q,hi,rfl,rfl,rfl⟩:=hrel
  have hz:=SM.w_ s (4*i)
  have hb:=SM.CP h s.data.toList ⟨h0,h1⟩ i
  by_cases hlt:4*i+4<=s.size
  ·have hn:=SM.uY (s.data.toList.drop (4*i))
   have hn':Hid _:=SM.nZ s (4*i)
   have hcc:Hid _:=SM.KX s (4*i) 4
   go_wp2_with fail
   refine(Oa _ _ (by omega) (by unfold maxLen;omega)).mono ?_
   rintro e w1 ⟨rfl,q1,rfl⟩
   rw[hn'.out]
   go_wp2_with(go_at_call 61;refine(DR _ _ _ (by unfold SM.Turns;decide) (by omega) (by omega)).mono ?_;rintro e w' ⟨rfl,rfl⟩)
   go_roundw
   case rel=>exact⟨i+1,q+q1,by omega,kT (SM.UU _ _ _),Yh (SM.F9 s (4*i) 4),rfl⟩
   case measure =>
    simp only[strLen,SM.F9,SM.w_]
    omega
  ·have hdone:Hid (4*(s.size/4)=4*i/\s.size/4=i/\s.size%4=s.size-4*i):=by rw[Hid];omega
   go_wp2_with fail
   go_loop[0,20] (fun hv kv=>∃k:Nat,k<=s.size-4*i/\kv=.int .i64 k/\hv=.int .u32 (SM.jh (SM.fH h s.data.toList i) (s.data.toList.drop (4*i)) k)) (fun _ kv=>(s.size-4*i)-(intOf kv).toNat)
   case atStart=>exact⟨0,by omega,rfl,rfl⟩
   case round =>
    obtain⟨k,hk,rfl,rfl⟩:=hrel
    have hb1:=SM.CQ (SM.fH h s.data.toList i) (s.data.toList.drop (4*i)) hb k
    by_cases hlk:k<s.size-4*i
    ·go_wp2_with(go_at_call 61;refine(DR _ _ _ (by unfold SM.Turns;decide) (by omega) (by omega)).mono ?_;rintro e w' ⟨rfl,rfl⟩)
     go_round
     case rel=>exact⟨k+1,by omega,by go_num,kT (SM.UW _ s (4*i) k (by omega))⟩
     case measure=>simp[intOf];omega
    ·go_wp2
     go_ret
     refine⟨Yg ?_,q,rfl⟩
     obtain⟨d1,d2,d3⟩:=hdone.out
     have e:s.data.toList.length=s.size:=by simp
     rw[SM.tl,e,d1,d2,d3,show s.size-4*i=k by omega]
theorem Yi(L:ByteArray)(g:Nat)(t:TypeId)(pre post:List Value)(w:World)(h:aB w g t (pre++(iZ L++post)))(hs:L.size<=140737488355328) :
  Calls prog 29 #[.pointer (some ⟨g,pre.length,none⟩)] w fun e w'=>e=.returned (.int .u32 (SM.sum L.data.toList))/\Below w.heap.size w w':=by
 obtain⟨c0,c1,c2,c3,c4,c5⟩:=DV (by unfold iZ at h;exact h)
 have hz:=SM.w_ L (16*(L.size/16))
 have hsum:=aA (SM.X_ L)
 have hlen:(((L.size:Nat):Int)<18446744073709551616):=by omega
 by_cases h16:16<=L.size
 ·have d16:(16:Int)<=(L.size:Int):=by omega
  rw[if_pos h16]at hsum
  go_enter func29,ntmps29
  go_wp2_with fail
  refine(Ya (SM.words L) _ (SM.F7 _ _)).mono ?_
  rintro e w1 ⟨rfl,hb1⟩
  have hw1:=h.below hb1 h.lt
  obtain⟨e0,e1,e2,e3,e4,e5⟩:=DV (by unfold iZ at hw1;exact hw1)
  have hj:=SM.U0 (SM.words L)
  go_wp2_with fail
  refine(Oe _ _ _ (by omega) (by omega) (by unfold maxLen;omega)).mono ?_
  rintro e w2 ⟨rfl,q2,rfl⟩
  have ht:=SM.Ld (((SM.words L).join+L.size)%4294967296) (SM.cut L (16*(L.size/16))).data.toList (by omega)
  go_wp2_with fail
  refine(N_ _ _ ht.1 ht.2).mono ?_
  rintro e w1 ⟨rfl,rfl⟩
  go_wp2
  go_ret
  exact⟨by rw[hsum.out];rfl,⟨hb1.os,hb1.tape,hb1.output,hb1.size,hb1.block⟩⟩
 ·have d16:¬(16:Int)<=(L.size:Int):=by omega
  rw[if_neg h16]at hsum
  go_enter func29,ntmps29
  go_wp2_with fail
  refine(Oe _ _ _ (by omega) (by omega) (by unfold maxLen;omega)).mono ?_
  rintro e w2 ⟨rfl,q2,rfl⟩
  have ht:=SM.Ld (374761393+L.size) (SM.cut L (16*(L.size/16))).data.toList (by omega)
  go_wp2_with fail
  refine(N_ _ _ ht.1 ht.2).mono ?_
  rintro e w1 ⟨rfl,rfl⟩
  go_wp2
  go_ret
  refine⟨?_,⟨rfl,rfl,rfl,Nat.le_refl _,fun _ _=>rfl⟩⟩
  rw[hsum.out,show(374761393+(L.size:Int))%4294967296=374761393+(L.size:Int) by omega]
  rfl
end Go.Proofs.YtbhemchnjpajiaaGreatDoor
