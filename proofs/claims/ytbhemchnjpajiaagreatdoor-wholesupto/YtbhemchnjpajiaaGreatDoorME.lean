/- Several texts in one: RefBits, RefFree, RefBack. -/
import Derived.Test.YtbhemchnjpajiaaGreatDoorMD
import Derived.Deep.RegionHeld3
set_option linter.unusedVariables false
set_option maxRecDepth 100000
set_option maxHeartbeats 4000000
namespace Go.Proofs.YtbhemchnjpajiaaGreatDoor
open Go.RowKit Go.Proofs.Tryz RD
theorem Ints.only{G:Nat->Prop}{w w':World}{a:Option Addr}{n:Nat}{z:List Int}(h:Ints w a n z)(ho:Only G w w')(hn:∀b off,a=some ⟨b,off,none⟩->¬G b):Ints w' a n z:=by
 obtain⟨h1,h2,h3⟩:=h
 refine⟨h1,h2,?_⟩
 rcases h3 with h3|⟨b,off,ha,hlt,hc⟩
 ·exact .inl h3
 ·refine .inr ⟨b,off,ha,Nat.lt_of_lt_of_le hlt ho.size,fun i hi=>?_⟩
  rw[<- hc i hi]
  exact World.cell?_of_block (w:=w) (ho.block b hlt (hn b off ha))
def mP(w:World)(p:Nat)(a:Option Addr)(c:Nat)(l:List Int)(b:RD.B):Prop :=
 aB w p 230 [.slice a l.length c,.int .i64 b.i,.bool b.short]/\Ints w a l.length l/\(∀bl off,a=some ⟨bl,off,none⟩->bl≠p)/\b.i<=l.length/\l.length<=8388608/\(∀x∈l,0<=x/\x<=1)
theorem mP.below{w w':World}{p:Nat}{a:Option Addr}{c:Nat}{l:List Int}{b:RD.B}(h:mP w p a c l b)(hb:Below w.heap.size w w'):mP w' p a c l b :=
 ⟨h.1.below hb h.1.lt,h.2.1.below hb,h.2.2⟩
def yE(p:Nat)(a:Option Addr)(c:Nat)(l:List Int)(r:Int×RD.B)(w:World)(e:Ending)(w':World):Prop :=
 e=.returned (.int .i64 r.1)/\mP w' p a c l r.2/\Only (·=p) w w'
theorem uK(p:Nat)(a:Option Addr)(c:Nat)(l:List Int)(b:RD.B)(n:Nat)(w:World)(h:mP w p a c l b)(hn:n<=16) :
  Calls prog 115 #[.pointer (some ⟨p,0,none⟩),.int .i64 n] w (yE p a c l (RD.rd l b n) w):=by
 obtain⟨hB,hI,hap,hi,hl,hbb⟩:=h
 have c0:=hB.cell (j:=0) rfl
 have c1:=hB.cell (j:=1) rfl
 have c2:=hB.cell (j:=2) rfl
 have fz:=hB.free
 have hrd:Hid (RD.rd l b n=match RD.worth l b.i n with
  | none=>(0,⟨b.i,true⟩)
  | some v=>(v,⟨b.i+n,b.short⟩)):=rfl
 go_enter func115,ntmps115
 go_wp2_with fail
 go_quiet((go_at_call 126;refine Calls.quiet_of_same (Gt _ _ _ l _ _ _ ?_ hbb hn ?_ ?_);exact hI;omega;omega))
 cases hw:RD.worth l b.i n with
 | none =>
  rw[hw]at hrd
  go_wp2_with fail
  go_ret
  unfold yE
  rw[hrd.out]
  refine⟨rfl,⟨?_,?_,hap,hi,hl,hbb⟩,((Only.refl _ w).drewN nq).setCell _ _ (fun _=>rfl)⟩
  ·exact(hB.drewN nq).put 2 (.bool true)
  ·exact hI.only (((Only.refl (·=p) w).drewN nq).setCell ⟨p,2,none⟩ (.bool true) (fun _=>rfl)) (fun b off e=>hap b off e)
 | some v =>
  rw[hw]at hrd
  have hle:=Nj hw
  go_wp2_with fail
  go_ret
  unfold yE
  rw[hrd.out]
  refine⟨rfl,⟨?_,?_,hap,hle,hl,hbb⟩,((Only.refl _ w).drewN nq).setCell _ _ (fun _=>rfl)⟩
  ·exact(hB.drewN nq).put 1 (.int .i64 ((b.i:Int)+n))
  ·exact hI.only (((Only.refl (·=p) w).drewN nq).setCell ⟨p,1,none⟩ (.int .i64 ((b.i:Int)+n)) (fun _=>rfl)) (fun b off e=>hap b off e)
theorem aeu(l:List Int)(h:∀x∈l,0<=x/\x<=1)(b:RD.B)(n:Nat)(hn:n<=16):0<=(RD.rd l b n).1/\(RD.rd l b n).1<=65535:=by
 unfold RD.rd RD.worth
 have:=LD l h b.i n hn
 split
 ·simp
 ·rename_i v hv
  split at hv
  ·cases hv
  ·cases hv
   exact this
theorem size_any(p:Nat)(a:Option Addr)(c:Nat)(l:List Int)(b:RD.B)(n:Nat)(w:World)(h:mP w p a c l b)(hn:n<=15) :
  Calls prog 116 #[.pointer (some ⟨p,0,none⟩),.int .i64 n] w (yE p a c l (RD.sz l b n) w):=by
 have hsz:Hid (RD.sz l b n=if n<=7 then((n:Int),b)else(2^(n-7)+6+(RD.rd l b (n-7)).1,(RD.rd l b (n-7)).2)):=rfl
 by_cases h7:n<=7
 ·rw[if_pos h7]at hsz
  go_enter func116,ntmps116
  go_wp2_with fail
  go_ret
  unfold yE
  rw[hsz.out]
  exact⟨rfl,h,Only.refl _ _⟩
 ·rw[if_neg h7]at hsz
  have Hg:(n:Int)-7=((n-7:Nat):Int):=by omega
  have hp1:=CM.pow_pos (n-7)
  have hp2:=CM.iF (n-7) 16 (by omega)
  have hrb:=aeu l h.2.2.2.2.2 b (n-7) (by omega)
  go_enter func116,ntmps116
  go_wp2_with fail
  refine(qO _ _ (by omega) (by omega)).mono ?_
  rintro e w1 ⟨rfl,rfl⟩
  go_wp2_with fail
  refine(uK p a c l b (n-7) _ h (by omega)).mono ?_
  rintro e w2 ⟨rfl,hb2,ho2⟩
  go_wp2_with fail
  go_ret
  unfold yE
  rw[hsz.out]
  exact⟨rfl,hb2,ho2⟩
def lives:Value->Option Nat
 | .slice (some a) n _=>if n=0 then none else some a.block
 | _=>none
def Free(w:World)(g b:Nat):Prop:=∀j v,w.cell? ⟨g,j,none⟩=some v->lives v≠some b
theorem Free.of_block{w w':World}{g b:Nat}(h:Free w g b)(he:w'.heap[g]?=w.heap[g]?):Free w' g b:=fun j v hv =>
 h j v (by rw[<- hv];exact(World.cell?_of_block (w:=w) (a:=⟨g,j,none⟩) he).symm)
theorem Free.below{w w':World}{g b B:Nat}(h:Free w g b)(hb:Below B w w')(hg:g<B):Free w' g b:=h.of_block (hb.block g hg)
theorem Free.only{G:Nat->Prop}{w w':World}{g b:Nat}(h:Free w g b)(ho:Only G w w')(hg:g<w.heap.size)(hn:¬G g):Free w' g b:=h.of_block (ho.block g hg hn)
theorem Free.drew{w:World}{g b:Nat}(h:Free w g b):Free w.drew g b:=h
theorem Free.put{w:World}{g b:Nat}{t:TypeId}{cs:List Value}(h:Free w g b)(hB:aB w g t cs)(j:Nat)(x:Value)(hx:lives x≠some b):Free (w.setCell ⟨g,j,none⟩ x) g b:=by
 intro k v hv
 have hp:=hB.put j x
 by_cases hk:k=j
 ·subst hk
  by_cases hl:k<cs.length
  ·have:=hp.cell (j:=k) (v:=x) (by rw[List.getElem?_set_self hl])
   rw[this]at hv
   cases hv
   exact hx
  ·have e:(w.setCell ⟨g,k,none⟩ x).heap[g]?=w.heap[g]?:=by
    have h1:(w.setCell ⟨g,k,none⟩ x).heap[g]?=some (.cells (cs.set k x).toArray t):=hp
    have h2:w.heap[g]?=some (.cells cs.toArray t):=hB
    rw[h1,h2,List.set_eq_of_length_le (by omega)]
   exact(h.of_block e) k v hv
 ·by_cases hl:k<cs.length
  ·have h1:=hp.cell (j:=k) (v:=cs[k]) (by rw[List.getElem?_set_ne (fun e=>hk e.symm),List.getElem?_eq_getElem hl])
   have h2:=hB.cell (j:=k) (v:=cs[k]) (List.getElem?_eq_getElem hl)
   rw[h1]at hv
   cases hv
   exact h k _ h2
  ·exfalso
   have h1:(w.setCell ⟨g,j,none⟩ x).heap[g]?=some (.cells (cs.set j x).toArray t):=hp
   simp[World.cell?,h1]at hv
   rw[List.getElem?_eq_none (by simp;omega)]at hv
   cases hv
theorem dA.yF{w:World}{v:Value}{l:List CM.aG}(h:dA w v l):∀b,w.heap.size<=b->lives v≠some b:=by
 obtain⟨a,c,rfl,h⟩:=h
 intro b hb
 rcases h with h|⟨g',rfl,hg,h⟩
 ·unfold Go.Proofs.YtbhemchnjpajiaaGreatDoor.lives
  cases a<;>simp[h]
 ·simp only[Go.Proofs.YtbhemchnjpajiaaGreatDoor.lives]
  split
  ·simp
  ·simp only[ne_eq,Option.some.injEq];omega
theorem eG.yF{w:World}{v:Value}{l:List Int}(h:eG w v l):∀b,w.heap.size<=b->lives v≠some b:=by
 obtain⟨a,c,rfl,h1,h2,h⟩:=h
 intro b hb
 rcases h with h|⟨g',off,rfl,hg,h⟩
 ·unfold Go.Proofs.YtbhemchnjpajiaaGreatDoor.lives
  cases a<;>simp[h]
 ·simp only[Go.Proofs.YtbhemchnjpajiaaGreatDoor.lives]
  split
  ·simp
  ·simp only[ne_eq,Option.some.injEq];omega
theorem aJ.free{w:World}{g:Nat}{f:RD.Fr}(h:aJ w g f)(b:Nat)(hb:w.heap.size<=b):Free w g b:=by
 obtain⟨hok,vc,v0,v1,v2,vl,hB,⟨hc,oc⟩,⟨h0,o0⟩,⟨h1,o1⟩,⟨h2,o2⟩,⟨hl,ol⟩⟩:=h
 intro j v hv
 have hm:v∈kG f vc v0 v1 v2 vl:=by
  have h1:w.heap[g]?=some (.cells (kG f vc v0 v1 v2 vl).toArray 122):=hB
  simp only[World.cell?,h1]at hv
  by_cases hj:j<(kG f vc v0 v1 v2 vl).length
  ·have:=hB.cell (j:=j) (v:=(kG f vc v0 v1 v2 vl)[j]) (List.getElem?_eq_getElem hj)
   simp only[World.cell?,h1]at this
   rw[this]at hv
   cases hv
   exact List.getElem_mem hj
  ·exfalso
   simp at hv
   rw[List.getElem?_eq_none (by omega)]at hv
   cases hv
 unfold kG at hm
 simp only[List.mem_cons,List.not_mem_nil,or_false]at hm
 rcases hm with rfl|rfl|rfl|rfl|rfl|rfl|rfl|rfl|rfl|rfl|rfl|rfl|rfl|rfl|rfl|rfl|rfl
 all_goals first
  | exact hc.yF b hb
  | exact h0.yF b hb
  | exact h1.yF b hb
  | exact h2.yF b hb
  | exact hl.yF b hb
  | (simp[Go.Proofs.YtbhemchnjpajiaaGreatDoor.lives];done)
theorem dA.away{w w':World}{v:Value}{l:List CM.aG}{G:Nat->Prop}(h:dA w v l)(ho:Only G w w')(hn:∀b,lives v=some b->¬G b):dA w' v l:=by
 obtain⟨a,c,rfl,h⟩:=h
 refine⟨a,c,rfl,?_⟩
 by_cases hl:l.length=0
 ·exact .inl hl
 obtain⟨g',rfl,hg,h⟩:=h.resolve_left hl
 have JE:¬G g':=hn g' (by simp only[Go.Proofs.YtbhemchnjpajiaaGreatDoor.lives];rw[if_neg hl])
 have hc:∀k,w'.cell? ⟨g',k,none⟩=w.cell? ⟨g',k,none⟩:=fun k=>World.cell?_of_block (w:=w) (ho.block g' hg JE)
 refine .inr ⟨g',rfl,Nat.lt_of_lt_of_le hg ho.size,fun i hi=>?_⟩
 rw[hc,hc,hc]
 exact h i hi
theorem eG.away{w w':World}{v:Value}{l:List Int}{G:Nat->Prop}(h:eG w v l)(ho:Only G w w')(hn:∀b,lives v=some b->¬G b):eG w' v l:=by
 obtain⟨a,c,rfl,h1,h2,h⟩:=h
 refine⟨a,c,rfl,h1,h2,?_⟩
 by_cases hl:l.length=0
 ·exact .inl hl
 obtain⟨g',off,rfl,hg,h⟩:=h.resolve_left hl
 have JE:¬G g':=hn g' (by simp only[Go.Proofs.YtbhemchnjpajiaaGreatDoor.lives];rw[if_neg hl])
 have hc:∀k,w'.cell? ⟨g',k,none⟩=w.cell? ⟨g',k,none⟩:=fun k=>World.cell?_of_block (w:=w) (ho.block g' hg JE)
 refine .inr ⟨g',off,rfl,Nat.lt_of_lt_of_le hg ho.size,fun i hi=>?_⟩
 rw[hc]
 exact h i hi
theorem aJ.away{w w':World}{g:Nat}{f:RD.Fr}{G:Nat->Prop}(h:aJ w g f)(ho:Only G w w')(hg:¬G g)(hf:∀b,G b->Free w g b):aJ w' g f:=by
 obtain⟨hok,vc,v0,v1,v2,vl,hB,⟨hc,oc⟩,⟨h0,o0⟩,⟨h1,o1⟩,⟨h2,o2⟩,⟨hl,ol⟩⟩:=h
 have hB':aB w' g 122 (kG f vc v0 v1 v2 vl):=by
  have:=ho.block g hB.lt hg
  unfold aB at *
  rw[this]
  exact hB
 refine⟨hok,vc,v0,v1,v2,vl,hB',⟨hc.away ho ?_,oc⟩,⟨h0.away ho ?_,o0⟩,⟨h1.away ho ?_,o1⟩,⟨h2.away ho ?_,o2⟩,⟨hl.away ho ?_,ol⟩⟩
 ·exact fun b hb hG=>hf b hG 5 vc (hB.cell rfl) hb
 ·exact fun b hb hG=>hf b hG 8 v0 (hB.cell rfl) hb
 ·exact fun b hb hG=>hf b hG 11 v1 (hB.cell rfl) hb
 ·exact fun b hb hG=>hf b hG 14 v2 (hB.cell rfl) hb
 ·exact fun b hb hG=>hf b hG 15 vl (hB.cell rfl) hb
theorem Bz(w:World)(t:TypeId)(v:Value):(w.alloc (.cells #[v] t)).ownsRow w.heap.size t 1 (.slice (some ⟨w.heap.size,0,none⟩) 1 1) 1 [v]:=by
 refine⟨rfl,.inr ⟨w.heap.size,1,#[v],rfl,Nat.le_refl _,heap_alloc_new w _,Nat.le_refl _,by decide,rfl,rfl⟩⟩
def lF(g:Nat)(f:RD.Fr)(r:Int×List Int)(w:World)(e:Ending)(w':World):Prop :=
 e=.returned (.int .i64 r.1)/\aJ w' g { f with last:=r.2 }/\Only (·=g) w w'/\∀b,b<w.heap.size->Free w g b->Free w' g b
theorem aev(f:RD.Fr)(vc v0 v1 v2 vl v:Value)(z:List Int):(kG f vc v0 v1 v2 vl).set 15 v=kG { f with last:=z } vc v0 v1 v2 v:=rfl
theorem aJ.setLast{w:World}{g:Nat}{f:RD.Fr}(h:aJ w g f){v:Value}{z:List Int}(hv:eG w v z)(ho:bJ v≠some g)(hc:∀x∈z,-1<=x/\x<=65536) :
  aJ (w.setCell ⟨g,15,none⟩ v) g { f with last:=z }:=by
 obtain⟨hok,vc,v0,v1,v2,vl,hB,⟨hc',oc⟩,⟨h0,o0⟩,⟨h1,o1⟩,⟨h2,o2⟩,⟨hl,ol⟩⟩:=h
 refine⟨⟨hok.window,hok.size,hok.dict,hok.text,hok.codes,hok.t0,hok.t1,hok.t2,hc,hok.blocks⟩,vc,v0,v1,v2,v,?_,⟨hc'.put g 15 v oc,oc⟩,⟨h0.put g 15 v o0,o0⟩,⟨h1.put g 15 v o1,o1⟩,⟨h2.put g 15 v o2,o2⟩,⟨hv.put g 15 v ho,ho⟩⟩
 have:=hB.put 15 v
 rwa[aev f vc v0 v1 v2 vl v z]at this
theorem aJ.wJ{w:World}{g:Nat}{f:RD.Fr}{x y z:Int}(h:aJ w g f)(hl:f.last=[x,y,z]):g<w.heap.size/\w.frozen? ⟨g,15,none⟩=false /\
  ∃b off c,w.cell? ⟨g,15,none⟩=some (.slice (some ⟨b,off,none⟩) 3 c)/\b≠g/\b<w.heap.size/\w.cell? ⟨b,off,none⟩=some (.int .i64 x)/\w.cell? ⟨b,off+1,none⟩=some (.int .i64 y)/\w.cell? ⟨b,off+2,none⟩=some (.int .i64 z):=by
 obtain⟨_,vc,v0,v1,v2,vl,hB,_,_,_,_,⟨⟨a,c,rfl,h1,h2,h3⟩,ol⟩⟩:=h
 have hn:f.last.length=3:=by rw[hl];rfl
 obtain⟨b,off,rfl,hb,hc⟩:=h3.resolve_left (by omega)
 refine⟨hB.lt,hB.free 15,b,off,c,by rw[hB.cell (j:=15) rfl,hn],fun e=>ol (by rw[e];rfl),hb,?_,?_,?_⟩
 ·have:=hc 0 (by omega)
  rw[hl]at this
  simpa using this
 ·have:=hc 1 (by omega)
  rw[hl]at this
  simpa using this
 ·have:=hc 2 (by omega)
  rw[hl]at this
  simpa using this
theorem BA(w:World)(x y z:Int):eG (w.alloc (.cells #[.int .i64 x,.int .i64 y,.int .i64 z] 3)) (.slice (some ⟨w.heap.size,0,none⟩) 3 3) [x,y,z] :=
 ⟨_,_,rfl,Ints.jg (z:=[x,y,z]) (rest:=[]) (aB.new w 3 (intCells [x,y,z]++[])) (by simp)⟩
theorem aJ.newLast{w:World}{g:Nat}{f:RD.Fr}(h:aJ w g f)(x y z:Int)(hx:-1<=x/\x<=65536)(hy:-1<=y/\y<=65536)(hz:-1<=z/\z<=65536) :
  aJ ((w.setCell ⟨g,15,none⟩ (.slice (some ⟨w.heap.size,0,none⟩) 3 3)).alloc (.cells #[.int .i64 x,.int .i64 y,.int .i64 z] 3)) g { f with last:=[x,y,z] } /\
  Only (·=g) w ((w.setCell ⟨g,15,none⟩ (.slice (some ⟨w.heap.size,0,none⟩) 3 3)).alloc (.cells #[.int .i64 x,.int .i64 y,.int .i64 z] 3)) /\
  ∀b,b<w.heap.size->Free w g b->Free ((w.setCell ⟨g,15,none⟩ (.slice (some ⟨w.heap.size,0,none⟩) 3 3)).alloc (.cells #[.int .i64 x,.int .i64 y,.int .i64 z] 3)) g b:=by
 have hg:g<w.heap.size:=h.iQ.1
 have hb0:=(Below.refl _ w).alloc (Nat.le_refl _) (.cells #[.int .i64 x,.int .i64 y,.int .i64 z] 3)
 have h1:=(h.below hb0).setLast (BA w x y z) (by
  simp only[bJ,ne_eq,Option.some.injEq]
  omega) (fun u hu=>by
  simp only[List.mem_cons,List.not_mem_nil,or_false]at hu
  rcases hu with rfl|rfl|rfl<;>assumption)
 rw[World.setCell_alloc_past _ _ _ _ hg]at h1
 have h2:=((Only.refl (·=g) w).setCell ⟨g,15,none⟩ (.slice (some ⟨w.heap.size,0,none⟩) 3 3) (fun _=>rfl)).alloc (.cells #[.int .i64 x,.int .i64 y,.int .i64 z] 3)
 refine⟨h1,h2,fun b hb hf=>?_⟩
 obtain⟨_,vc,v0,v1,v2,vl,hB,_⟩:=h
 have h3:=hf.put hB 15 (.slice (some ⟨w.heap.size,0,none⟩) 3 3) (by simp[lives];omega)
 exact h3.below ((Below.refl _ _).alloc (Nat.le_refl _) _) (by simpa using hg)
theorem aew(g:Nat)(f:RD.Fr)(x y z:Int)(v length:Int)(w:World)(hF:aJ w g f)(hl:f.last=[x,y,z])(hb:(1<=x/\x<=65536)/\(1<=y/\y<=65536)/\(1<=z/\z<=65536))(hv:3<v)(hv2:v<=65536)(hlen:0<=length/\length<=1048576) :
  Calls prog 117 #[.pointer (some ⟨g,0,none⟩),.int .i64 v,.int .i64 length] w (lF g f (bG [x,y,z] v length) w):=by
 obtain⟨hgl,hfz,b,off,c,d15,hbg,hbl,e0,e1,e2⟩:=hF.wJ hl
 have hbk:Hid (bG [x,y,z] v length=(v-3,[v-3,x,y])):=by
  unfold Hid bG
  rw[if_pos hv]
  rfl
 go_enter func117,ntmps117
 go_wp2_with fail
 have haw:IntKind.i64.wrap (v-3)=v-3:=by rw[IntKind.wrap_i64];omega
 obtain⟨n1,n2,n3⟩:=hF.newLast (v-3) x y (by omega) (by omega) (by omega)
 have n1:=aA n1
 have n2:=aA n2
 have n3:=aA n3
 go_region
 go_wp2_with fail
 go_ret
 unfold lF
 rw[hbk.out]
 exact⟨rfl,n1.out.drew,n2.out.drew,fun b hb hf=>(n3.out b hb hf).drew⟩
theorem aex(g:Nat)(f:RD.Fr)(x y z:Int)(w:World)(hF:aJ w g f)(hl:f.last=[x,y,z])(hb:(1<=x/\x<=65536)/\(1<=y/\y<=65536)/\(1<=z/\z<=65536)) :
  Calls prog 117 #[.pointer (some ⟨g,0,none⟩),.int .i64 3,.int .i64 0] w (lF g f (bG [x,y,z] 3 0) w):=by
 obtain⟨hgl,hfz,b,off,c,d15,hbg,hbl,e0,e1,e2⟩:=hF.wJ hl
 have hbk:Hid (bG [x,y,z] 3 0=(x-1,[x-1,x,y])):=rfl
 go_enter func117,ntmps117
 have haw:IntKind.i64.wrap (x-1)=x-1:=by rw[IntKind.wrap_i64];omega
 obtain⟨n1,n2,n3⟩:=hF.newLast (x-1) x y (by omega) (by omega) (by omega)
 have n1:=aA n1
 have n2:=aA n2
 have n3:=aA n3
 go_wp2_with fail
 go_region
 go_wp2_with fail
 go_ret
 unfold lF
 rw[hbk.out]
 exact⟨rfl,n1.out.drew,n2.out.drew,fun b hb hf=>(n3.out b hb hf).drew⟩
theorem aey(g:Nat)(f:RD.Fr)(x y z:Int)(length:Int)(w:World)(hF:aJ w g f)(hl:f.last=[x,y,z])(hb:(1<=x/\x<=65536)/\(1<=y/\y<=65536)/\(1<=z/\z<=65536))(hlen:1<=length/\length<=1048576) :
  Calls prog 117 #[.pointer (some ⟨g,0,none⟩),.int .i64 1,.int .i64 length] w (lF g f (bG [x,y,z] 1 length) w):=by
 obtain⟨hgl,hfz,b,off,c,d15,hbg,hbl,e0,e1,e2⟩:=hF.wJ hl
 have hbk:Hid (bG [x,y,z] 1 length=(x,[x,y,z])):=by
  unfold Hid bG
  simp only[if_neg (show ¬length=0 by omega)];rfl
 obtain⟨i0,hi0,hz0',hz1,hz2⟩:=info_parts oh
 have hlb:(length==0)=false:=by simp;omega
 go_enter func117,ntmps117
 go_wp2_with fail
 go_loopg[8,9] 4 (fun gh v kv wr=>∃(k:Nat)(A:List Int),gh=4-k/\k<=3/\kv=.int .i64 (k:Int)/\Hid ((k=0/\A=[x])\/(k=1/\A=[x])\/(k=2/\A=[x,y])\/(k=3/\A=[x,y,z]))/\cO w.heap.size wr v A/\Below w.heap.size w wr)
 case atStart=>exact⟨0,[x],by omega,by omega,rfl,.inl ⟨rfl,rfl⟩,Bz w 3 _,(Below.refl _ _).alloc (Nat.le_refl _) _⟩
 case round =>
  obtain⟨k,A,rfl,hk,rfl,hA,hown,hbel⟩:=hrel
  have hown:=aA hown
  have hbel:=aA hbel
  have hsz:=hbel.out.size
  have k15:=(hbel.out.cell (p:=⟨g,15,none⟩) hgl).trans d15
  have k0:=(hbel.out.cell (p:=⟨b,off,none⟩) hbl).trans e0
  have k1:=(hbel.out.cell (p:=⟨b,off+1,none⟩) hbl).trans e1
  have k2:=(hbel.out.cell (p:=⟨b,off+2,none⟩) hbl).trans e2
  have kf:=(hbel.out.frozen (p:=⟨g,15,none⟩) hgl).trans hfz
  rcases hA.out with⟨rfl,rfl⟩|⟨rfl,rfl⟩|⟨rfl,rfl⟩|⟨rfl,rfl⟩
  ·go_wp2_with fail
   go_roundg 3
   case rel=>exact⟨1,[x],by omega,by omega,rfl,(.inr (.inl ⟨rfl,rfl⟩)),hown.out,hbel.out⟩
   case measure=>omega
  ·go_wp2_with(at_builtin;refine wpList_append_own _ rfl _ _ 27 rfl w.heap.size 3 i0 _ 1 8 underlying27 hi0 hz0' hz1 hz2 rfl (by decide) _ _ _ rfl (World.ownsRow.alloc hown.out _) ⟨wr.heap.size,0,none⟩ 1 1 [.int .i64 y] rfl rfl (jA _ _ _) (one_one _) (by unfold maxLen;simp) (by simp) (by simp;omega) ?_)
   intro v1 w1 hown1 hgrow _
   have dh:Below w.heap.size w w1:=(hbel.out.alloc hbel.out.size _).grown hgrow (by simp;omega) (fun k hk=>(World.ownsRow.lt hown.out k hk).1)
   have dS:Hid (cO w.heap.size w1 v1 [x,y]):=hown1
   clear hown1 hgrow
   go_wp2
   go_roundg 2
   case rel=>exact⟨2,[x,y],by omega,by omega,rfl,(.inr (.inr (.inl ⟨rfl,rfl⟩))),dS.out,dh⟩
   case measure=>omega
  ·go_wp2_with(at_builtin;refine wpList_append_own _ rfl _ _ 27 rfl w.heap.size 3 i0 _ 1 8 underlying27 hi0 hz0' hz1 hz2 rfl (by decide) _ _ _ rfl (World.ownsRow.alloc hown.out _) ⟨wr.heap.size,0,none⟩ 1 1 [.int .i64 z] rfl rfl (jA _ _ _) (one_one _) (by unfold maxLen;simp) (by simp) (by simp;omega) ?_)
   intro v1 w1 hown1 hgrow _
   have dh:Below w.heap.size w w1:=(hbel.out.alloc hbel.out.size _).grown hgrow (by simp;omega) (fun k hk=>(World.ownsRow.lt hown.out k hk).1)
   have dS:Hid (cO w.heap.size w1 v1 [x,y,z]):=hown1
   clear hown1 hgrow
   go_wp2
   go_roundg 1
   case rel=>exact⟨3,[x,y,z],by omega,by omega,rfl,(.inr (.inr (.inr ⟨rfl,rfl⟩))),dS.out,dh⟩
   case measure=>omega
  ·obtain⟨g1,c1,rest,rfl,hg1,hblk,_,_,_⟩:=mY hown.out (by simp)
   have hI1:eG wr (.slice (some ⟨g1,0,none⟩) 3 c1) [x,y,z]:=⟨_,_,rfl,hown.out.ints (by simp)⟩
   have kx:=hblk.cell (j:=0) rfl
   have hne:g1≠g:=by omega
   have hFr:=hF.below hbel.out
   have hset:=aA (hFr.setLast hI1 (by simp only[bJ,ne_eq,Option.some.injEq];omega) (fun u hu=>by
    simp only[List.mem_cons,List.not_mem_nil,or_false]at hu
    rcases hu with rfl|rfl|rfl<;>omega))
   have hon:=aA (((Only.refl (·=g) w).below hbel.out).setCell ⟨g,15,none⟩ (.slice (some ⟨g1,0,none⟩) 3 c1) (fun _=>rfl))
   go_wp2_with fail
   go_ret
   unfold lF
   rw[hbk.out]
   refine⟨rfl,hset.out,hon.out,fun b hb hf=>?_⟩
   obtain⟨_,vc,v0,v1,v2,vl,hB,_⟩:=hFr
   exact(hf.below hbel.out hgl).put hB 15 _ (by simp[lives];omega)
theorem aez(g:Nat)(f:RD.Fr)(x y z:Int)(length:Int)(w:World)(hF:aJ w g f)(hl:f.last=[x,y,z])(hb:(1<=x/\x<=65536)/\(1<=y/\y<=65536)/\(1<=z/\z<=65536))(hlen:1<=length/\length<=1048576) :
  Calls prog 117 #[.pointer (some ⟨g,0,none⟩),.int .i64 2,.int .i64 length] w (lF g f (bG [x,y,z] 2 length) w):=by
 obtain⟨hgl,hfz,b,off,c,d15,hbg,hbl,e0,e1,e2⟩:=hF.wJ hl
 have hbk:Hid (bG [x,y,z] 2 length=(y,[y,x,z])):=by
  unfold Hid bG
  simp only[if_neg (show ¬length=0 by omega)];rfl
 obtain⟨i0,hi0,hz0',hz1,hz2⟩:=info_parts oh
 have hlb:(length==0)=false:=by simp;omega
 go_enter func117,ntmps117
 go_wp2_with fail
 go_loopg[8,9] 4 (fun gh v kv wr=>∃(k:Nat)(A:List Int),gh=4-k/\k<=3/\kv=.int .i64 (k:Int)/\Hid ((k=0/\A=[y])\/(k=1/\A=[y,x])\/(k=2/\A=[y,x])\/(k=3/\A=[y,x,z]))/\cO w.heap.size wr v A/\Below w.heap.size w wr)
 case atStart=>exact⟨0,[y],by omega,by omega,rfl,.inl ⟨rfl,rfl⟩,Bz w 3 _,(Below.refl _ _).alloc (Nat.le_refl _) _⟩
 case round =>
  obtain⟨k,A,rfl,hk,rfl,hA,hown,hbel⟩:=hrel
  have hown:=aA hown
  have hbel:=aA hbel
  have hsz:=hbel.out.size
  have k15:=(hbel.out.cell (p:=⟨g,15,none⟩) hgl).trans d15
  have k0:=(hbel.out.cell (p:=⟨b,off,none⟩) hbl).trans e0
  have k1:=(hbel.out.cell (p:=⟨b,off+1,none⟩) hbl).trans e1
  have k2:=(hbel.out.cell (p:=⟨b,off+2,none⟩) hbl).trans e2
  have kf:=(hbel.out.frozen (p:=⟨g,15,none⟩) hgl).trans hfz
  rcases hA.out with⟨rfl,rfl⟩|⟨rfl,rfl⟩|⟨rfl,rfl⟩|⟨rfl,rfl⟩
  ·go_wp2_with(at_builtin;refine wpList_append_own _ rfl _ _ 27 rfl w.heap.size 3 i0 _ 1 8 underlying27 hi0 hz0' hz1 hz2 rfl (by decide) _ _ _ rfl (World.ownsRow.alloc hown.out _) ⟨wr.heap.size,0,none⟩ 1 1 [.int .i64 x] rfl rfl (jA _ _ _) (one_one _) (by unfold maxLen;simp) (by simp) (by simp;omega) ?_)
   intro v1 w1 hown1 hgrow _
   have dh:Below w.heap.size w w1:=(hbel.out.alloc hbel.out.size _).grown hgrow (by simp;omega) (fun k hk=>(World.ownsRow.lt hown.out k hk).1)
   have dS:Hid (cO w.heap.size w1 v1 [y,x]):=hown1
   clear hown1 hgrow
   go_wp2
   go_roundg 3
   case rel=>exact⟨1,[y,x],by omega,by omega,rfl,(.inr (.inl ⟨rfl,rfl⟩)),dS.out,dh⟩
   case measure=>omega
  ·go_wp2_with fail
   go_roundg 2
   case rel=>exact⟨2,[y,x],by omega,by omega,rfl,(.inr (.inr (.inl ⟨rfl,rfl⟩))),hown.out,hbel.out⟩
   case measure=>omega
  ·go_wp2_with(at_builtin;refine wpList_append_own _ rfl _ _ 27 rfl w.heap.size 3 i0 _ 1 8 underlying27 hi0 hz0' hz1 hz2 rfl (by decide) _ _ _ rfl (World.ownsRow.alloc hown.out _) ⟨wr.heap.size,0,none⟩ 1 1 [.int .i64 z] rfl rfl (jA _ _ _) (one_one _) (by unfold maxLen;simp) (by simp) (by simp;omega) ?_)
   intro v1 w1 hown1 hgrow _
   have dh:Below w.heap.size w w1:=(hbel.out.alloc hbel.out.size _).grown hgrow (by simp;omega) (fun k hk=>(World.ownsRow.lt hown.out k hk).1)
   have dS:Hid (cO w.heap.size w1 v1 [y,x,z]):=hown1
   clear hown1 hgrow
   go_wp2
   go_roundg 1
   case rel=>exact⟨3,[y,x,z],by omega,by omega,rfl,(.inr (.inr (.inr ⟨rfl,rfl⟩))),dS.out,dh⟩
   case measure=>omega
  ·obtain⟨g1,c1,rest,rfl,hg1,hblk,_,_,_⟩:=mY hown.out (by simp)
   have hI1:eG wr (.slice (some ⟨g1,0,none⟩) 3 c1) [y,x,z]:=⟨_,_,rfl,hown.out.ints (by simp)⟩
   have kx:=hblk.cell (j:=0) rfl
   have hne:g1≠g:=by omega
   have hFr:=hF.below hbel.out
   have hset:=aA (hFr.setLast hI1 (by simp only[bJ,ne_eq,Option.some.injEq];omega) (fun u hu=>by
    simp only[List.mem_cons,List.not_mem_nil,or_false]at hu
    rcases hu with rfl|rfl|rfl<;>omega))
   have hon:=aA (((Only.refl (·=g) w).below hbel.out).setCell ⟨g,15,none⟩ (.slice (some ⟨g1,0,none⟩) 3 c1) (fun _=>rfl))
   go_wp2_with fail
   go_ret
   unfold lF
   rw[hbk.out]
   refine⟨rfl,hset.out,hon.out,fun b hb hf=>?_⟩
   obtain⟨_,vc,v0,v1,v2,vl,hB,_⟩:=hFr
   exact(hf.below hbel.out hgl).put hB 15 _ (by simp[lives];omega)
theorem aeA(g:Nat)(f:RD.Fr)(x y z:Int)(length:Int)(w:World)(hF:aJ w g f)(hl:f.last=[x,y,z])(hb:(1<=x/\x<=65536)/\(1<=y/\y<=65536)/\(1<=z/\z<=65536))(hlen:1<=length/\length<=1048576) :
  Calls prog 117 #[.pointer (some ⟨g,0,none⟩),.int .i64 3,.int .i64 length] w (lF g f (bG [x,y,z] 3 length) w):=by
 obtain⟨hgl,hfz,b,off,c,d15,hbg,hbl,e0,e1,e2⟩:=hF.wJ hl
 have hbk:Hid (bG [x,y,z] 3 length=(z,[z,x,y])):=by
  unfold Hid bG
  simp only[if_neg (show ¬length=0 by omega)];rfl
 obtain⟨i0,hi0,hz0',hz1,hz2⟩:=info_parts oh
 have hlb:(length==0)=false:=by simp;omega
 go_enter func117,ntmps117
 go_wp2_with fail
 go_loopg[8,9] 4 (fun gh v kv wr=>∃(k:Nat)(A:List Int),gh=4-k/\k<=3/\kv=.int .i64 (k:Int)/\Hid ((k=0/\A=[z])\/(k=1/\A=[z,x])\/(k=2/\A=[z,x,y])\/(k=3/\A=[z,x,y]))/\cO w.heap.size wr v A/\Below w.heap.size w wr)
 case atStart=>exact⟨0,[z],by omega,by omega,rfl,.inl ⟨rfl,rfl⟩,Bz w 3 _,(Below.refl _ _).alloc (Nat.le_refl _) _⟩
 case round =>
  obtain⟨k,A,rfl,hk,rfl,hA,hown,hbel⟩:=hrel
  have hown:=aA hown
  have hbel:=aA hbel
  have hsz:=hbel.out.size
  have k15:=(hbel.out.cell (p:=⟨g,15,none⟩) hgl).trans d15
  have k0:=(hbel.out.cell (p:=⟨b,off,none⟩) hbl).trans e0
  have k1:=(hbel.out.cell (p:=⟨b,off+1,none⟩) hbl).trans e1
  have k2:=(hbel.out.cell (p:=⟨b,off+2,none⟩) hbl).trans e2
  have kf:=(hbel.out.frozen (p:=⟨g,15,none⟩) hgl).trans hfz
  rcases hA.out with⟨rfl,rfl⟩|⟨rfl,rfl⟩|⟨rfl,rfl⟩|⟨rfl,rfl⟩
  ·go_wp2_with(at_builtin;refine wpList_append_own _ rfl _ _ 27 rfl w.heap.size 3 i0 _ 1 8 underlying27 hi0 hz0' hz1 hz2 rfl (by decide) _ _ _ rfl (World.ownsRow.alloc hown.out _) ⟨wr.heap.size,0,none⟩ 1 1 [.int .i64 x] rfl rfl (jA _ _ _) (one_one _) (by unfold maxLen;simp) (by simp) (by simp;omega) ?_)
   intro v1 w1 hown1 hgrow _
   have dh:Below w.heap.size w w1:=(hbel.out.alloc hbel.out.size _).grown hgrow (by simp;omega) (fun k hk=>(World.ownsRow.lt hown.out k hk).1)
   have dS:Hid (cO w.heap.size w1 v1 [z,x]):=hown1
   clear hown1 hgrow
   go_wp2
   go_roundg 3
   case rel=>exact⟨1,[z,x],by omega,by omega,rfl,(.inr (.inl ⟨rfl,rfl⟩)),dS.out,dh⟩
   case measure=>omega
  ·go_wp2_with(at_builtin;refine wpList_append_own _ rfl _ _ 27 rfl w.heap.size 3 i0 _ 1 8 underlying27 hi0 hz0' hz1 hz2 rfl (by decide) _ _ _ rfl (World.ownsRow.alloc hown.out _) ⟨wr.heap.size,0,none⟩ 1 1 [.int .i64 y] rfl rfl (jA _ _ _) (one_one _) (by unfold maxLen;simp) (by simp) (by simp;omega) ?_)
   intro v1 w1 hown1 hgrow _
   have dh:Below w.heap.size w w1:=(hbel.out.alloc hbel.out.size _).grown hgrow (by simp;omega) (fun k hk=>(World.ownsRow.lt hown.out k hk).1)
   have dS:Hid (cO w.heap.size w1 v1 [z,x,y]):=hown1
   clear hown1 hgrow
   go_wp2
   go_roundg 2
   case rel=>exact⟨2,[z,x,y],by omega,by omega,rfl,(.inr (.inr (.inl ⟨rfl,rfl⟩))),dS.out,dh⟩
   case measure=>omega
  ·go_wp2_with fail
   go_roundg 1
   case rel=>exact⟨3,[z,x,y],by omega,by omega,rfl,(.inr (.inr (.inr ⟨rfl,rfl⟩))),hown.out,hbel.out⟩
   case measure=>omega
  ·obtain⟨g1,c1,rest,rfl,hg1,hblk,_,_,_⟩:=mY hown.out (by simp)
   have hI1:eG wr (.slice (some ⟨g1,0,none⟩) 3 c1) [z,x,y]:=⟨_,_,rfl,hown.out.ints (by simp)⟩
   have kx:=hblk.cell (j:=0) rfl
   have hne:g1≠g:=by omega
   have hFr:=hF.below hbel.out
   have hset:=aA (hFr.setLast hI1 (by simp only[bJ,ne_eq,Option.some.injEq];omega) (fun u hu=>by
    simp only[List.mem_cons,List.not_mem_nil,or_false]at hu
    rcases hu with rfl|rfl|rfl<;>omega))
   have hon:=aA (((Only.refl (·=g) w).below hbel.out).setCell ⟨g,15,none⟩ (.slice (some ⟨g1,0,none⟩) 3 c1) (fun _=>rfl))
   go_wp2_with fail
   go_ret
   unfold lF
   rw[hbk.out]
   refine⟨rfl,hset.out,hon.out,fun b hb hf=>?_⟩
   obtain⟨_,vc,v0,v1,v2,vl,hB,_⟩:=hFr
   exact(hf.below hbel.out hgl).put hB 15 _ (by simp[lives];omega)
theorem aeB(g:Nat)(f:RD.Fr)(x y z:Int)(w:World)(hF:aJ w g f)(hl:f.last=[x,y,z])(hb:(1<=x/\x<=65536)/\(1<=y/\y<=65536)/\(1<=z/\z<=65536)) :
  Calls prog 117 #[.pointer (some ⟨g,0,none⟩),.int .i64 1,.int .i64 0] w (lF g f (bG [x,y,z] 1 0) w):=by
 obtain⟨hgl,hfz,b,off,c,d15,hbg,hbl,e0,e1,e2⟩:=hF.wJ hl
 have hbk:Hid (bG [x,y,z] 1 0=(y,[y,x,z])):=by
  unfold Hid bG
  rfl
 obtain⟨i0,hi0,hz0',hz1,hz2⟩:=info_parts oh

 go_enter func117,ntmps117
 go_wp2_with fail
 go_loopg[8,9] 4 (fun gh v kv wr=>∃(k:Nat)(A:List Int),gh=4-k/\k<=3/\kv=.int .i64 (k:Int)/\Hid ((k=0/\A=[y])\/(k=1/\A=[y,x])\/(k=2/\A=[y,x])\/(k=3/\A=[y,x,z]))/\cO w.heap.size wr v A/\Below w.heap.size w wr)
 case atStart=>exact⟨0,[y],by omega,by omega,rfl,.inl ⟨rfl,rfl⟩,Bz w 3 _,(Below.refl _ _).alloc (Nat.le_refl _) _⟩
 case round =>
  obtain⟨k,A,rfl,hk,rfl,hA,hown,hbel⟩:=hrel
  have hown:=aA hown
  have hbel:=aA hbel
  have hsz:=hbel.out.size
  have k15:=(hbel.out.cell (p:=⟨g,15,none⟩) hgl).trans d15
  have k0:=(hbel.out.cell (p:=⟨b,off,none⟩) hbl).trans e0
  have k1:=(hbel.out.cell (p:=⟨b,off+1,none⟩) hbl).trans e1
  have k2:=(hbel.out.cell (p:=⟨b,off+2,none⟩) hbl).trans e2
  have kf:=(hbel.out.frozen (p:=⟨g,15,none⟩) hgl).trans hfz
  rcases hA.out with⟨rfl,rfl⟩|⟨rfl,rfl⟩|⟨rfl,rfl⟩|⟨rfl,rfl⟩
  ·go_wp2_with(at_builtin;refine wpList_append_own _ rfl _ _ 27 rfl w.heap.size 3 i0 _ 1 8 underlying27 hi0 hz0' hz1 hz2 rfl (by decide) _ _ _ rfl (World.ownsRow.alloc hown.out _) ⟨wr.heap.size,0,none⟩ 1 1 [.int .i64 x] rfl rfl (jA _ _ _) (one_one _) (by unfold maxLen;simp) (by simp) (by simp;omega) ?_)
   intro v1 w1 hown1 hgrow _
   have dh:Below w.heap.size w w1:=(hbel.out.alloc hbel.out.size _).grown hgrow (by simp;omega) (fun k hk=>(World.ownsRow.lt hown.out k hk).1)
   have dS:Hid (cO w.heap.size w1 v1 [y,x]):=hown1
   clear hown1 hgrow
   go_wp2
   go_roundg 3
   case rel=>exact⟨1,[y,x],by omega,by omega,rfl,(.inr (.inl ⟨rfl,rfl⟩)),dS.out,dh⟩
   case measure=>omega
  ·go_wp2_with fail
   go_roundg 2
   case rel=>exact⟨2,[y,x],by omega,by omega,rfl,(.inr (.inr (.inl ⟨rfl,rfl⟩))),hown.out,hbel.out⟩
   case measure=>omega
  ·go_wp2_with(at_builtin;refine wpList_append_own _ rfl _ _ 27 rfl w.heap.size 3 i0 _ 1 8 underlying27 hi0 hz0' hz1 hz2 rfl (by decide) _ _ _ rfl (World.ownsRow.alloc hown.out _) ⟨wr.heap.size,0,none⟩ 1 1 [.int .i64 z] rfl rfl (jA _ _ _) (one_one _) (by unfold maxLen;simp) (by simp) (by simp;omega) ?_)
   intro v1 w1 hown1 hgrow _
   have dh:Below w.heap.size w w1:=(hbel.out.alloc hbel.out.size _).grown hgrow (by simp;omega) (fun k hk=>(World.ownsRow.lt hown.out k hk).1)
   have dS:Hid (cO w.heap.size w1 v1 [y,x,z]):=hown1
   clear hown1 hgrow
   go_wp2
   go_roundg 1
   case rel=>exact⟨3,[y,x,z],by omega,by omega,rfl,(.inr (.inr (.inr ⟨rfl,rfl⟩))),dS.out,dh⟩
   case measure=>omega
  ·obtain⟨g1,c1,rest,rfl,hg1,hblk,_,_,_⟩:=mY hown.out (by simp)
   have hI1:eG wr (.slice (some ⟨g1,0,none⟩) 3 c1) [y,x,z]:=⟨_,_,rfl,hown.out.ints (by simp)⟩
   have kx:=hblk.cell (j:=0) rfl
   have hne:g1≠g:=by omega
   have hFr:=hF.below hbel.out
   have hset:=aA (hFr.setLast hI1 (by simp only[bJ,ne_eq,Option.some.injEq];omega) (fun u hu=>by
    simp only[List.mem_cons,List.not_mem_nil,or_false]at hu
    rcases hu with rfl|rfl|rfl<;>omega))
   have hon:=aA (((Only.refl (·=g) w).below hbel.out).setCell ⟨g,15,none⟩ (.slice (some ⟨g1,0,none⟩) 3 c1) (fun _=>rfl))
   go_wp2_with fail
   go_ret
   unfold lF
   rw[hbk.out]
   refine⟨rfl,hset.out,hon.out,fun b hb hf=>?_⟩
   obtain⟨_,vc,v0,v1,v2,vl,hB,_⟩:=hFr
   exact(hf.below hbel.out hgl).put hB 15 _ (by simp[lives];omega)
theorem aeC(g:Nat)(f:RD.Fr)(x y z:Int)(w:World)(hF:aJ w g f)(hl:f.last=[x,y,z])(hb:(1<=x/\x<=65536)/\(1<=y/\y<=65536)/\(1<=z/\z<=65536)) :
  Calls prog 117 #[.pointer (some ⟨g,0,none⟩),.int .i64 2,.int .i64 0] w (lF g f (bG [x,y,z] 2 0) w):=by
 obtain⟨hgl,hfz,b,off,c,d15,hbg,hbl,e0,e1,e2⟩:=hF.wJ hl
 have hbk:Hid (bG [x,y,z] 2 0=(z,[z,x,y])):=by
  unfold Hid bG
  rfl
 obtain⟨i0,hi0,hz0',hz1,hz2⟩:=info_parts oh

 go_enter func117,ntmps117
 go_wp2_with fail
 go_loopg[8,9] 4 (fun gh v kv wr=>∃(k:Nat)(A:List Int),gh=4-k/\k<=3/\kv=.int .i64 (k:Int)/\Hid ((k=0/\A=[z])\/(k=1/\A=[z,x])\/(k=2/\A=[z,x,y])\/(k=3/\A=[z,x,y]))/\cO w.heap.size wr v A/\Below w.heap.size w wr)
 case atStart=>exact⟨0,[z],by omega,by omega,rfl,.inl ⟨rfl,rfl⟩,Bz w 3 _,(Below.refl _ _).alloc (Nat.le_refl _) _⟩
 case round =>
  obtain⟨k,A,rfl,hk,rfl,hA,hown,hbel⟩:=hrel
  have hown:=aA hown
  have hbel:=aA hbel
  have hsz:=hbel.out.size
  have k15:=(hbel.out.cell (p:=⟨g,15,none⟩) hgl).trans d15
  have k0:=(hbel.out.cell (p:=⟨b,off,none⟩) hbl).trans e0
  have k1:=(hbel.out.cell (p:=⟨b,off+1,none⟩) hbl).trans e1
  have k2:=(hbel.out.cell (p:=⟨b,off+2,none⟩) hbl).trans e2
  have kf:=(hbel.out.frozen (p:=⟨g,15,none⟩) hgl).trans hfz
  rcases hA.out with⟨rfl,rfl⟩|⟨rfl,rfl⟩|⟨rfl,rfl⟩|⟨rfl,rfl⟩
  ·go_wp2_with(at_builtin;refine wpList_append_own _ rfl _ _ 27 rfl w.heap.size 3 i0 _ 1 8 underlying27 hi0 hz0' hz1 hz2 rfl (by decide) _ _ _ rfl (World.ownsRow.alloc hown.out _) ⟨wr.heap.size,0,none⟩ 1 1 [.int .i64 x] rfl rfl (jA _ _ _) (one_one _) (by unfold maxLen;simp) (by simp) (by simp;omega) ?_)
   intro v1 w1 hown1 hgrow _
   have dh:Below w.heap.size w w1:=(hbel.out.alloc hbel.out.size _).grown hgrow (by simp;omega) (fun k hk=>(World.ownsRow.lt hown.out k hk).1)
   have dS:Hid (cO w.heap.size w1 v1 [z,x]):=hown1
   clear hown1 hgrow
   go_wp2
   go_roundg 3
   case rel=>exact⟨1,[z,x],by omega,by omega,rfl,(.inr (.inl ⟨rfl,rfl⟩)),dS.out,dh⟩
   case measure=>omega
  ·go_wp2_with(at_builtin;refine wpList_append_own _ rfl _ _ 27 rfl w.heap.size 3 i0 _ 1 8 underlying27 hi0 hz0' hz1 hz2 rfl (by decide) _ _ _ rfl (World.ownsRow.alloc hown.out _) ⟨wr.heap.size,0,none⟩ 1 1 [.int .i64 y] rfl rfl (jA _ _ _) (one_one _) (by unfold maxLen;simp) (by simp) (by simp;omega) ?_)
   intro v1 w1 hown1 hgrow _
   have dh:Below w.heap.size w w1:=(hbel.out.alloc hbel.out.size _).grown hgrow (by simp;omega) (fun k hk=>(World.ownsRow.lt hown.out k hk).1)
   have dS:Hid (cO w.heap.size w1 v1 [z,x,y]):=hown1
   clear hown1 hgrow
   go_wp2
   go_roundg 2
   case rel=>exact⟨2,[z,x,y],by omega,by omega,rfl,(.inr (.inr (.inl ⟨rfl,rfl⟩))),dS.out,dh⟩
   case measure=>omega
  ·go_wp2_with fail
   go_roundg 1
   case rel=>exact⟨3,[z,x,y],by omega,by omega,rfl,(.inr (.inr (.inr ⟨rfl,rfl⟩))),hown.out,hbel.out⟩
   case measure=>omega
  ·obtain⟨g1,c1,rest,rfl,hg1,hblk,_,_,_⟩:=mY hown.out (by simp)
   have hI1:eG wr (.slice (some ⟨g1,0,none⟩) 3 c1) [z,x,y]:=⟨_,_,rfl,hown.out.ints (by simp)⟩
   have kx:=hblk.cell (j:=0) rfl
   have hne:g1≠g:=by omega
   have hFr:=hF.below hbel.out
   have hset:=aA (hFr.setLast hI1 (by simp only[bJ,ne_eq,Option.some.injEq];omega) (fun u hu=>by
    simp only[List.mem_cons,List.not_mem_nil,or_false]at hu
    rcases hu with rfl|rfl|rfl<;>omega))
   have hon:=aA (((Only.refl (·=g) w).below hbel.out).setCell ⟨g,15,none⟩ (.slice (some ⟨g1,0,none⟩) 3 c1) (fun _=>rfl))
   go_wp2_with fail
   go_ret
   unfold lF
   rw[hbk.out]
   refine⟨rfl,hset.out,hon.out,fun b hb hf=>?_⟩
   obtain⟨_,vc,v0,v1,v2,vl,hB,_⟩:=hFr
   exact(hf.below hbel.out hgl).put hB 15 _ (by simp[lives];omega)
theorem aeD(g:Nat)(f:RD.Fr)(x y z:Int)(v length:Int)(w:World)(hF:aJ w g f)(hl:f.last=[x,y,z])(hb:(1<=x/\x<=65536)/\(1<=y/\y<=65536)/\(1<=z/\z<=65536))(hv:1<=v/\v<=65536)(hlen:0<=length/\length<=1048576) :
  Calls prog 117 #[.pointer (some ⟨g,0,none⟩),.int .i64 v,.int .i64 length] w (lF g f (bG [x,y,z] v length) w):=by
 by_cases h3:3<v
 ·exact aew g f x y z v length w hF hl hb h3 hv.2 hlen
 ·by_cases h0:length=0
  ·subst h0
   rcases(by omega:v=1\/v=2\/v=3)with rfl|rfl|rfl
   ·exact aeB g f x y z w hF hl hb
   ·exact aeC g f x y z w hF hl hb
   ·exact aex g f x y z w hF hl hb
  ·rcases(by omega:v=1\/v=2\/v=3)with rfl|rfl|rfl
   ·exact aey g f x y z length w hF hl hb (by omega)
   ·exact aez g f x y z length w hF hl hb (by omega)
   ·exact aeA g f x y z length w hF hl hb (by omega)
end Go.Proofs.YtbhemchnjpajiaaGreatDoor
