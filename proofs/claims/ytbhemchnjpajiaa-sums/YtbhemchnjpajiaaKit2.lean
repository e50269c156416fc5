/- Small words for the walks of the reader: a world that has turned in named blocks alone (Only); a row of cells inside a block, by its place. No condition beyond those that each row states. -/
import Derived.Test.YtbhemchnjpajiaaKit
namespace Go.Proofs.Ytbhemchnjpajiaa
open Go.RowKit

/-- Of what was there, only blocks of G have turned; the streams are as they were. -/
structure Only (G : Nat → Prop) (w w' : World) : Prop where
  os : w'.os = w.os
  tape : w'.tape = w.tape
  output : w'.output = w.output
  size : w.heap.size ≤ w'.heap.size
  block : ∀ k, k < w.heap.size → ¬ G k → w'.heap[k]? = w.heap[k]?
theorem Only.refl (G : Nat → Prop) (w : World) : Only G w w := ⟨rfl, rfl, rfl, Nat.le_refl _, fun _ _ _ => rfl⟩
theorem Only.trans {G : Nat → Prop} {a b c : World} (h : Only G a b) (k : Only G b c) : Only G a c :=
  ⟨k.os.trans h.os, k.tape.trans h.tape, k.output.trans h.output, Nat.le_trans h.size k.size, fun i hi hn => (k.block i (Nat.lt_of_lt_of_le hi h.size) hn).trans (h.block i hi hn)⟩
theorem Only.weaken {G G' : Nat → Prop} {w w' : World} (h : Only G w w') (hg : ∀ k, k < w.heap.size → G k → G' k) : Only G' w w' :=
  ⟨h.os, h.tape, h.output, h.size, fun k hk hn => h.block k hk (fun e => hn (hg k hk e))⟩
theorem Only.drewN {G : Nat → Prop} {a w : World} (h : Only G a w) (n : Nat) : Only G a (w.drewN n) := ⟨h.os, h.tape, h.output, h.size, h.block⟩
theorem Only.drew {G : Nat → Prop} {a w : World} (h : Only G a w) : Only G a w.drew := ⟨h.os, h.tape, h.output, h.size, h.block⟩
theorem Only.below {G : Nat → Prop} {a w w' : World} (h : Only G a w) (hb : Below w.heap.size w w') : Only G a w' :=
  ⟨hb.os.trans h.os, hb.tape.trans h.tape, hb.output.trans h.output, Nat.le_trans h.size hb.size, fun k hk hn => (hb.block k (Nat.lt_of_lt_of_le hk h.size)).trans (h.block k hk hn)⟩
theorem Only.alloc {G : Nat → Prop} {a w : World} (h : Only G a w) (o : Obj) : Only G a (w.alloc o) := h.below ((Below.refl _ w).alloc (Nat.le_refl _) o)
theorem Only.setCell {G : Nat → Prop} {a w : World} (h : Only G a w) (p : Addr) (v : Value) (hp : p.block < a.heap.size → G p.block) : Only G a (w.setCell p v) :=
  ⟨h.os, h.tape, h.output, by simpa using h.size,
    fun k hk hn => (Below.heap_setCell w p v k (fun e => hn (e ▸ hp (e ▸ hk)))).trans (h.block k hk hn)⟩
theorem Only.toBelow {B : Nat} {w w' : World} (h : Only (fun k => B ≤ k) w w') (hB : B ≤ w.heap.size) : Below B w w' :=
  ⟨h.os, h.tape, h.output, h.size, fun k hk => h.block k (by omega) (by omega)⟩
theorem below_undrew {w w' : World} (h : Below w.drew.heap.size w.drew w') : Below w.heap.size w w' := ⟨h.os, h.tape, h.output, h.size, h.block⟩
end Go.Proofs.Ytbhemchnjpajiaa
