/- What the document's Codes and States answer: said once. -/
import Derived.Test.YtbhemchnjpajiaaKit
import Derived.Test.YtbhemchnjpajiaaCodeMath
import Derived.Test.YtbhemchnjpajiaaTabMath
namespace Go.Proofs.Ytbhemchnjpajiaa
open Go.RowKit

/-- What the answer is. -/
def CodesPost (z : List Int) (w : World) (e : Ending) (w' : World) : Prop :=
  Below w.heap.size w w' ∧ ((CM.good z = false ∧ e = .returned (.tuple #[.slice none 0 0, .int .i64 4])) ∨
    (CM.good z = true ∧ ∃ v, e = .returned (.tuple #[v, .int .i64 0]) ∧ w'.ownsRow w.heap.size 47 3 v (CM.codes z).length (CM.cellsOf (CM.codes z))))

/-- What the document's States answers. -/
def StatesPost (log : Int) (z : List Int) (w : World) (e : Ending) (w' : World) : Prop :=
  Below w.heap.size w w' ∧ ((goodT log z = false ∧ e = .returned (.tuple #[.slice none 0 0, .int .i64 4])) ∨
    ∃ lg : Nat, log = (lg : Int) ∧ (lg = 5 ∨ lg = 6) ∧ TM.fillB z (2 ^ lg : Nat) = true ∧ ∃ v, e = .returned (.tuple #[v, .int .i64 0]) ∧ w'.ownsRow w.heap.size 40 3 v (2 ^ lg) (CM.cellsOf (table lg z)))

/-- The document's Codes answers so, whenever it is asked. -/
def CodesTold : Prop := ∀ (a : Option Addr) (n cap : Nat) (z : List Int) (w : World), Ints w a n z → Calls Try.prog 20 #[.slice a n cap] w (CodesPost z w)
/-- The document's States answers so, whenever it is asked. -/
def StatesTold : Prop := ∀ (log : Int) (a : Option Addr) (n cap : Nat) (z : List Int) (w : World), Ints w a n z → Calls Try.prog 11 #[.int .i64 log, .slice a n cap] w (StatesPost log z w)
end Go.Proofs.Ytbhemchnjpajiaa
