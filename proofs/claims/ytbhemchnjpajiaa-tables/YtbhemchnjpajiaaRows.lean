/-
  No cell of these rows narrows 'for every input' (looked for: loops, veiled, ifaces, maps, wideKeys, modest, calm, conditions, laid).
  DERIVED. THE GIVEN ROWS OF THIS SEAT. 5 by the template 'for every input the law returns true; each argument reads behind the call as it read before'; 0 by the template 'total and deterministic' (their statements: YtbhemchnjpajiaaTotals.lean).
  GIVEN WITH THE SEED: the statements are not yours to turn. If you find one false, say at which input.
  Laid BY PROGRAM, IN A SANDBOX (cutbox-rows.mjs): the forced cells as the released guide's own fill.sh prints them over the translation 586bf2252d4bbc17… (all of the seat's roots in one cut). By AI agents, Wed Nov 11 2026. No macro, syntax, notation, axiom, sorry.
-/
import Derived.Test.YtbhemchnjpajiaaChecked
import GoSem.Claim
import GoSem.ClaimJoined
import GoSem.ClaimMapViews
import Derived.JoinedTies
import Derived.KernelRfl
namespace Go.Proofs.Ytbhemchnjpajiaa
/- THE CELL 'sum', in the pinned program and in every row, IS THE sha256 OF THE DUMP (.gsa) THAT YtbhemchnjpajiaaProg.lean LOADS. Nothing in Lean hashes anything: it is a label: what it is worth is what the hold of that sum in a sandbox is worth. -/
noncomputable def Try.pinned : Pinned := { name := "ytbhemchnjpajiaa", sum := "586bf2252d4bbc1763423213d30a29c2daa5d63cb209221cf48716c05c3d7cf6", checked := Try.checked }
namespace Rows
def none {H : Type} : Left H := { results := [], args := [] }

/-- 'skeinlaw.Sums': WHATEVER THE INPUT: true; the input reads as it did. -/
def sumsSpec : ChangeSpec := { name := "sums", fn := fun _ => fun
  | [d] => { results := [.lit (.bool true)], args := [d] }
  | _ => none }
def sumsRow : OpenClaim := { program := "ytbhemchnjpajiaa", sum := "586bf2252d4bbc1763423213d30a29c2daa5d63cb209221cf48716c05c3d7cf6", func := "skein/skeinlaw.Sums", spec := "sums", apart := false }
def SumsSaid : Prop := sumsRow.holds Try.pinned (OpenSpec.ofChange sumsSpec)

/-- ITS FALSE NEIGHBOUR: 'it returns false'. Refute it at one input. -/
def sumsWrong : ChangeSpec := { name := "sums", fn := fun _ => fun
  | [d] => { results := [.lit (.bool false)], args := [d] }
  | _ => none }
def SumsWrongFalsely : Prop := sumsRow.holds Try.pinned (OpenSpec.ofChange sumsWrong)

/-- 'skeinlaw.Tables': WHATEVER THE INPUT: true; the input reads as it did. -/
def tablesSpec : ChangeSpec := { name := "tables", fn := fun _ => fun
  | [d1, d2] => { results := [.lit (.bool true)], args := [d1, d2] }
  | _ => none }
def tablesRow : OpenClaim := { program := "ytbhemchnjpajiaa", sum := "586bf2252d4bbc1763423213d30a29c2daa5d63cb209221cf48716c05c3d7cf6", func := "skein/skeinlaw.Tables", spec := "tables", apart := false }
def TablesSaid : Prop := tablesRow.holds Try.pinned (OpenSpec.ofChange tablesSpec)

/-- ITS FALSE NEIGHBOUR: 'it returns false'. Refute it at one input. -/
def tablesWrong : ChangeSpec := { name := "tables", fn := fun _ => fun
  | [d1, d2] => { results := [.lit (.bool false)], args := [d1, d2] }
  | _ => none }
def TablesWrongFalsely : Prop := tablesRow.holds Try.pinned (OpenSpec.ofChange tablesWrong)

/-- 'skeinlaw.Parts': WHATEVER THE INPUT: true; the input reads as it did. -/
def partsSpec : ChangeSpec := { name := "parts", fn := fun _ => fun
  | [d1, d2] => { results := [.lit (.bool true)], args := [d1, d2] }
  | _ => none }
def partsRow : OpenClaim := { program := "ytbhemchnjpajiaa", sum := "586bf2252d4bbc1763423213d30a29c2daa5d63cb209221cf48716c05c3d7cf6", func := "skein/skeinlaw.Parts", spec := "parts", apart := false }
def PartsSaid : Prop := partsRow.holds Try.pinned (OpenSpec.ofChange partsSpec)

/-- ITS FALSE NEIGHBOUR: 'it returns false'. Refute it at one input. -/
def partsWrong : ChangeSpec := { name := "parts", fn := fun _ => fun
  | [d1, d2] => { results := [.lit (.bool false)], args := [d1, d2] }
  | _ => none }
def PartsWrongFalsely : Prop := partsRow.holds Try.pinned (OpenSpec.ofChange partsWrong)

/-- 'skeinlaw.Trees': WHATEVER THE INPUT: true; the input reads as it did. -/
def treesSpec : ChangeSpec := { name := "trees", fn := fun _ => fun
  | [d] => { results := [.lit (.bool true)], args := [d] }
  | _ => none }
def treesRow : OpenClaim := { program := "ytbhemchnjpajiaa", sum := "586bf2252d4bbc1763423213d30a29c2daa5d63cb209221cf48716c05c3d7cf6", func := "skein/skeinlaw.Trees", spec := "trees", apart := false }
def TreesSaid : Prop := treesRow.holds Try.pinned (OpenSpec.ofChange treesSpec)

/-- ITS FALSE NEIGHBOUR: 'it returns false'. Refute it at one input. -/
def treesWrong : ChangeSpec := { name := "trees", fn := fun _ => fun
  | [d] => { results := [.lit (.bool false)], args := [d] }
  | _ => none }
def TreesWrongFalsely : Prop := treesRow.holds Try.pinned (OpenSpec.ofChange treesWrong)

/-- 'skeinlaw.Spans': WHATEVER THE INPUT: true; the input reads as it did. -/
def spansSpec : ChangeSpec := { name := "spans", fn := fun _ => fun
  | [d] => { results := [.lit (.bool true)], args := [d] }
  | _ => none }
def spansRow : OpenClaim := { program := "ytbhemchnjpajiaa", sum := "586bf2252d4bbc1763423213d30a29c2daa5d63cb209221cf48716c05c3d7cf6", func := "skein/skeinlaw.Spans", spec := "spans", apart := false }
def SpansSaid : Prop := spansRow.holds Try.pinned (OpenSpec.ofChange spansSpec)

/-- ITS FALSE NEIGHBOUR: 'it returns false'. Refute it at one input. -/
def spansWrong : ChangeSpec := { name := "spans", fn := fun _ => fun
  | [d] => { results := [.lit (.bool false)], args := [d] }
  | _ => none }
def SpansWrongFalsely : Prop := spansRow.holds Try.pinned (OpenSpec.ofChange spansWrong)

/- THE SECOND FORM. 'bulk': how many values and letters a reading holds, each counted each time it is reached (what is shared counts as often as it is met; a slice's spare places count too). A statement '..UptoSaid' is the law's where the arguments, and the package variables that the reading takes, are together of bulk at most 1048576: NARROWER than '..Said'. Prove '..Said' where nothing that the law and all that it calls make is longer than what came in: it says more and counts as full. Else prove '..UptoSaid'. A law counts once. -/
mutual
def uptoBulk {H : Type} : DataW H → Nat
  | .lit (.string bytes) => bytes.length + 1
  | .lit _ => 1
  | .nil => 1
  | .ptr d => uptoBulk d + 1
  | .slice elems spare => uptoBulkAll elems + uptoBulkAll spare + 1
  | .agg parts => uptoBulkAll parts + 1
  | .iface _ d => uptoBulk d + 1
  | .map entries => uptoBulkEntries entries + 1
  | .held _ => 1
def uptoBulkAll {H : Type} : List (DataW H) → Nat
  | [] => 0
  | d :: r => uptoBulk d + uptoBulkAll r
def uptoBulkEntries {H : Type} : List (Lit × DataW H) → Nat
  | [] => 0
  | x :: r => uptoBulkEntry x + uptoBulkEntries r
def uptoBulkEntry {H : Type} : Lit × DataW H → Nat
  | (.string bytes, d) => bytes.length + uptoBulk d + 1
  | (_, d) => uptoBulk d + 1
 end
def uptoSmall : (H : Type) → List (DataW H) → Bool := fun _ ds => decide (uptoBulkAll ds ≤ 1048576)
def OpenSpec.upto (s : _root_.Go.ChangeSpec) : _root_.Go.OpenSpec := { _root_.Go.OpenSpec.ofChange s with cond := some uptoSmall }

/-- 'skeinlaw.Sums', WHERE WHAT IT READS IS OF BULK AT MOST 1048576: true; the input reads as it did. -/
def sumsUptoRow : OpenClaim := { program := "ytbhemchnjpajiaa", sum := "586bf2252d4bbc1763423213d30a29c2daa5d63cb209221cf48716c05c3d7cf6", func := "skein/skeinlaw.Sums", spec := "sums", apart := false, narrowed := true }
def SumsUptoSaid : Prop := sumsUptoRow.holds Try.pinned (OpenSpec.upto sumsSpec)

/-- 'skeinlaw.Tables', WHERE WHAT IT READS IS OF BULK AT MOST 1048576: true; the input reads as it did. -/
def tablesUptoRow : OpenClaim := { program := "ytbhemchnjpajiaa", sum := "586bf2252d4bbc1763423213d30a29c2daa5d63cb209221cf48716c05c3d7cf6", func := "skein/skeinlaw.Tables", spec := "tables", apart := false, narrowed := true }
def TablesUptoSaid : Prop := tablesUptoRow.holds Try.pinned (OpenSpec.upto tablesSpec)

/-- 'skeinlaw.Parts', WHERE WHAT IT READS IS OF BULK AT MOST 1048576: true; the input reads as it did. -/
def partsUptoRow : OpenClaim := { program := "ytbhemchnjpajiaa", sum := "586bf2252d4bbc1763423213d30a29c2daa5d63cb209221cf48716c05c3d7cf6", func := "skein/skeinlaw.Parts", spec := "parts", apart := false, narrowed := true }
def PartsUptoSaid : Prop := partsUptoRow.holds Try.pinned (OpenSpec.upto partsSpec)

/-- 'skeinlaw.Trees', WHERE WHAT IT READS IS OF BULK AT MOST 1048576: true; the input reads as it did. -/
def treesUptoRow : OpenClaim := { program := "ytbhemchnjpajiaa", sum := "586bf2252d4bbc1763423213d30a29c2daa5d63cb209221cf48716c05c3d7cf6", func := "skein/skeinlaw.Trees", spec := "trees", apart := false, narrowed := true }
def TreesUptoSaid : Prop := treesUptoRow.holds Try.pinned (OpenSpec.upto treesSpec)

/-- 'skeinlaw.Spans', WHERE WHAT IT READS IS OF BULK AT MOST 1048576: true; the input reads as it did. -/
def spansUptoRow : OpenClaim := { program := "ytbhemchnjpajiaa", sum := "586bf2252d4bbc1763423213d30a29c2daa5d63cb209221cf48716c05c3d7cf6", func := "skein/skeinlaw.Spans", spec := "spans", apart := false, narrowed := true }
def SpansUptoSaid : Prop := spansUptoRow.holds Try.pinned (OpenSpec.upto spansSpec)

end Rows
end Go.Proofs.Ytbhemchnjpajiaa
