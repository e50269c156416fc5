/-
  NARROWER THAN 'FOR EVERY INPUT', by the rows' own cells (each row's printed sentence says how): Raws: laid · Kept: laid · Copies: laid · Wholes: laid · Reads: laid · Apart: laid · Pieces: laid.
  DERIVED. THE GIVEN ROWS OF THIS SEAT. 7 by the template 'for every input the law returns true; each argument reads behind the call as it read before'; 0 by the template 'total and deterministic' (their statements: YtbhemchnjpajiaaGreatDoorTotals.lean).
  GIVEN WITH THE SEED: the statements are not yours to turn. If you find one false, say at which input.
  Laid BY PROGRAM, IN A SANDBOX (cutbox-rows.mjs): the forced cells as the released guide's own fill.sh prints them over the translation 4b98a403e77fdf82… (all of the seat's roots in one cut). By AI agents, Wed Nov 11 2026. No macro, syntax, notation, axiom, sorry.
-/
import Derived.Test.YtbhemchnjpajiaaGreatDoorChecked
import GoSem.Claim
import GoSem.ClaimJoined
import GoSem.ClaimMapViews
import Derived.JoinedTies
import Derived.KernelRfl
namespace Go.Proofs.YtbhemchnjpajiaaGreatDoor
/- THE CELL 'sum', in the pinned program and in every row, IS THE sha256 OF THE DUMP (.gsa) THAT YtbhemchnjpajiaaGreatDoorProg.lean LOADS. Nothing in Lean hashes anything: it is a label: what it is worth is what the hold of that sum in a sandbox is worth. -/
noncomputable def Tryz.pinned : Pinned := { name := "ytbhemchnjpajiaagreatdoor", sum := "4b98a403e77fdf829fbb24a7883ee174ff6b01e90d69edb59faf285c63ec8103", checked := Tryz.checked }
namespace Rows
def none {H : Type} : Left H := { results := [], args := [] }

/- WHAT THE LISTED PACKAGE-LEVEL VARIABLES READ AS WHEN THE CALL BEGINS. Each datum BY PROGRAM (the guide's laid-datum.mjs) off the statement by which the dump's own 'gosem.cut.vars' lays the variable. In a bare row this is a premise. The card (YtbhemchnjpajiaaGreatDoorCards.lean) ties it to the program's text. -/
def laid_errors_errorType {H : Type} : DataW H := .iface "internal/reflectlite.rtype" (.agg [.ptr (.lit (.string [101, 114, 114, 111, 114]))])
def laid_skein_faults_End {H : Type} : DataW H := .iface "*errors.errorString" (.ptr (.agg [.lit (.string [97, 108, 108, 32, 104, 97, 115, 32, 98, 101, 101, 110, 32, 114, 101, 97, 100])]))
def laid_skein_faults_Format {H : Type} : DataW H := .iface "*errors.errorString" (.ptr (.agg [.lit (.string [98, 121, 116, 101, 115, 32, 116, 104, 97, 116, 32, 97, 114, 101, 32, 110, 111, 32, 115, 116, 114, 101, 97, 109])]))
def laid_skein_faults_Limit {H : Type} : DataW H := .iface "*errors.errorString" (.ptr (.agg [.lit (.string [97, 32, 119, 105, 110, 100, 111, 119, 32, 116, 104, 97, 116, 32, 105, 115, 32, 116, 111, 111, 32, 108, 97, 114, 103, 101])]))
def laid_skein_faults_Dict {H : Type} : DataW H := .iface "*errors.errorString" (.ptr (.agg [.lit (.string [97, 32, 100, 105, 99, 116, 105, 111, 110, 97, 114, 121, 32, 116, 104, 97, 116, 32, 105, 115, 32, 110, 111, 116, 32, 116, 104, 101, 114, 101])]))
def laid_skein_faults_Short {H : Type} : DataW H := .iface "*errors.errorString" (.ptr (.agg [.lit (.string [97, 32, 115, 116, 114, 101, 97, 109, 32, 116, 104, 97, 116, 32, 101, 110, 100, 115, 32, 116, 111, 111, 32, 115, 111, 111, 110])]))
def laid_skein_faults_Sum {H : Type} : DataW H := .iface "*errors.errorString" (.ptr (.agg [.lit (.string [97, 32, 102, 114, 97, 109, 101, 32, 119, 104, 111, 115, 101, 32, 115, 117, 109, 32, 105, 115, 32, 97, 110, 111, 116, 104, 101, 114, 32, 111, 110, 101])]))

/-- 'skeinlaw.Raws': WHATEVER THE INPUT: true; the input reads as it did. -/
def rawsSpec : ChangeSpec := { name := "raws", fn := fun _ => fun
  | [d1, d2, d3] => { results := [.lit (.bool true)], args := [d1, d2, d3] }
  | _ => none }
def rawsRow : OpenClaim := { program := "ytbhemchnjpajiaagreatdoor", sum := "4b98a403e77fdf829fbb24a7883ee174ff6b01e90d69edb59faf285c63ec8103", func := "skein/skeinlaw.Raws", spec := "raws", inPlace := ["internal/abi.NoEscape", "internal/bytealg.MakeNoZero", "internal/reflectlite.ValueOf", "(internal/reflectlite.Value).Type", "(internal/reflectlite.Value).IsNil", "internal/reflectlite.TypeOf", "(internal/reflectlite.Value).Elem", "(internal/reflectlite.Value).Set"], unfollowed := true, recurses := true, named := ["skein/faults.Format", "skein/faults.Limit", "skein/faults.Dict", "skein/faults.Sum", "skein/faults.End", "skein/faults.Short", "errors.errorType"], plainKeys := false, apart := false, laid := [("errors.errorType", laid_errors_errorType), ("skein/faults.End", laid_skein_faults_End), ("skein/faults.Format", laid_skein_faults_Format), ("skein/faults.Limit", laid_skein_faults_Limit), ("skein/faults.Dict", laid_skein_faults_Dict), ("skein/faults.Short", laid_skein_faults_Short), ("skein/faults.Sum", laid_skein_faults_Sum)] }
def RawsSaid : Prop := rawsRow.holds Tryz.pinned (OpenSpec.ofChange rawsSpec)

/-- ITS FALSE NEIGHBOUR: 'it returns false'. Refute it at one input. -/
def rawsWrong : ChangeSpec := { name := "raws", fn := fun _ => fun
  | [d1, d2, d3] => { results := [.lit (.bool false)], args := [d1, d2, d3] }
  | _ => none }
def RawsWrongFalsely : Prop := rawsRow.holds Tryz.pinned (OpenSpec.ofChange rawsWrong)

/-- 'skeinlaw.Kept': WHATEVER THE INPUT: true; the input reads as it did. -/
def keptSpec : ChangeSpec := { name := "kept", fn := fun _ => fun
  | [d1, d2, d3] => { results := [.lit (.bool true)], args := [d1, d2, d3] }
  | _ => none }
def keptRow : OpenClaim := { program := "ytbhemchnjpajiaagreatdoor", sum := "4b98a403e77fdf829fbb24a7883ee174ff6b01e90d69edb59faf285c63ec8103", func := "skein/skeinlaw.Kept", spec := "kept", inPlace := ["internal/abi.NoEscape", "internal/bytealg.MakeNoZero", "internal/reflectlite.ValueOf", "(internal/reflectlite.Value).Type", "(internal/reflectlite.Value).IsNil", "internal/reflectlite.TypeOf", "(internal/reflectlite.Value).Elem", "(internal/reflectlite.Value).Set"], unfollowed := true, recurses := true, named := ["skein/faults.Format", "skein/faults.Limit", "skein/faults.Dict", "skein/faults.Sum", "skein/faults.End", "skein/faults.Short", "errors.errorType"], plainKeys := false, apart := false, laid := [("errors.errorType", laid_errors_errorType), ("skein/faults.End", laid_skein_faults_End), ("skein/faults.Format", laid_skein_faults_Format), ("skein/faults.Limit", laid_skein_faults_Limit), ("skein/faults.Dict", laid_skein_faults_Dict), ("skein/faults.Short", laid_skein_faults_Short), ("skein/faults.Sum", laid_skein_faults_Sum)] }
def KeptSaid : Prop := keptRow.holds Tryz.pinned (OpenSpec.ofChange keptSpec)

/-- ITS FALSE NEIGHBOUR: 'it returns false'. Refute it at one input. -/
def keptWrong : ChangeSpec := { name := "kept", fn := fun _ => fun
  | [d1, d2, d3] => { results := [.lit (.bool false)], args := [d1, d2, d3] }
  | _ => none }
def KeptWrongFalsely : Prop := keptRow.holds Tryz.pinned (OpenSpec.ofChange keptWrong)

/-- 'skeinlaw.Copies': WHATEVER THE INPUT: true; the input reads as it did. -/
def copiesSpec : ChangeSpec := { name := "copies", fn := fun _ => fun
  | [d1, d2, d3, d4] => { results := [.lit (.bool true)], args := [d1, d2, d3, d4] }
  | _ => none }
def copiesRow : OpenClaim := { program := "ytbhemchnjpajiaagreatdoor", sum := "4b98a403e77fdf829fbb24a7883ee174ff6b01e90d69edb59faf285c63ec8103", func := "skein/skeinlaw.Copies", spec := "copies", inPlace := ["internal/abi.NoEscape", "internal/bytealg.MakeNoZero", "internal/reflectlite.ValueOf", "(internal/reflectlite.Value).Type", "(internal/reflectlite.Value).IsNil", "internal/reflectlite.TypeOf", "(internal/reflectlite.Value).Elem", "(internal/reflectlite.Value).Set"], unfollowed := true, recurses := true, named := ["skein/faults.Format", "skein/faults.Limit", "skein/faults.Dict", "skein/faults.Sum", "skein/faults.End", "skein/faults.Short", "errors.errorType"], plainKeys := false, apart := false, laid := [("errors.errorType", laid_errors_errorType), ("skein/faults.End", laid_skein_faults_End), ("skein/faults.Format", laid_skein_faults_Format), ("skein/faults.Limit", laid_skein_faults_Limit), ("skein/faults.Dict", laid_skein_faults_Dict), ("skein/faults.Short", laid_skein_faults_Short), ("skein/faults.Sum", laid_skein_faults_Sum)] }
def CopiesSaid : Prop := copiesRow.holds Tryz.pinned (OpenSpec.ofChange copiesSpec)

/-- ITS FALSE NEIGHBOUR: 'it returns false'. Refute it at one input. -/
def copiesWrong : ChangeSpec := { name := "copies", fn := fun _ => fun
  | [d1, d2, d3, d4] => { results := [.lit (.bool false)], args := [d1, d2, d3, d4] }
  | _ => none }
def CopiesWrongFalsely : Prop := copiesRow.holds Tryz.pinned (OpenSpec.ofChange copiesWrong)

/-- 'skeinlaw.Wholes': WHATEVER THE INPUT: true; the input reads as it did. -/
def wholesSpec : ChangeSpec := { name := "wholes", fn := fun _ => fun
  | [d1, d2] => { results := [.lit (.bool true)], args := [d1, d2] }
  | _ => none }
def wholesRow : OpenClaim := { program := "ytbhemchnjpajiaagreatdoor", sum := "4b98a403e77fdf829fbb24a7883ee174ff6b01e90d69edb59faf285c63ec8103", func := "skein/skeinlaw.Wholes", spec := "wholes", inPlace := ["internal/abi.NoEscape", "internal/bytealg.MakeNoZero", "internal/reflectlite.ValueOf", "(internal/reflectlite.Value).Type", "(internal/reflectlite.Value).IsNil", "internal/reflectlite.TypeOf", "(internal/reflectlite.Value).Elem", "(internal/reflectlite.Value).Set"], unfollowed := true, recurses := true, named := ["skein/faults.Format", "skein/faults.Limit", "skein/faults.Dict", "skein/faults.Sum", "skein/faults.End", "skein/faults.Short", "errors.errorType"], plainKeys := false, apart := false, laid := [("errors.errorType", laid_errors_errorType), ("skein/faults.End", laid_skein_faults_End), ("skein/faults.Format", laid_skein_faults_Format), ("skein/faults.Limit", laid_skein_faults_Limit), ("skein/faults.Dict", laid_skein_faults_Dict), ("skein/faults.Short", laid_skein_faults_Short), ("skein/faults.Sum", laid_skein_faults_Sum)] }
def WholesSaid : Prop := wholesRow.holds Tryz.pinned (OpenSpec.ofChange wholesSpec)

/-- ITS FALSE NEIGHBOUR: 'it returns false'. Refute it at one input. -/
def wholesWrong : ChangeSpec := { name := "wholes", fn := fun _ => fun
  | [d1, d2] => { results := [.lit (.bool false)], args := [d1, d2] }
  | _ => none }
def WholesWrongFalsely : Prop := wholesRow.holds Tryz.pinned (OpenSpec.ofChange wholesWrong)

/-- 'skeinlaw.Reads': WHATEVER THE INPUT: true; the input reads as it did. -/
def readsSpec : ChangeSpec := { name := "reads", fn := fun _ => fun
  | [d1, d2] => { results := [.lit (.bool true)], args := [d1, d2] }
  | _ => none }
def readsRow : OpenClaim := { program := "ytbhemchnjpajiaagreatdoor", sum := "4b98a403e77fdf829fbb24a7883ee174ff6b01e90d69edb59faf285c63ec8103", func := "skein/skeinlaw.Reads", spec := "reads", inPlace := ["internal/abi.NoEscape", "internal/bytealg.MakeNoZero", "internal/reflectlite.TypeOf", "internal/reflectlite.ValueOf", "(internal/reflectlite.Value).Type", "(internal/reflectlite.Value).IsNil", "(internal/reflectlite.Value).Elem", "(internal/reflectlite.Value).Set"], unfollowed := true, recurses := true, named := ["skein/faults.Format", "skein/faults.Limit", "skein/faults.Dict", "skein/faults.Sum", "skein/faults.End", "skein/faults.Short", "errors.errorType"], plainKeys := false, apart := false, laid := [("errors.errorType", laid_errors_errorType), ("skein/faults.End", laid_skein_faults_End), ("skein/faults.Format", laid_skein_faults_Format), ("skein/faults.Limit", laid_skein_faults_Limit), ("skein/faults.Dict", laid_skein_faults_Dict), ("skein/faults.Short", laid_skein_faults_Short), ("skein/faults.Sum", laid_skein_faults_Sum)] }
def ReadsSaid : Prop := readsRow.holds Tryz.pinned (OpenSpec.ofChange readsSpec)

/-- ITS FALSE NEIGHBOUR: 'it returns false'. Refute it at one input. -/
def readsWrong : ChangeSpec := { name := "reads", fn := fun _ => fun
  | [d1, d2] => { results := [.lit (.bool false)], args := [d1, d2] }
  | _ => none }
def ReadsWrongFalsely : Prop := readsRow.holds Tryz.pinned (OpenSpec.ofChange readsWrong)

/-- 'skeinlaw.Apart': WHATEVER THE INPUT: true; the input reads as it did. -/
def apartSpec : ChangeSpec := { name := "apart", fn := fun _ => fun
  | [d1, d2, d3, d4] => { results := [.lit (.bool true)], args := [d1, d2, d3, d4] }
  | _ => none }
def apartRow : OpenClaim := { program := "ytbhemchnjpajiaagreatdoor", sum := "4b98a403e77fdf829fbb24a7883ee174ff6b01e90d69edb59faf285c63ec8103", func := "skein/skeinlaw.Apart", spec := "apart", inPlace := ["internal/abi.NoEscape", "internal/bytealg.MakeNoZero", "internal/reflectlite.TypeOf", "internal/reflectlite.ValueOf", "(internal/reflectlite.Value).Type", "(internal/reflectlite.Value).IsNil", "(internal/reflectlite.Value).Elem", "(internal/reflectlite.Value).Set"], unfollowed := true, recurses := true, named := ["skein/faults.Format", "skein/faults.Limit", "skein/faults.Dict", "skein/faults.Sum", "skein/faults.End", "skein/faults.Short", "errors.errorType"], plainKeys := false, apart := false, laid := [("errors.errorType", laid_errors_errorType), ("skein/faults.End", laid_skein_faults_End), ("skein/faults.Format", laid_skein_faults_Format), ("skein/faults.Limit", laid_skein_faults_Limit), ("skein/faults.Dict", laid_skein_faults_Dict), ("skein/faults.Short", laid_skein_faults_Short), ("skein/faults.Sum", laid_skein_faults_Sum)] }
def ApartSaid : Prop := apartRow.holds Tryz.pinned (OpenSpec.ofChange apartSpec)

/-- ITS FALSE NEIGHBOUR: 'it returns false'. Refute it at one input. -/
def apartWrong : ChangeSpec := { name := "apart", fn := fun _ => fun
  | [d1, d2, d3, d4] => { results := [.lit (.bool false)], args := [d1, d2, d3, d4] }
  | _ => none }
def ApartWrongFalsely : Prop := apartRow.holds Tryz.pinned (OpenSpec.ofChange apartWrong)

/-- 'skeinlaw.Pieces': WHATEVER THE INPUT: true; the input reads as it did. -/
def piecesSpec : ChangeSpec := { name := "pieces", fn := fun _ => fun
  | [d1, d2, d3, d4] => { results := [.lit (.bool true)], args := [d1, d2, d3, d4] }
  | _ => none }
def piecesRow : OpenClaim := { program := "ytbhemchnjpajiaagreatdoor", sum := "4b98a403e77fdf829fbb24a7883ee174ff6b01e90d69edb59faf285c63ec8103", func := "skein/skeinlaw.Pieces", spec := "pieces", inPlace := ["internal/abi.NoEscape", "internal/bytealg.MakeNoZero", "internal/reflectlite.ValueOf", "(internal/reflectlite.Value).Type", "(internal/reflectlite.Value).IsNil", "internal/reflectlite.TypeOf", "(internal/reflectlite.Value).Elem", "(internal/reflectlite.Value).Set"], unfollowed := true, recurses := true, named := ["skein/faults.Format", "skein/faults.Limit", "skein/faults.Dict", "skein/faults.Sum", "skein/faults.End", "skein/faults.Short", "errors.errorType"], plainKeys := false, apart := false, laid := [("errors.errorType", laid_errors_errorType), ("skein/faults.End", laid_skein_faults_End), ("skein/faults.Format", laid_skein_faults_Format), ("skein/faults.Limit", laid_skein_faults_Limit), ("skein/faults.Dict", laid_skein_faults_Dict), ("skein/faults.Short", laid_skein_faults_Short), ("skein/faults.Sum", laid_skein_faults_Sum)] }
def PiecesSaid : Prop := piecesRow.holds Tryz.pinned (OpenSpec.ofChange piecesSpec)

/-- ITS FALSE NEIGHBOUR: 'it returns false'. Refute it at one input. -/
def piecesWrong : ChangeSpec := { name := "pieces", fn := fun _ => fun
  | [d1, d2, d3, d4] => { results := [.lit (.bool false)], args := [d1, d2, d3, d4] }
  | _ => none }
def PiecesWrongFalsely : Prop := piecesRow.holds Tryz.pinned (OpenSpec.ofChange piecesWrong)

/- THE SECOND FORM. 'bulk': how many values and letters a reading holds, each counted each time it is reached (what is shared counts as often as it is met; a slice's spare places count too). A statement '..UptoSaid' is the law's where the arguments, and the package variables that the reading takes, are together of bulk at most 1048576: NARROWER than '..Said'. Prove '..Said' where nothing that the law and all that it calls make is longer than what came in: it says more and counts as full. Else prove '..UptoSaid'. A law counts once. -/
mutual
def uptoBulk {H : Type} : DataW H → Nat
  | .lit (.string bytes) => bytes.length + 1
  | .lit _ => 1
  | .nil => 1
  | .ptr d => uptoBulk d + 1
  | .slice elems spare => uptoBulkAll elems + uptoBulkAll spare + 1
  | .agg parts => uptoBulkAll parts + 1
  | .iface _ d => uptoBulk d + 1
  | .map entries => uptoBulkEntries entries + 1
  | .held _ => 1
def uptoBulkAll {H : Type} : List (DataW H) → Nat
  | [] => 0
  | d :: r => uptoBulk d + uptoBulkAll r
def uptoBulkEntries {H : Type} : List (Lit × DataW H) → Nat
  | [] => 0
  | x :: r => uptoBulkEntry x + uptoBulkEntries r
def uptoBulkEntry {H : Type} : Lit × DataW H → Nat
  | (.string bytes, d) => bytes.length + uptoBulk d + 1
  | (_, d) => uptoBulk d + 1
 end
def uptoSmall : (H : Type) → List (DataW H) → Bool := fun _ ds => decide (uptoBulkAll ds ≤ 1048576)
def OpenSpec.upto (s : _root_.Go.ChangeSpec) : _root_.Go.OpenSpec := { _root_.Go.OpenSpec.ofChange s with cond := some uptoSmall }

/-- 'skeinlaw.Raws', WHERE WHAT IT READS IS OF BULK AT MOST 1048576: true; the input reads as it did. -/
def rawsUptoRow : OpenClaim := { program := "ytbhemchnjpajiaagreatdoor", sum := "4b98a403e77fdf829fbb24a7883ee174ff6b01e90d69edb59faf285c63ec8103", func := "skein/skeinlaw.Raws", spec := "raws", inPlace := ["internal/abi.NoEscape", "internal/bytealg.MakeNoZero", "internal/reflectlite.ValueOf", "(internal/reflectlite.Value).Type", "(internal/reflectlite.Value).IsNil", "internal/reflectlite.TypeOf", "(internal/reflectlite.Value).Elem", "(internal/reflectlite.Value).Set"], unfollowed := true, recurses := true, named := ["skein/faults.Format", "skein/faults.Limit", "skein/faults.Dict", "skein/faults.Sum", "skein/faults.End", "skein/faults.Short", "errors.errorType"], plainKeys := false, apart := false, laid := [("errors.errorType", laid_errors_errorType), ("skein/faults.End", laid_skein_faults_End), ("skein/faults.Format", laid_skein_faults_Format), ("skein/faults.Limit", laid_skein_faults_Limit), ("skein/faults.Dict", laid_skein_faults_Dict), ("skein/faults.Short", laid_skein_faults_Short), ("skein/faults.Sum", laid_skein_faults_Sum)], narrowed := true }
def RawsUptoSaid : Prop := rawsUptoRow.holds Tryz.pinned (OpenSpec.upto rawsSpec)

/-- 'skeinlaw.Kept', WHERE WHAT IT READS IS OF BULK AT MOST 1048576: true; the input reads as it did. -/
def keptUptoRow : OpenClaim := { program := "ytbhemchnjpajiaagreatdoor", sum := "4b98a403e77fdf829fbb24a7883ee174ff6b01e90d69edb59faf285c63ec8103", func := "skein/skeinlaw.Kept", spec := "kept", inPlace := ["internal/abi.NoEscape", "internal/bytealg.MakeNoZero", "internal/reflectlite.ValueOf", "(internal/reflectlite.Value).Type", "(internal/reflectlite.Value).IsNil", "internal/reflectlite.TypeOf", "(internal/reflectlite.Value).Elem", "(internal/reflectlite.Value).Set"], unfollowed := true, recurses := true, named := ["skein/faults.Format", "skein/faults.Limit", "skein/faults.Dict", "skein/faults.Sum", "skein/faults.End", "skein/faults.Short", "errors.errorType"], plainKeys := false, apart := false, laid := [("errors.errorType", laid_errors_errorType), ("skein/faults.End", laid_skein_faults_End), ("skein/faults.Format", laid_skein_faults_Format), ("skein/faults.Limit", laid_skein_faults_Limit), ("skein/faults.Dict", laid_skein_faults_Dict), ("skein/faults.Short", laid_skein_faults_Short), ("skein/faults.Sum", laid_skein_faults_Sum)], narrowed := true }
def KeptUptoSaid : Prop := keptUptoRow.holds Tryz.pinned (OpenSpec.upto keptSpec)

/-- 'skeinlaw.Copies', WHERE WHAT IT READS IS OF BULK AT MOST 1048576: true; the input reads as it did. -/
def copiesUptoRow : OpenClaim := { program := "ytbhemchnjpajiaagreatdoor", sum := "4b98a403e77fdf829fbb24a7883ee174ff6b01e90d69edb59faf285c63ec8103", func := "skein/skeinlaw.Copies", spec := "copies", inPlace := ["internal/abi.NoEscape", "internal/bytealg.MakeNoZero", "internal/reflectlite.ValueOf", "(internal/reflectlite.Value).Type", "(internal/reflectlite.Value).IsNil", "internal/reflectlite.TypeOf", "(internal/reflectlite.Value).Elem", "(internal/reflectlite.Value).Set"], unfollowed := true, recurses := true, named := ["skein/faults.Format", "skein/faults.Limit", "skein/faults.Dict", "skein/faults.Sum", "skein/faults.End", "skein/faults.Short", "errors.errorType"], plainKeys := false, apart := false, laid := [("errors.errorType", laid_errors_errorType), ("skein/faults.End", laid_skein_faults_End), ("skein/faults.Format", laid_skein_faults_Format), ("skein/faults.Limit", laid_skein_faults_Limit), ("skein/faults.Dict", laid_skein_faults_Dict), ("skein/faults.Short", laid_skein_faults_Short), ("skein/faults.Sum", laid_skein_faults_Sum)], narrowed := true }
def CopiesUptoSaid : Prop := copiesUptoRow.holds Tryz.pinned (OpenSpec.upto copiesSpec)

/-- 'skeinlaw.Wholes', WHERE WHAT IT READS IS OF BULK AT MOST 1048576: true; the input reads as it did. -/
def wholesUptoRow : OpenClaim := { program := "ytbhemchnjpajiaagreatdoor", sum := "4b98a403e77fdf829fbb24a7883ee174ff6b01e90d69edb59faf285c63ec8103", func := "skein/skeinlaw.Wholes", spec := "wholes", inPlace := ["internal/abi.NoEscape", "internal/bytealg.MakeNoZero", "internal/reflectlite.ValueOf", "(internal/reflectlite.Value).Type", "(internal/reflectlite.Value).IsNil", "internal/reflectlite.TypeOf", "(internal/reflectlite.Value).Elem", "(internal/reflectlite.Value).Set"], unfollowed := true, recurses := true, named := ["skein/faults.Format", "skein/faults.Limit", "skein/faults.Dict", "skein/faults.Sum", "skein/faults.End", "skein/faults.Short", "errors.errorType"], plainKeys := false, apart := false, laid := [("errors.errorType", laid_errors_errorType), ("skein/faults.End", laid_skein_faults_End), ("skein/faults.Format", laid_skein_faults_Format), ("skein/faults.Limit", laid_skein_faults_Limit), ("skein/faults.Dict", laid_skein_faults_Dict), ("skein/faults.Short", laid_skein_faults_Short), ("skein/faults.Sum", laid_skein_faults_Sum)], narrowed := true }
def WholesUptoSaid : Prop := wholesUptoRow.holds Tryz.pinned (OpenSpec.upto wholesSpec)

/-- 'skeinlaw.Reads', WHERE WHAT IT READS IS OF BULK AT MOST 1048576: true; the input reads as it did. -/
def readsUptoRow : OpenClaim := { program := "ytbhemchnjpajiaagreatdoor", sum := "4b98a403e77fdf829fbb24a7883ee174ff6b01e90d69edb59faf285c63ec8103", func := "skein/skeinlaw.Reads", spec := "reads", inPlace := ["internal/abi.NoEscape", "internal/bytealg.MakeNoZero", "internal/reflectlite.TypeOf", "internal/reflectlite.ValueOf", "(internal/reflectlite.Value).Type", "(internal/reflectlite.Value).IsNil", "(internal/reflectlite.Value).Elem", "(internal/reflectlite.Value).Set"], unfollowed := true, recurses := true, named := ["skein/faults.Format", "skein/faults.Limit", "skein/faults.Dict", "skein/faults.Sum", "skein/faults.End", "skein/faults.Short", "errors.errorType"], plainKeys := false, apart := false, laid := [("errors.errorType", laid_errors_errorType), ("skein/faults.End", laid_skein_faults_End), ("skein/faults.Format", laid_skein_faults_Format), ("skein/faults.Limit", laid_skein_faults_Limit), ("skein/faults.Dict", laid_skein_faults_Dict), ("skein/faults.Short", laid_skein_faults_Short), ("skein/faults.Sum", laid_skein_faults_Sum)], narrowed := true }
def ReadsUptoSaid : Prop := readsUptoRow.holds Tryz.pinned (OpenSpec.upto readsSpec)

/-- 'skeinlaw.Apart', WHERE WHAT IT READS IS OF BULK AT MOST 1048576: true; the input reads as it did. -/
def apartUptoRow : OpenClaim := { program := "ytbhemchnjpajiaagreatdoor", sum := "4b98a403e77fdf829fbb24a7883ee174ff6b01e90d69edb59faf285c63ec8103", func := "skein/skeinlaw.Apart", spec := "apart", inPlace := ["internal/abi.NoEscape", "internal/bytealg.MakeNoZero", "internal/reflectlite.TypeOf", "internal/reflectlite.ValueOf", "(internal/reflectlite.Value).Type", "(internal/reflectlite.Value).IsNil", "(internal/reflectlite.Value).Elem", "(internal/reflectlite.Value).Set"], unfollowed := true, recurses := true, named := ["skein/faults.Format", "skein/faults.Limit", "skein/faults.Dict", "skein/faults.Sum", "skein/faults.End", "skein/faults.Short", "errors.errorType"], plainKeys := false, apart := false, laid := [("errors.errorType", laid_errors_errorType), ("skein/faults.End", laid_skein_faults_End), ("skein/faults.Format", laid_skein_faults_Format), ("skein/faults.Limit", laid_skein_faults_Limit), ("skein/faults.Dict", laid_skein_faults_Dict), ("skein/faults.Short", laid_skein_faults_Short), ("skein/faults.Sum", laid_skein_faults_Sum)], narrowed := true }
def ApartUptoSaid : Prop := apartUptoRow.holds Tryz.pinned (OpenSpec.upto apartSpec)

/-- 'skeinlaw.Pieces', WHERE WHAT IT READS IS OF BULK AT MOST 1048576: true; the input reads as it did. -/
def piecesUptoRow : OpenClaim := { program := "ytbhemchnjpajiaagreatdoor", sum := "4b98a403e77fdf829fbb24a7883ee174ff6b01e90d69edb59faf285c63ec8103", func := "skein/skeinlaw.Pieces", spec := "pieces", inPlace := ["internal/abi.NoEscape", "internal/bytealg.MakeNoZero", "internal/reflectlite.ValueOf", "(internal/reflectlite.Value).Type", "(internal/reflectlite.Value).IsNil", "internal/reflectlite.TypeOf", "(internal/reflectlite.Value).Elem", "(internal/reflectlite.Value).Set"], unfollowed := true, recurses := true, named := ["skein/faults.Format", "skein/faults.Limit", "skein/faults.Dict", "skein/faults.Sum", "skein/faults.End", "skein/faults.Short", "errors.errorType"], plainKeys := false, apart := false, laid := [("errors.errorType", laid_errors_errorType), ("skein/faults.End", laid_skein_faults_End), ("skein/faults.Format", laid_skein_faults_Format), ("skein/faults.Limit", laid_skein_faults_Limit), ("skein/faults.Dict", laid_skein_faults_Dict), ("skein/faults.Short", laid_skein_faults_Short), ("skein/faults.Sum", laid_skein_faults_Sum)], narrowed := true }
def PiecesUptoSaid : Prop := piecesUptoRow.holds Tryz.pinned (OpenSpec.upto piecesSpec)

end Rows
end Go.Proofs.YtbhemchnjpajiaaGreatDoor
