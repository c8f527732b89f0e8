/-
  No cell of these rows narrows 'for every input' (looked for: loops, veiled, ifaces, maps, wideKeys, modest, calm, conditions, laid).
  DERIVED. THE GIVEN ROWS OF THIS SEAT. 6 by the template 'for every input the law returns true; each argument reads behind the call as it read before'; 0 by the template 'total and deterministic' (their statements: YtikdolgcdkmmaaaTotals.lean).
  GIVEN WITH THE SEED: the statements are not yours to turn. If you find one false, say at which input.
  Laid BY PROGRAM, IN A SANDBOX (cutbox-rows.mjs): the forced cells as the released guide's own fill.sh prints them over the translation 0a6211c5cf0a8aa1… (all of the seat's roots in one cut). By AI agents, Wed Nov 11 2026. No macro, syntax, notation, axiom, sorry.
-/
import Derived.Test.YtikdolgcdkmmaaaChecked
import GoSem.Claim
import GoSem.ClaimJoined
import GoSem.ClaimMapViews
import Derived.JoinedTies
import Derived.KernelRfl
namespace Go.Proofs.Ytikdolgcdkmmaaa
/- THE CELL 'sum', in the pinned program and in every row, IS THE sha256 OF THE DUMP (.gsa) THAT YtikdolgcdkmmaaaProg.lean LOADS. Nothing in Lean hashes anything: it is a label: what it is worth is what the hold of that sum in a sandbox is worth. -/
noncomputable def Try.pinned : Pinned := { name := "ytikdolgcdkmmaaa", sum := "0a6211c5cf0a8aa15940722fed9f69f62aac922791a1e63713df84fa169d5283", checked := Try.checked }
namespace Rows
def none {H : Type} : Left H := { results := [], args := [] }

/-- 'forebaylaw07.MetricTags': WHATEVER THE INPUT: true; the input reads as it did. -/
def metricTagsSpec : ChangeSpec := { name := "metricTags", fn := fun _ => fun
  | [d1, d2, d3] => { results := [.lit (.bool true)], args := [d1, d2, d3] }
  | _ => none }
def metricTagsRow : OpenClaim := { program := "ytikdolgcdkmmaaa", sum := "0a6211c5cf0a8aa15940722fed9f69f62aac922791a1e63713df84fa169d5283", func := "forebay/forebaylaw07.MetricTags", spec := "metricTags", unfollowed := true, recurses := true, apart := false }
def MetricTagsSaid : Prop := metricTagsRow.holds Try.pinned (OpenSpec.ofChange metricTagsSpec)

/-- ITS FALSE NEIGHBOUR: 'it returns false'. Refute it at one input. -/
def metricTagsWrong : ChangeSpec := { name := "metricTags", fn := fun _ => fun
  | [d1, d2, d3] => { results := [.lit (.bool false)], args := [d1, d2, d3] }
  | _ => none }
def MetricTagsWrongFalsely : Prop := metricTagsRow.holds Try.pinned (OpenSpec.ofChange metricTagsWrong)

/-- 'forebaylaw08.BatchChecks': WHATEVER THE INPUT: true; the input reads as it did. -/
def batchChecksSpec : ChangeSpec := { name := "batchChecks", fn := fun _ => fun
  | [d] => { results := [.lit (.bool true)], args := [d] }
  | _ => none }
def batchChecksRow : OpenClaim := { program := "ytikdolgcdkmmaaa", sum := "0a6211c5cf0a8aa15940722fed9f69f62aac922791a1e63713df84fa169d5283", func := "forebay/forebaylaw08.BatchChecks", spec := "batchChecks", unfollowed := true, recurses := true, apart := false }
def BatchChecksSaid : Prop := batchChecksRow.holds Try.pinned (OpenSpec.ofChange batchChecksSpec)

/-- ITS FALSE NEIGHBOUR: 'it returns false'. Refute it at one input. -/
def batchChecksWrong : ChangeSpec := { name := "batchChecks", fn := fun _ => fun
  | [d] => { results := [.lit (.bool false)], args := [d] }
  | _ => none }
def BatchChecksWrongFalsely : Prop := batchChecksRow.holds Try.pinned (OpenSpec.ofChange batchChecksWrong)

/-- 'forebaylaw08.BatchEquals': WHATEVER THE INPUT: true; the input reads as it did. -/
def batchEqualsSpec : ChangeSpec := { name := "batchEquals", fn := fun _ => fun
  | [d1, d2] => { results := [.lit (.bool true)], args := [d1, d2] }
  | _ => none }
def batchEqualsRow : OpenClaim := { program := "ytikdolgcdkmmaaa", sum := "0a6211c5cf0a8aa15940722fed9f69f62aac922791a1e63713df84fa169d5283", func := "forebay/forebaylaw08.BatchEquals", spec := "batchEquals", unfollowed := true, recurses := true, apart := false }
def BatchEqualsSaid : Prop := batchEqualsRow.holds Try.pinned (OpenSpec.ofChange batchEqualsSpec)

/-- ITS FALSE NEIGHBOUR: 'it returns false'. Refute it at one input. -/
def batchEqualsWrong : ChangeSpec := { name := "batchEquals", fn := fun _ => fun
  | [d1, d2] => { results := [.lit (.bool false)], args := [d1, d2] }
  | _ => none }
def BatchEqualsWrongFalsely : Prop := batchEqualsRow.holds Try.pinned (OpenSpec.ofChange batchEqualsWrong)

/-- 'forebaylaw08.BatchOnce': WHATEVER THE INPUT: true; the input reads as it did. -/
def batchOnceSpec : ChangeSpec := { name := "batchOnce", fn := fun _ => fun
  | [d] => { results := [.lit (.bool true)], args := [d] }
  | _ => none }
def batchOnceRow : OpenClaim := { program := "ytikdolgcdkmmaaa", sum := "0a6211c5cf0a8aa15940722fed9f69f62aac922791a1e63713df84fa169d5283", func := "forebay/forebaylaw08.BatchOnce", spec := "batchOnce", unfollowed := true, recurses := true, apart := false }
def BatchOnceSaid : Prop := batchOnceRow.holds Try.pinned (OpenSpec.ofChange batchOnceSpec)

/-- ITS FALSE NEIGHBOUR: 'it returns false'. Refute it at one input. -/
def batchOnceWrong : ChangeSpec := { name := "batchOnce", fn := fun _ => fun
  | [d] => { results := [.lit (.bool false)], args := [d] }
  | _ => none }
def BatchOnceWrongFalsely : Prop := batchOnceRow.holds Try.pinned (OpenSpec.ofChange batchOnceWrong)

/-- 'forebaylaw08.BatchBehind': WHATEVER THE INPUT: true; the input reads as it did. -/
def batchBehindSpec : ChangeSpec := { name := "batchBehind", fn := fun _ => fun
  | [d1, d2] => { results := [.lit (.bool true)], args := [d1, d2] }
  | _ => none }
def batchBehindRow : OpenClaim := { program := "ytikdolgcdkmmaaa", sum := "0a6211c5cf0a8aa15940722fed9f69f62aac922791a1e63713df84fa169d5283", func := "forebay/forebaylaw08.BatchBehind", spec := "batchBehind", unfollowed := true, recurses := true, apart := false }
def BatchBehindSaid : Prop := batchBehindRow.holds Try.pinned (OpenSpec.ofChange batchBehindSpec)

/-- ITS FALSE NEIGHBOUR: 'it returns false'. Refute it at one input. -/
def batchBehindWrong : ChangeSpec := { name := "batchBehind", fn := fun _ => fun
  | [d1, d2] => { results := [.lit (.bool false)], args := [d1, d2] }
  | _ => none }
def BatchBehindWrongFalsely : Prop := batchBehindRow.holds Try.pinned (OpenSpec.ofChange batchBehindWrong)

/-- 'forebaylaw08.BatchLong': WHATEVER THE INPUT: true; the input reads as it did. -/
def batchLongSpec : ChangeSpec := { name := "batchLong", fn := fun _ => fun
  | [d1, d2] => { results := [.lit (.bool true)], args := [d1, d2] }
  | _ => none }
def batchLongRow : OpenClaim := { program := "ytikdolgcdkmmaaa", sum := "0a6211c5cf0a8aa15940722fed9f69f62aac922791a1e63713df84fa169d5283", func := "forebay/forebaylaw08.BatchLong", spec := "batchLong", unfollowed := true, recurses := true, apart := false }
def BatchLongSaid : Prop := batchLongRow.holds Try.pinned (OpenSpec.ofChange batchLongSpec)

/-- ITS FALSE NEIGHBOUR: 'it returns false'. Refute it at one input. -/
def batchLongWrong : ChangeSpec := { name := "batchLong", fn := fun _ => fun
  | [d1, d2] => { results := [.lit (.bool false)], args := [d1, d2] }
  | _ => none }
def BatchLongWrongFalsely : Prop := batchLongRow.holds Try.pinned (OpenSpec.ofChange batchLongWrong)

/- THE SECOND FORM. 'bulk': how many values and letters a reading holds, each counted each time it is reached (what is shared counts as often as it is met; a slice's spare places count too). A statement '..UptoSaid' is the law's where the arguments, and the package variables that the reading takes, are together of bulk at most 1048576: NARROWER than '..Said'. Prove '..Said' where nothing that the law and all that it calls make is longer than what came in: it says more and counts as full. Else prove '..UptoSaid'. A law counts once. -/
mutual
def uptoBulk {H : Type} : DataW H → Nat
  | .lit (.string bytes) => bytes.length + 1
  | .lit _ => 1
  | .nil => 1
  | .ptr d => uptoBulk d + 1
  | .slice elems spare => uptoBulkAll elems + uptoBulkAll spare + 1
  | .agg parts => uptoBulkAll parts + 1
  | .iface _ d => uptoBulk d + 1
  | .map entries => uptoBulkEntries entries + 1
  | .held _ => 1
def uptoBulkAll {H : Type} : List (DataW H) → Nat
  | [] => 0
  | d :: r => uptoBulk d + uptoBulkAll r
def uptoBulkEntries {H : Type} : List (Lit × DataW H) → Nat
  | [] => 0
  | x :: r => uptoBulkEntry x + uptoBulkEntries r
def uptoBulkEntry {H : Type} : Lit × DataW H → Nat
  | (.string bytes, d) => bytes.length + uptoBulk d + 1
  | (_, d) => uptoBulk d + 1
 end
def uptoSmall : (H : Type) → List (DataW H) → Bool := fun _ ds => decide (uptoBulkAll ds ≤ 1048576)
def OpenSpec.upto (s : _root_.Go.ChangeSpec) : _root_.Go.OpenSpec := { _root_.Go.OpenSpec.ofChange s with cond := some uptoSmall }

/-- 'forebaylaw07.MetricTags', WHERE WHAT IT READS IS OF BULK AT MOST 1048576: true; the input reads as it did. -/
def metricTagsUptoRow : OpenClaim := { program := "ytikdolgcdkmmaaa", sum := "0a6211c5cf0a8aa15940722fed9f69f62aac922791a1e63713df84fa169d5283", func := "forebay/forebaylaw07.MetricTags", spec := "metricTags", unfollowed := true, recurses := true, apart := false, narrowed := true }
def MetricTagsUptoSaid : Prop := metricTagsUptoRow.holds Try.pinned (OpenSpec.upto metricTagsSpec)

/-- 'forebaylaw08.BatchChecks', WHERE WHAT IT READS IS OF BULK AT MOST 1048576: true; the input reads as it did. -/
def batchChecksUptoRow : OpenClaim := { program := "ytikdolgcdkmmaaa", sum := "0a6211c5cf0a8aa15940722fed9f69f62aac922791a1e63713df84fa169d5283", func := "forebay/forebaylaw08.BatchChecks", spec := "batchChecks", unfollowed := true, recurses := true, apart := false, narrowed := true }
def BatchChecksUptoSaid : Prop := batchChecksUptoRow.holds Try.pinned (OpenSpec.upto batchChecksSpec)

/-- 'forebaylaw08.BatchEquals', WHERE WHAT IT READS IS OF BULK AT MOST 1048576: true; the input reads as it did. -/
def batchEqualsUptoRow : OpenClaim := { program := "ytikdolgcdkmmaaa", sum := "0a6211c5cf0a8aa15940722fed9f69f62aac922791a1e63713df84fa169d5283", func := "forebay/forebaylaw08.BatchEquals", spec := "batchEquals", unfollowed := true, recurses := true, apart := false, narrowed := true }
def BatchEqualsUptoSaid : Prop := batchEqualsUptoRow.holds Try.pinned (OpenSpec.upto batchEqualsSpec)

/-- 'forebaylaw08.BatchOnce', WHERE WHAT IT READS IS OF BULK AT MOST 1048576: true; the input reads as it did. -/
def batchOnceUptoRow : OpenClaim := { program := "ytikdolgcdkmmaaa", sum := "0a6211c5cf0a8aa15940722fed9f69f62aac922791a1e63713df84fa169d5283", func := "forebay/forebaylaw08.BatchOnce", spec := "batchOnce", unfollowed := true, recurses := true, apart := false, narrowed := true }
def BatchOnceUptoSaid : Prop := batchOnceUptoRow.holds Try.pinned (OpenSpec.upto batchOnceSpec)

/-- 'forebaylaw08.BatchBehind', WHERE WHAT IT READS IS OF BULK AT MOST 1048576: true; the input reads as it did. -/
def batchBehindUptoRow : OpenClaim := { program := "ytikdolgcdkmmaaa", sum := "0a6211c5cf0a8aa15940722fed9f69f62aac922791a1e63713df84fa169d5283", func := "forebay/forebaylaw08.BatchBehind", spec := "batchBehind", unfollowed := true, recurses := true, apart := false, narrowed := true }
def BatchBehindUptoSaid : Prop := batchBehindUptoRow.holds Try.pinned (OpenSpec.upto batchBehindSpec)

/-- 'forebaylaw08.BatchLong', WHERE WHAT IT READS IS OF BULK AT MOST 1048576: true; the input reads as it did. -/
def batchLongUptoRow : OpenClaim := { program := "ytikdolgcdkmmaaa", sum := "0a6211c5cf0a8aa15940722fed9f69f62aac922791a1e63713df84fa169d5283", func := "forebay/forebaylaw08.BatchLong", spec := "batchLong", unfollowed := true, recurses := true, apart := false, narrowed := true }
def BatchLongUptoSaid : Prop := batchLongUptoRow.holds Try.pinned (OpenSpec.upto batchLongSpec)

end Rows
end Go.Proofs.Ytikdolgcdkmmaaa
