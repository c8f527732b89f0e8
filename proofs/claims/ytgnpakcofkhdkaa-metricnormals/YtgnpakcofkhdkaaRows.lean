/-
  No cell of these rows narrows 'for every input' (looked for: loops, veiled, ifaces, maps, wideKeys, modest, calm, conditions, laid).
  DERIVED. THE GIVEN ROWS OF THIS SEAT. 6 by the template 'for every input the law returns true; each argument reads behind the call as it read before'; 0 by the template 'total and deterministic' (their statements: YtgnpakcofkhdkaaTotals.lean).
  GIVEN WITH THE SEED: the statements are not yours to turn. If you find one false, say at which input.
  Laid BY PROGRAM, IN A SANDBOX (cutbox-rows.mjs): the forced cells as the released guide's own fill.sh prints them over the translation 2a44323de76c753e… (all of the seat's roots in one cut). By AI agents, Wed Nov 11 2026. No macro, syntax, notation, axiom, sorry.
-/
import Derived.Test.YtgnpakcofkhdkaaChecked
import GoSem.Claim
import GoSem.ClaimJoined
import GoSem.ClaimMapViews
import Derived.JoinedTies
import Derived.KernelRfl
namespace Go.Proofs.Ytgnpakcofkhdkaa
/- THE CELL 'sum', in the pinned program and in every row, IS THE sha256 OF THE DUMP (.gsa) THAT YtgnpakcofkhdkaaProg.lean LOADS. Nothing in Lean hashes anything: it is a label: what it is worth is what the hold of that sum in a sandbox is worth. -/
noncomputable def Try.pinned : Pinned := { name := "ytgnpakcofkhdkaa", sum := "2a44323de76c753e831c7df983b6332ea63a7597eb291df11f9eb27b1521d316", checked := Try.checked }
namespace Rows
def none {H : Type} : Left H := { results := [], args := [] }

/-- 'forebaylaw07.MetricChecks': WHATEVER THE INPUT: true; the input reads as it did. -/
def metricChecksSpec : ChangeSpec := { name := "metricChecks", fn := fun _ => fun
  | [d] => { results := [.lit (.bool true)], args := [d] }
  | _ => none }
def metricChecksRow : OpenClaim := { program := "ytgnpakcofkhdkaa", sum := "2a44323de76c753e831c7df983b6332ea63a7597eb291df11f9eb27b1521d316", func := "forebay/forebaylaw07.MetricChecks", spec := "metricChecks", unfollowed := true, recurses := true, apart := false }
def MetricChecksSaid : Prop := metricChecksRow.holds Try.pinned (OpenSpec.ofChange metricChecksSpec)

/-- ITS FALSE NEIGHBOUR: 'it returns false'. Refute it at one input. -/
def metricChecksWrong : ChangeSpec := { name := "metricChecks", fn := fun _ => fun
  | [d] => { results := [.lit (.bool false)], args := [d] }
  | _ => none }
def MetricChecksWrongFalsely : Prop := metricChecksRow.holds Try.pinned (OpenSpec.ofChange metricChecksWrong)

/-- 'forebaylaw07.MetricNormals': WHATEVER THE INPUT: true; the input reads as it did. -/
def metricNormalsSpec : ChangeSpec := { name := "metricNormals", fn := fun _ => fun
  | [d] => { results := [.lit (.bool true)], args := [d] }
  | _ => none }
def metricNormalsRow : OpenClaim := { program := "ytgnpakcofkhdkaa", sum := "2a44323de76c753e831c7df983b6332ea63a7597eb291df11f9eb27b1521d316", func := "forebay/forebaylaw07.MetricNormals", spec := "metricNormals", unfollowed := true, recurses := true, apart := false }
def MetricNormalsSaid : Prop := metricNormalsRow.holds Try.pinned (OpenSpec.ofChange metricNormalsSpec)

/-- ITS FALSE NEIGHBOUR: 'it returns false'. Refute it at one input. -/
def metricNormalsWrong : ChangeSpec := { name := "metricNormals", fn := fun _ => fun
  | [d] => { results := [.lit (.bool false)], args := [d] }
  | _ => none }
def MetricNormalsWrongFalsely : Prop := metricNormalsRow.holds Try.pinned (OpenSpec.ofChange metricNormalsWrong)

/-- 'forebaylaw07.MetricEquals': WHATEVER THE INPUT: true; the input reads as it did. -/
def metricEqualsSpec : ChangeSpec := { name := "metricEquals", fn := fun _ => fun
  | [d1, d2] => { results := [.lit (.bool true)], args := [d1, d2] }
  | _ => none }
def metricEqualsRow : OpenClaim := { program := "ytgnpakcofkhdkaa", sum := "2a44323de76c753e831c7df983b6332ea63a7597eb291df11f9eb27b1521d316", func := "forebay/forebaylaw07.MetricEquals", spec := "metricEquals", unfollowed := true, recurses := true, apart := false }
def MetricEqualsSaid : Prop := metricEqualsRow.holds Try.pinned (OpenSpec.ofChange metricEqualsSpec)

/-- ITS FALSE NEIGHBOUR: 'it returns false'. Refute it at one input. -/
def metricEqualsWrong : ChangeSpec := { name := "metricEquals", fn := fun _ => fun
  | [d1, d2] => { results := [.lit (.bool false)], args := [d1, d2] }
  | _ => none }
def MetricEqualsWrongFalsely : Prop := metricEqualsRow.holds Try.pinned (OpenSpec.ofChange metricEqualsWrong)

/-- 'forebaylaw07.MetricOnce': WHATEVER THE INPUT: true; the input reads as it did. -/
def metricOnceSpec : ChangeSpec := { name := "metricOnce", fn := fun _ => fun
  | [d] => { results := [.lit (.bool true)], args := [d] }
  | _ => none }
def metricOnceRow : OpenClaim := { program := "ytgnpakcofkhdkaa", sum := "2a44323de76c753e831c7df983b6332ea63a7597eb291df11f9eb27b1521d316", func := "forebay/forebaylaw07.MetricOnce", spec := "metricOnce", unfollowed := true, recurses := true, apart := false }
def MetricOnceSaid : Prop := metricOnceRow.holds Try.pinned (OpenSpec.ofChange metricOnceSpec)

/-- ITS FALSE NEIGHBOUR: 'it returns false'. Refute it at one input. -/
def metricOnceWrong : ChangeSpec := { name := "metricOnce", fn := fun _ => fun
  | [d] => { results := [.lit (.bool false)], args := [d] }
  | _ => none }
def MetricOnceWrongFalsely : Prop := metricOnceRow.holds Try.pinned (OpenSpec.ofChange metricOnceWrong)

/-- 'forebaylaw07.MetricTags': WHATEVER THE INPUT: true; the input reads as it did. -/
def metricTagsSpec : ChangeSpec := { name := "metricTags", fn := fun _ => fun
  | [d1, d2, d3] => { results := [.lit (.bool true)], args := [d1, d2, d3] }
  | _ => none }
def metricTagsRow : OpenClaim := { program := "ytgnpakcofkhdkaa", sum := "2a44323de76c753e831c7df983b6332ea63a7597eb291df11f9eb27b1521d316", func := "forebay/forebaylaw07.MetricTags", spec := "metricTags", unfollowed := true, recurses := true, apart := false }
def MetricTagsSaid : Prop := metricTagsRow.holds Try.pinned (OpenSpec.ofChange metricTagsSpec)

/-- ITS FALSE NEIGHBOUR: 'it returns false'. Refute it at one input. -/
def metricTagsWrong : ChangeSpec := { name := "metricTags", fn := fun _ => fun
  | [d1, d2, d3] => { results := [.lit (.bool false)], args := [d1, d2, d3] }
  | _ => none }
def MetricTagsWrongFalsely : Prop := metricTagsRow.holds Try.pinned (OpenSpec.ofChange metricTagsWrong)

/-- 'forebaylaw07.MetricSplits': WHATEVER THE INPUT: true; the input reads as it did. -/
def metricSplitsSpec : ChangeSpec := { name := "metricSplits", fn := fun _ => fun
  | [d] => { results := [.lit (.bool true)], args := [d] }
  | _ => none }
def metricSplitsRow : OpenClaim := { program := "ytgnpakcofkhdkaa", sum := "2a44323de76c753e831c7df983b6332ea63a7597eb291df11f9eb27b1521d316", func := "forebay/forebaylaw07.MetricSplits", spec := "metricSplits", unfollowed := true, recurses := true, apart := false }
def MetricSplitsSaid : Prop := metricSplitsRow.holds Try.pinned (OpenSpec.ofChange metricSplitsSpec)

/-- ITS FALSE NEIGHBOUR: 'it returns false'. Refute it at one input. -/
def metricSplitsWrong : ChangeSpec := { name := "metricSplits", fn := fun _ => fun
  | [d] => { results := [.lit (.bool false)], args := [d] }
  | _ => none }
def MetricSplitsWrongFalsely : Prop := metricSplitsRow.holds Try.pinned (OpenSpec.ofChange metricSplitsWrong)

/- THE SECOND FORM. 'bulk': how many values and letters a reading holds, each counted each time it is reached (what is shared counts as often as it is met; a slice's spare places count too). A statement '..UptoSaid' is the law's where the arguments, and the package variables that the reading takes, are together of bulk at most 1048576: NARROWER than '..Said'. Prove '..Said' where nothing that the law and all that it calls make is longer than what came in: it says more and counts as full. Else prove '..UptoSaid'. A law counts once. -/
mutual
def uptoBulk {H : Type} : DataW H → Nat
  | .lit (.string bytes) => bytes.length + 1
  | .lit _ => 1
  | .nil => 1
  | .ptr d => uptoBulk d + 1
  | .slice elems spare => uptoBulkAll elems + uptoBulkAll spare + 1
  | .agg parts => uptoBulkAll parts + 1
  | .iface _ d => uptoBulk d + 1
  | .map entries => uptoBulkEntries entries + 1
  | .held _ => 1
def uptoBulkAll {H : Type} : List (DataW H) → Nat
  | [] => 0
  | d :: r => uptoBulk d + uptoBulkAll r
def uptoBulkEntries {H : Type} : List (Lit × DataW H) → Nat
  | [] => 0
  | x :: r => uptoBulkEntry x + uptoBulkEntries r
def uptoBulkEntry {H : Type} : Lit × DataW H → Nat
  | (.string bytes, d) => bytes.length + uptoBulk d + 1
  | (_, d) => uptoBulk d + 1
 end
def uptoSmall : (H : Type) → List (DataW H) → Bool := fun _ ds => decide (uptoBulkAll ds ≤ 1048576)
def OpenSpec.upto (s : _root_.Go.ChangeSpec) : _root_.Go.OpenSpec := { _root_.Go.OpenSpec.ofChange s with cond := some uptoSmall }

/-- 'forebaylaw07.MetricChecks', WHERE WHAT IT READS IS OF BULK AT MOST 1048576: true; the input reads as it did. -/
def metricChecksUptoRow : OpenClaim := { program := "ytgnpakcofkhdkaa", sum := "2a44323de76c753e831c7df983b6332ea63a7597eb291df11f9eb27b1521d316", func := "forebay/forebaylaw07.MetricChecks", spec := "metricChecks", unfollowed := true, recurses := true, apart := false, narrowed := true }
def MetricChecksUptoSaid : Prop := metricChecksUptoRow.holds Try.pinned (OpenSpec.upto metricChecksSpec)

/-- 'forebaylaw07.MetricNormals', WHERE WHAT IT READS IS OF BULK AT MOST 1048576: true; the input reads as it did. -/
def metricNormalsUptoRow : OpenClaim := { program := "ytgnpakcofkhdkaa", sum := "2a44323de76c753e831c7df983b6332ea63a7597eb291df11f9eb27b1521d316", func := "forebay/forebaylaw07.MetricNormals", spec := "metricNormals", unfollowed := true, recurses := true, apart := false, narrowed := true }
def MetricNormalsUptoSaid : Prop := metricNormalsUptoRow.holds Try.pinned (OpenSpec.upto metricNormalsSpec)

/-- 'forebaylaw07.MetricEquals', WHERE WHAT IT READS IS OF BULK AT MOST 1048576: true; the input reads as it did. -/
def metricEqualsUptoRow : OpenClaim := { program := "ytgnpakcofkhdkaa", sum := "2a44323de76c753e831c7df983b6332ea63a7597eb291df11f9eb27b1521d316", func := "forebay/forebaylaw07.MetricEquals", spec := "metricEquals", unfollowed := true, recurses := true, apart := false, narrowed := true }
def MetricEqualsUptoSaid : Prop := metricEqualsUptoRow.holds Try.pinned (OpenSpec.upto metricEqualsSpec)

/-- 'forebaylaw07.MetricOnce', WHERE WHAT IT READS IS OF BULK AT MOST 1048576: true; the input reads as it did. -/
def metricOnceUptoRow : OpenClaim := { program := "ytgnpakcofkhdkaa", sum := "2a44323de76c753e831c7df983b6332ea63a7597eb291df11f9eb27b1521d316", func := "forebay/forebaylaw07.MetricOnce", spec := "metricOnce", unfollowed := true, recurses := true, apart := false, narrowed := true }
def MetricOnceUptoSaid : Prop := metricOnceUptoRow.holds Try.pinned (OpenSpec.upto metricOnceSpec)

/-- 'forebaylaw07.MetricTags', WHERE WHAT IT READS IS OF BULK AT MOST 1048576: true; the input reads as it did. -/
def metricTagsUptoRow : OpenClaim := { program := "ytgnpakcofkhdkaa", sum := "2a44323de76c753e831c7df983b6332ea63a7597eb291df11f9eb27b1521d316", func := "forebay/forebaylaw07.MetricTags", spec := "metricTags", unfollowed := true, recurses := true, apart := false, narrowed := true }
def MetricTagsUptoSaid : Prop := metricTagsUptoRow.holds Try.pinned (OpenSpec.upto metricTagsSpec)

/-- 'forebaylaw07.MetricSplits', WHERE WHAT IT READS IS OF BULK AT MOST 1048576: true; the input reads as it did. -/
def metricSplitsUptoRow : OpenClaim := { program := "ytgnpakcofkhdkaa", sum := "2a44323de76c753e831c7df983b6332ea63a7597eb291df11f9eb27b1521d316", func := "forebay/forebaylaw07.MetricSplits", spec := "metricSplits", unfollowed := true, recurses := true, apart := false, narrowed := true }
def MetricSplitsUptoSaid : Prop := metricSplitsUptoRow.holds Try.pinned (OpenSpec.upto metricSplitsSpec)

end Rows
end Go.Proofs.Ytgnpakcofkhdkaa
