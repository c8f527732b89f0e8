/-
  No cell of these rows narrows 'for every input' (looked for: loops, veiled, ifaces, maps, wideKeys, modest, calm, conditions, laid).
  DERIVED. THE GIVEN ROWS OF THIS SEAT. 5 by the template 'for every input the law returns true; each argument reads behind the call as it read before'; 0 by the template 'total and deterministic' (their statements: YteffankkelbhiaaTotals.lean).
  GIVEN WITH THE SEED: the statements are not yours to turn. If you find one false, say at which input.
  Laid BY PROGRAM, IN A SANDBOX (cutbox-rows.mjs): the forced cells as the released guide's own fill.sh prints them over the translation fcdf3f1c26dfb608… (all of the seat's roots in one cut). By AI agents, Wed Nov 11 2026. No macro, syntax, notation, axiom, sorry.
-/
import Derived.Test.YteffankkelbhiaaChecked
import GoSem.Claim
import GoSem.ClaimJoined
import GoSem.ClaimMapViews
import Derived.JoinedTies
import Derived.KernelRfl
namespace Go.Proofs.Yteffankkelbhiaa
/- THE CELL 'sum', in the pinned program and in every row, IS THE sha256 OF THE DUMP (.gsa) THAT YteffankkelbhiaaProg.lean LOADS. Nothing in Lean hashes anything: it is a label: what it is worth is what the hold of that sum in a sandbox is worth. -/
noncomputable def Try.pinned : Pinned := { name := "yteffankkelbhiaa", sum := "fcdf3f1c26dfb60849b79089ae4fa1af64baf352208f8a8665492628e658f8a4", checked := Try.checked }
namespace Rows
def none {H : Type} : Left H := { results := [], args := [] }

/-- 'forebaylaw09.ExprSays': WHATEVER THE INPUT: true; the input reads as it did. -/
def exprSaysSpec : ChangeSpec := { name := "exprSays", fn := fun _ => fun
  | [d1, d2] => { results := [.lit (.bool true)], args := [d1, d2] }
  | _ => none }
def exprSaysRow : OpenClaim := { program := "yteffankkelbhiaa", sum := "fcdf3f1c26dfb60849b79089ae4fa1af64baf352208f8a8665492628e658f8a4", func := "forebay/forebaylaw09.ExprSays", spec := "exprSays", unfollowed := true, recurses := true, apart := false }
def ExprSaysSaid : Prop := exprSaysRow.holds Try.pinned (OpenSpec.ofChange exprSaysSpec)

/-- ITS FALSE NEIGHBOUR: 'it returns false'. Refute it at one input. -/
def exprSaysWrong : ChangeSpec := { name := "exprSays", fn := fun _ => fun
  | [d1, d2] => { results := [.lit (.bool false)], args := [d1, d2] }
  | _ => none }
def ExprSaysWrongFalsely : Prop := exprSaysRow.holds Try.pinned (OpenSpec.ofChange exprSaysWrong)

/-- 'forebaylaw09.ExprBatches': WHATEVER THE INPUT: true; the input reads as it did. -/
def exprBatchesSpec : ChangeSpec := { name := "exprBatches", fn := fun _ => fun
  | [d1, d2] => { results := [.lit (.bool true)], args := [d1, d2] }
  | _ => none }
def exprBatchesRow : OpenClaim := { program := "yteffankkelbhiaa", sum := "fcdf3f1c26dfb60849b79089ae4fa1af64baf352208f8a8665492628e658f8a4", func := "forebay/forebaylaw09.ExprBatches", spec := "exprBatches", unfollowed := true, recurses := true, apart := false }
def ExprBatchesSaid : Prop := exprBatchesRow.holds Try.pinned (OpenSpec.ofChange exprBatchesSpec)

/-- ITS FALSE NEIGHBOUR: 'it returns false'. Refute it at one input. -/
def exprBatchesWrong : ChangeSpec := { name := "exprBatches", fn := fun _ => fun
  | [d1, d2] => { results := [.lit (.bool false)], args := [d1, d2] }
  | _ => none }
def ExprBatchesWrongFalsely : Prop := exprBatchesRow.holds Try.pinned (OpenSpec.ofChange exprBatchesWrong)

/-- 'forebaylaw09.ExprCuts': WHATEVER THE INPUT: true; the input reads as it did. -/
def exprCutsSpec : ChangeSpec := { name := "exprCuts", fn := fun _ => fun
  | [d1, d2] => { results := [.lit (.bool true)], args := [d1, d2] }
  | _ => none }
def exprCutsRow : OpenClaim := { program := "yteffankkelbhiaa", sum := "fcdf3f1c26dfb60849b79089ae4fa1af64baf352208f8a8665492628e658f8a4", func := "forebay/forebaylaw09.ExprCuts", spec := "exprCuts", unfollowed := true, recurses := true, apart := false }
def ExprCutsSaid : Prop := exprCutsRow.holds Try.pinned (OpenSpec.ofChange exprCutsSpec)

/-- ITS FALSE NEIGHBOUR: 'it returns false'. Refute it at one input. -/
def exprCutsWrong : ChangeSpec := { name := "exprCuts", fn := fun _ => fun
  | [d1, d2] => { results := [.lit (.bool false)], args := [d1, d2] }
  | _ => none }
def ExprCutsWrongFalsely : Prop := exprCutsRow.holds Try.pinned (OpenSpec.ofChange exprCutsWrong)

/-- 'forebaylaw09.ExprItself': WHATEVER THE INPUT: true; the input reads as it did. -/
def exprItselfSpec : ChangeSpec := { name := "exprItself", fn := fun _ => fun
  | [d1, d2] => { results := [.lit (.bool true)], args := [d1, d2] }
  | _ => none }
def exprItselfRow : OpenClaim := { program := "yteffankkelbhiaa", sum := "fcdf3f1c26dfb60849b79089ae4fa1af64baf352208f8a8665492628e658f8a4", func := "forebay/forebaylaw09.ExprItself", spec := "exprItself", unfollowed := true, recurses := true, apart := false }
def ExprItselfSaid : Prop := exprItselfRow.holds Try.pinned (OpenSpec.ofChange exprItselfSpec)

/-- ITS FALSE NEIGHBOUR: 'it returns false'. Refute it at one input. -/
def exprItselfWrong : ChangeSpec := { name := "exprItself", fn := fun _ => fun
  | [d1, d2] => { results := [.lit (.bool false)], args := [d1, d2] }
  | _ => none }
def ExprItselfWrongFalsely : Prop := exprItselfRow.holds Try.pinned (OpenSpec.ofChange exprItselfWrong)

/-- 'forebaylaw09.ExprSome': WHATEVER THE INPUT: true; the input reads as it did. -/
def exprSomeSpec : ChangeSpec := { name := "exprSome", fn := fun _ => fun
  | [d1, d2] => { results := [.lit (.bool true)], args := [d1, d2] }
  | _ => none }
def exprSomeRow : OpenClaim := { program := "yteffankkelbhiaa", sum := "fcdf3f1c26dfb60849b79089ae4fa1af64baf352208f8a8665492628e658f8a4", func := "forebay/forebaylaw09.ExprSome", spec := "exprSome", unfollowed := true, recurses := true, apart := false }
def ExprSomeSaid : Prop := exprSomeRow.holds Try.pinned (OpenSpec.ofChange exprSomeSpec)

/-- ITS FALSE NEIGHBOUR: 'it returns false'. Refute it at one input. -/
def exprSomeWrong : ChangeSpec := { name := "exprSome", fn := fun _ => fun
  | [d1, d2] => { results := [.lit (.bool false)], args := [d1, d2] }
  | _ => none }
def ExprSomeWrongFalsely : Prop := exprSomeRow.holds Try.pinned (OpenSpec.ofChange exprSomeWrong)

/- THE SECOND FORM. 'bulk': how many values and letters a reading holds, each counted each time it is reached (what is shared counts as often as it is met; a slice's spare places count too). A statement '..UptoSaid' is the law's where the arguments, and the package variables that the reading takes, are together of bulk at most 1048576: NARROWER than '..Said'. Prove '..Said' where nothing that the law and all that it calls make is longer than what came in: it says more and counts as full. Else prove '..UptoSaid'. A law counts once. -/
mutual
def uptoBulk {H : Type} : DataW H → Nat
  | .lit (.string bytes) => bytes.length + 1
  | .lit _ => 1
  | .nil => 1
  | .ptr d => uptoBulk d + 1
  | .slice elems spare => uptoBulkAll elems + uptoBulkAll spare + 1
  | .agg parts => uptoBulkAll parts + 1
  | .iface _ d => uptoBulk d + 1
  | .map entries => uptoBulkEntries entries + 1
  | .held _ => 1
def uptoBulkAll {H : Type} : List (DataW H) → Nat
  | [] => 0
  | d :: r => uptoBulk d + uptoBulkAll r
def uptoBulkEntries {H : Type} : List (Lit × DataW H) → Nat
  | [] => 0
  | x :: r => uptoBulkEntry x + uptoBulkEntries r
def uptoBulkEntry {H : Type} : Lit × DataW H → Nat
  | (.string bytes, d) => bytes.length + uptoBulk d + 1
  | (_, d) => uptoBulk d + 1
 end
def uptoSmall : (H : Type) → List (DataW H) → Bool := fun _ ds => decide (uptoBulkAll ds ≤ 1048576)
def OpenSpec.upto (s : _root_.Go.ChangeSpec) : _root_.Go.OpenSpec := { _root_.Go.OpenSpec.ofChange s with cond := some uptoSmall }

/-- 'forebaylaw09.ExprSays', WHERE WHAT IT READS IS OF BULK AT MOST 1048576: true; the input reads as it did. -/
def exprSaysUptoRow : OpenClaim := { program := "yteffankkelbhiaa", sum := "fcdf3f1c26dfb60849b79089ae4fa1af64baf352208f8a8665492628e658f8a4", func := "forebay/forebaylaw09.ExprSays", spec := "exprSays", unfollowed := true, recurses := true, apart := false, narrowed := true }
def ExprSaysUptoSaid : Prop := exprSaysUptoRow.holds Try.pinned (OpenSpec.upto exprSaysSpec)

/-- 'forebaylaw09.ExprBatches', WHERE WHAT IT READS IS OF BULK AT MOST 1048576: true; the input reads as it did. -/
def exprBatchesUptoRow : OpenClaim := { program := "yteffankkelbhiaa", sum := "fcdf3f1c26dfb60849b79089ae4fa1af64baf352208f8a8665492628e658f8a4", func := "forebay/forebaylaw09.ExprBatches", spec := "exprBatches", unfollowed := true, recurses := true, apart := false, narrowed := true }
def ExprBatchesUptoSaid : Prop := exprBatchesUptoRow.holds Try.pinned (OpenSpec.upto exprBatchesSpec)

/-- 'forebaylaw09.ExprCuts', WHERE WHAT IT READS IS OF BULK AT MOST 1048576: true; the input reads as it did. -/
def exprCutsUptoRow : OpenClaim := { program := "yteffankkelbhiaa", sum := "fcdf3f1c26dfb60849b79089ae4fa1af64baf352208f8a8665492628e658f8a4", func := "forebay/forebaylaw09.ExprCuts", spec := "exprCuts", unfollowed := true, recurses := true, apart := false, narrowed := true }
def ExprCutsUptoSaid : Prop := exprCutsUptoRow.holds Try.pinned (OpenSpec.upto exprCutsSpec)

/-- 'forebaylaw09.ExprItself', WHERE WHAT IT READS IS OF BULK AT MOST 1048576: true; the input reads as it did. -/
def exprItselfUptoRow : OpenClaim := { program := "yteffankkelbhiaa", sum := "fcdf3f1c26dfb60849b79089ae4fa1af64baf352208f8a8665492628e658f8a4", func := "forebay/forebaylaw09.ExprItself", spec := "exprItself", unfollowed := true, recurses := true, apart := false, narrowed := true }
def ExprItselfUptoSaid : Prop := exprItselfUptoRow.holds Try.pinned (OpenSpec.upto exprItselfSpec)

/-- 'forebaylaw09.ExprSome', WHERE WHAT IT READS IS OF BULK AT MOST 1048576: true; the input reads as it did. -/
def exprSomeUptoRow : OpenClaim := { program := "yteffankkelbhiaa", sum := "fcdf3f1c26dfb60849b79089ae4fa1af64baf352208f8a8665492628e658f8a4", func := "forebay/forebaylaw09.ExprSome", spec := "exprSome", unfollowed := true, recurses := true, apart := false, narrowed := true }
def ExprSomeUptoSaid : Prop := exprSomeUptoRow.holds Try.pinned (OpenSpec.upto exprSomeSpec)

end Rows
end Go.Proofs.Yteffankkelbhiaa
