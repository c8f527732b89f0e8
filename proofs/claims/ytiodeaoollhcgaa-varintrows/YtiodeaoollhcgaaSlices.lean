/-
  A slice of bytes, cut at its end. No statement of the seat is proved here.
-/
import Derived.Test.YtiodeaoollhcgaaRows1
namespace Go.Proofs.Ytiodeaoollhcgaa
open Go.RowKit

theorem cutA_zero (A : Option Addr) (cap : Nat) : cutA A cap 0 = A := by
  unfold cutA
  split
  · rfl
  · rcases A with _ | a
    · rfl
    · simp [Addr.add]

theorem run_slice_to (w : World) (A : Option Addr) (n cap m : Nat) (h : m ≤ cap) :
    (Instr.slice 23 (.slice A n cap) none (some (.int .i64 m)) none).run Try.prog w = .ok (.slice A m cap) w := by
  obtain ⟨i, hi, _⟩ := info_parts (P := Try.prog) (e := 5) (z := .int .u8 0) (size := 1) (bytes := 1) (by kernel_rfl)
  have e1 : ((m : Int)).toNat = m := by omega
  have hz := cutA_zero A cap
  unfold cutA at hz
  simp [Instr.slice, run_underlying Try.underlying23, Instr.sliceBounds, run_sliceBound, sizeOf, typeInfo, hi, (by omega : (m : Int) ≤ cap), e1, hz]

theorem Lies.front {w : World} {A : Option Addr} {bs : List Int} (h : Lies w A (by8 bs)) (j : Nat) : Lies w A (by8 (bs.take j)) := by
  intro i u hu
  have hu' : (by8 bs)[i]? = some u := by
    unfold by8 at hu ⊢
    rw [List.map_take, List.getElem?_take] at hu
    split at hu
    · exact hu
    · cases hu
  exact h i u hu'

end Go.Proofs.Ytiodeaoollhcgaa
