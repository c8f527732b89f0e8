/-
  Arrays of three strings that came in. No statement of the seat is proved here.
-/
import Derived.Test.YtmaiggoinjldpaaDoorMIn
namespace Go.Proofs.YtmaiggoinjldpaaDoor
open Go.RowKit Go.ChangeShapes Go.WideShapes Go.ChangeAt

section
variable {H : Type} {enc : TypeId × Value → H} {w : World}
theorem cells3S : Tryd.prog.cellsOf 39 = 3 := by kernel_rfl
theorem cells1S : Tryd.prog.cellsOf 9 = 1 := by kernel_rfl

set_option maxRecDepth 100000 in
theorem arr3strs_in {r : Reach} {b0 : Nat} {v : Value} {d : DataW H} {p : List MemPlace} (_hv : Value.okWide Tryd.prog w r b0 39 v) (h : DataW.Trod enc Tryd.prog w 0 (fun _ => true) true 39 v d p) :
    ∃ s t u : ByteArray, v = .agg #[.string s, .string t, .string u] ∧ s.size ≤ maxLen ∧ t.size ≤ maxLen ∧ u.size ≤ maxLen := by
  obtain ⟨fuel, hf⟩ := h
  obtain ⟨xs, m, _, _, hlen, hxl, hg⟩ := DataW.trod_array Tryd.underlying39 hf
  obtain ⟨u0, u1, u2, rfl⟩ := agg_threeM (hlen.trans cells3S)
  have g0 := hg 0 (by omega)
  have g1 := hg 1 (by omega)
  have g2 := hg 2 (by omega)
  match xs, hxl with
  | [y0, y1, y2], _ =>
    simp [cells1S, Value.cells] at g0 g1 g2
    obtain ⟨s, e0, _, ws⟩ := DataW.trod_string Tryd.underlying9 g0
    obtain ⟨t, e1, _, wt⟩ := DataW.trod_string Tryd.underlying9 g1
    obtain ⟨u, e2, _, wu⟩ := DataW.trod_string Tryd.underlying9 g2
    simp at e0 e1 e2
    subst e0 e1 e2
    exact ⟨s, t, u, rfl, ws, wt, wu⟩
end
end Go.Proofs.YtmaiggoinjldpaaDoor
