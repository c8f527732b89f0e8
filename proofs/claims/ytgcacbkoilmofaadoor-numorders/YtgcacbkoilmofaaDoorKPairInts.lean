/-
  Arrays of two ints that came in. No statement of the seat is proved here.
-/
import Derived.Test.YtgcacbkoilmofaaDoorMem
import Derived.Test.YtgcacbkoilmofaaDoorChecked
import Derived.OpenShut
import Derived.ChangeMaps5
import Derived.ProofKit
namespace Go.Proofs.YtgcacbkoilmofaaDoor
open Go.RowKit Go.ChangeShapes Go.WideShapes Go.ChangeAt

theorem agg_two {v : Value} (h : v.cells.toList.length = 2) : ∃ a b, v = .agg #[a, b] := by
  cases v with
  | agg cs =>
    obtain ⟨l⟩ := cs
    simp only [Value.cells] at h
    match l, h with
    | [a, b], _ => exact ⟨a, b, rfl⟩
  | _ => simp [Value.cells] at h

section
variable {H : Type} {enc : TypeId × Value → H} {w : World}
theorem cells2i : Tryd.prog.cellsOf 38 = 2 := by kernel_rfl
theorem cellsIn : Tryd.prog.cellsOf 3 = 1 := by kernel_rfl
theorem arr2ints_in {r : Reach} {b0 : Nat} {v : Value} {d : DataW H} {p : List MemPlace} (_hv : Value.okWide Tryd.prog w r b0 38 v) (h : DataW.Trod enc Tryd.prog w 0 (fun _ => true) true 38 v d p) :
    ∃ x y, v = .agg #[.int .i64 x, .int .i64 y] ∧ (Lit.int .i64 x).wf = true ∧ (Lit.int .i64 y).wf = true := by
  obtain ⟨fuel, hf⟩ := h
  obtain ⟨xs, m, _, _, hlen, hxl, hg⟩ := DataW.trod_array Tryd.underlying38 hf
  obtain ⟨u0, u1, rfl⟩ := agg_two (hlen.trans cells2i)
  have g0 := hg 0 (by omega)
  have g1 := hg 1 (by omega)
  match xs, hxl with
  | [y0, y1], _ =>
    simp [cellsIn, Value.cells] at g0 g1
    obtain ⟨x, e0, _, wx⟩ := DataW.trod_int Tryd.underlying3 g0
    obtain ⟨y, e1, _, wy⟩ := DataW.trod_int Tryd.underlying3 g1
    simp at e0 e1
    subst e0 e1
    exact ⟨x, y, rfl, wx, wy⟩
end
end Go.Proofs.YtgcacbkoilmofaaDoor
