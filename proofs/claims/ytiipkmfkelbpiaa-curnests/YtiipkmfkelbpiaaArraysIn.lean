/-
  Arrays of two that came in: of slices of bytes, of ints. No statement of the seat is proved here.
-/
import Derived.Test.YtiipkmfkelbpiaaRowIn
namespace Go.Proofs.Ytiipkmfkelbpiaa
open Go.RowKit Go.ChangeShapes Go.WideShapes Go.ChangeAt

theorem agg_two {v : Value} (h : v.cells.toList.length = 2) : ∃ a b, v = .agg #[a, b] := by
  cases v with
  | agg cs =>
    obtain ⟨l⟩ := cs
    simp only [Value.cells] at h
    match l, h with
    | [a, b], _ => exact ⟨a, b, rfl⟩
  | _ => simp [Value.cells] at h

section
variable {H : Type} {enc : TypeId × Value → H} {w : World}
theorem cells2b : Try.prog.cellsOf 58 = 2 := by kernel_rfl
theorem cells2i : Try.prog.cellsOf 59 = 2 := by kernel_rfl
theorem cellsSl : Try.prog.cellsOf 22 = 1 := by kernel_rfl
theorem cellsIn : Try.prog.cellsOf 3 = 1 := by kernel_rfl

theorem slice_of_trod {n : Nat} {v : Value} {x : DataW H × List MemPlace} (h : DataW.trod enc Try.prog w 0 (fun _ => true) true n 22 [v] = some x) : ∃ a len cap, v = .slice a len cap := by
  rcases open_ints Try.underlying22 Try.underlying5 (by kernel_rfl) h with ⟨hcs, _⟩ | ⟨y, l, c, zs, hcs, _⟩
  · simp at hcs
    exact ⟨_, _, _, hcs⟩
  · simp at hcs
    exact ⟨_, _, _, hcs⟩

theorem arr2bytes_in {r : Reach} {b0 : Nat} {v : Value} {d : DataW H} {p : List MemPlace} (_hv : Value.okWide Try.prog w r b0 58 v) (h : DataW.Trod enc Try.prog w 0 (fun _ => true) true 58 v d p) :
    ∃ a l c a' l' c', v = .agg #[.slice a l c, .slice a' l' c'] ∧ (∃ bs : List Int, bs.length = l ∧ Lies w a (by8 bs) ∧ (∀ z ∈ bs, 0 ≤ z ∧ z < 256) ∧ (a = none → c = 0) ∧ l ≤ maxLen) ∧
      (∃ bs : List Int, bs.length = l' ∧ Lies w a' (by8 bs) ∧ (∀ z ∈ bs, 0 ≤ z ∧ z < 256) ∧ (a' = none → c' = 0) ∧ l' ≤ maxLen) := by
  obtain ⟨fuel, hf⟩ := h
  obtain ⟨xs, m, _, _, hlen, hxl, hg⟩ := DataW.trod_array Try.underlying58 hf
  obtain ⟨u0, u1, rfl⟩ := agg_two (hlen.trans cells2b)
  have g0 := hg 0 (by omega)
  have g1 := hg 1 (by omega)
  match xs, hxl with
  | [y0, y1], _ =>
    simp [cellsSl, Value.cells] at g0 g1
    obtain ⟨a, l, c, rfl⟩ := slice_of_trod g0
    obtain ⟨a', l', c', rfl⟩ := slice_of_trod g1
    exact ⟨a, l, c, a', l', c', rfl, bytes_in ⟨m, by simpa [Value.cells] using g0⟩, bytes_in ⟨m, by simpa [Value.cells] using g1⟩⟩

theorem arr2ints_in {r : Reach} {b0 : Nat} {v : Value} {d : DataW H} {p : List MemPlace} (_hv : Value.okWide Try.prog w r b0 59 v) (h : DataW.Trod enc Try.prog w 0 (fun _ => true) true 59 v d p) :
    ∃ x y, v = .agg #[.int .i64 x, .int .i64 y] ∧ (Lit.int .i64 x).wf = true ∧ (Lit.int .i64 y).wf = true := by
  obtain ⟨fuel, hf⟩ := h
  obtain ⟨xs, m, _, _, hlen, hxl, hg⟩ := DataW.trod_array Try.underlying59 hf
  obtain ⟨u0, u1, rfl⟩ := agg_two (hlen.trans cells2i)
  have g0 := hg 0 (by omega)
  have g1 := hg 1 (by omega)
  match xs, hxl with
  | [y0, y1], _ =>
    simp [cellsIn, Value.cells] at g0 g1
    obtain ⟨x, e0, _, wx⟩ := DataW.trod_int Try.underlying3 g0
    obtain ⟨y, e1, _, wy⟩ := DataW.trod_int Try.underlying3 g1
    simp at e0 e1
    subst e0 e1
    exact ⟨x, y, rfl, wx, wy⟩
end
end Go.Proofs.Ytiipkmfkelbpiaa
