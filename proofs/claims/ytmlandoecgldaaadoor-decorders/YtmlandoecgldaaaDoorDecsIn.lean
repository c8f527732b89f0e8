/-
  An array of three Decs that came in. No statement of the seat is proved here.
-/
import Derived.Test.YtmlandoecgldaaaDoorLaid
namespace Go.Proofs.YtmlandoecgldaaaDoor
open Go.RowKit Go.ChangeShapes Go.WideShapes Go.ChangeAt

theorem agg_nine {v : Value} (h : v.cells.toList.length = 9) : ∃ a b c d e f g i j, v = .agg #[a, b, c, d, e, f, g, i, j] := by
  cases v with
  | agg cs =>
    obtain ⟨l⟩ := cs
    simp only [Value.cells] at h
    match l, h with
    | [a, b, c, d, e, f, g, i, j], _ => exact ⟨a, b, c, d, e, f, g, i, j, rfl⟩
  | _ => simp [Value.cells] at h

section
variable {H : Type} {enc : TypeId × Value → H} {w : World}
theorem cells3d : Tryd.prog.cellsOf 45 = 9 := by kernel_rfl
theorem cellsDec : Tryd.prog.cellsOf 24 = 3 := by kernel_rfl
theorem cellsB : Tryd.prog.cellsOf 4 = 1 := by kernel_rfl
theorem cellsU : Tryd.prog.cellsOf 22 = 1 := by kernel_rfl
theorem cellsI : Tryd.prog.cellsOf 3 = 1 := by kernel_rfl

theorem dec_cells {n : Nat} {u0 u1 u2 : Value} {x : DataW H × List MemPlace} (h : DataW.trod enc Tryd.prog w 0 (fun _ => true) true n 24 [u0, u1, u2] = some x) :
    ∃ d : D, u0 = .bool d.neg ∧ u1 = .int .u64 d.c ∧ u2 = .int .i64 d.e ∧ d.Fits := by
  obtain ⟨xs, m, _, _, hl, hxl, hf⟩ := DataW.trod_struct Tryd.underlying24 h
  match xs, hxl with
  | [y0, y1, y2], _ =>
    have g0 := hf 0 _ rfl
    have g1 := hf 1 _ rfl
    have g2 := hf 2 _ rfl
    simp [cellsB, cellsU, cellsI] at g0 g1 g2
    obtain ⟨n, e0, _⟩ := DataW.trod_bool Tryd.underlying4 g0
    obtain ⟨c, e1, _, wc⟩ := DataW.trod_int Tryd.underlying22 g1
    obtain ⟨x, e2, _, wx⟩ := DataW.trod_int Tryd.underlying3 g2
    simp only [List.cons.injEq, and_true] at e0 e1 e2
    subst e0 e1 e2
    have b1 := bounds_u64 wc
    have b2 := bounds_i64 wx
    refine ⟨⟨n, c.toNat, x⟩, rfl, by rw [show ((c.toNat : Nat) : Int) = c by omega], rfl, ?_⟩
    exact ⟨by show c.toNat < 18446744073709551616; omega, by show -9223372036854775808 ≤ x; omega, by show x ≤ 9223372036854775807; omega⟩

def d3V (a b c : D) : Value := .agg #[.bool a.neg, .int .u64 a.c, .int .i64 a.e, .bool b.neg, .int .u64 b.c, .int .i64 b.e, .bool c.neg, .int .u64 c.c, .int .i64 c.e]

theorem decs_in {r : Reach} {b0 : Nat} {v : Value} {d : DataW H} {p : List MemPlace} (_hv : Value.okWide Tryd.prog w r b0 45 v) (h : DataW.Trod enc Tryd.prog w 0 (fun _ => true) true 45 v d p) :
    ∃ a b c : D, v = d3V a b c ∧ a.Fits ∧ b.Fits ∧ c.Fits := by
  obtain ⟨fuel, hf⟩ := h
  obtain ⟨xs, m, _, _, hlen, hxl, hg⟩ := DataW.trod_array Tryd.underlying45 hf
  obtain ⟨u0, u1, u2, u3, u4, u5, u6, u7, u8, rfl⟩ := agg_nine (hlen.trans cells3d)
  have g0 := hg 0 (by omega)
  have g1 := hg 1 (by omega)
  have g2 := hg 2 (by omega)
  match xs, hxl with
  | [y0, y1, y2], _ =>
    simp [cellsDec, Value.cells] at g0 g1 g2
    obtain ⟨a, rfl, rfl, rfl, fa⟩ := dec_cells g0
    obtain ⟨b, rfl, rfl, rfl, fb⟩ := dec_cells g1
    obtain ⟨c, rfl, rfl, rfl, fc⟩ := dec_cells g2
    exact ⟨a, b, c, rfl, fa, fb, fc⟩
end
end Go.Proofs.YtmlandoecgldaaaDoor
