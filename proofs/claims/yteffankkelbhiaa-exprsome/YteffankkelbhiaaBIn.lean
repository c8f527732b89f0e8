/-
  A slice of metrics that came in. No statement of the seat is proved here.
-/
import Derived.Test.YteffankkelbhiaaMIn
import Derived.Test.YteffankkelbhiaaBRows
namespace Go.Proofs.Yteffankkelbhiaa
open Go.RowKit Go.ChangeShapes Go.WideShapes Go.ChangeAt Go.Deep
open Dc (D D0)

section
variable {H : Type} {enc : TypeId × Value → H} {w : World}
set_option maxRecDepth 100000 in
theorem metric_cells {fuel : Nat} {u0 u1 u2 u3 u4 u5 : Value} {x : DataW H × List MemPlace} (hf : DataW.trod enc Try.prog w 0 (fun _ => true) true fuel 25 [u0, u1, u2, u3, u4, u5] = some x) :
    ∃ e : En, u0 = .string e.s ∧ u1 = .int .i64 e.m.kind ∧ u2 = .slice e.A e.n e.ca ∧ u3 = .int .i64 e.m.rate ∧ u4 = .slice e.B e.k e.cb ∧ u5 = .int .i64 e.m.time ∧ MIs w e.s e.A e.n e.B e.k e.m ∧ (∀ d ∈ e.m.vals, d.Fits) ∧ e.n ≤ e.ca ∧ e.ca ≤ maxLen ∧ e.k ≤ e.cb ∧ e.cb ≤ maxLen := by
  obtain ⟨xs, mm, _, _, hlen, hxl, hg⟩ := DataW.trod_struct Try.underlying25 hf
  match xs, hxl with
  | [y0, y1, y2, y3, y4, y5], _ =>
    have g0 := hg 0 _ rfl
    have g1 := hg 1 _ rfl
    have g2 := hg 2 _ rfl
    have g3 := hg 3 _ rfl
    have g4 := hg 4 _ rfl
    have g5 := hg 5 _ rfl
    simp [cellsSt, cellsI, cellsSD, cellsSTg] at g0 g1 g2 g3 g4 g5
    obtain ⟨s, e0, _, ws⟩ := DataW.trod_string Try.underlying9 g0
    obtain ⟨x1, e1, _, w1⟩ := DataW.trod_int Try.underlying3 g1
    obtain ⟨A, n, ca, ds, e2, hl2, hd2, hf2, h21, h22⟩ := decs_cells g2
    obtain ⟨x3, e3, _, w3⟩ := DataW.trod_int Try.underlying3 g3
    obtain ⟨B, k, cb, ts, e4, hl4, ht4, h41, h42⟩ := tags_cells g4
    obtain ⟨x5, e5, _, w5⟩ := DataW.trod_int Try.underlying3 g5
    simp only [List.cons.injEq, and_true] at e0 e1 e3 e5
    exact ⟨⟨s, A, n, ca, B, k, cb, ⟨s.data.toList, x1, ds, x3, ts, x5⟩⟩, e0, e1, e2, e3, e4, e5, ⟨rfl, hl2, hd2, hl4, ht4⟩, hf2, h21, h22, h41, h42⟩

def En0 : En := ⟨⟨#[]⟩, none, 0, 0, none, 0, 0, M0⟩
theorem mets_in {a : Option Addr} {len cap : Nat} {d : DataW H} {p : List MemPlace} (h : DataW.Trod enc Try.prog w 0 (fun _ => true) true 33 (.slice a len cap) d p) :
    ∃ es : List En, es.length = len ∧ Mets w a es ∧ (∀ e ∈ es, ∀ d ∈ e.m.vals, d.Fits) ∧ len ≤ cap ∧ cap ≤ maxLen := by
  obtain ⟨fuel, hf⟩ := h
  rcases open_slice Try.underlying33 hf with ⟨hcs, _⟩ | ⟨x, len', cap', m, n, Dd, Pl, hcs, _, hl, hm, hmm, _, hi⟩
  · simp [Value.cells] at hcs
    obtain ⟨rfl, rfl, rfl⟩ := hcs
    exact ⟨[], rfl, Mets.nil, by simp, Nat.le_refl _, Nat.zero_le _⟩
  · simp [Value.cells] at hcs
    obtain ⟨rfl, rfl, rfl⟩ := hcs
    have hlm : len ≤ m := by rw [hmm]; split <;> omega
    have key : ∀ i, i < len → ∃ e : En, (∀ c u, (encM e)[c]? = some u → w.cell? ((x.add (i * 6)).add c) = some u) ∧ MIs w e.s e.A e.n e.B e.k e.m ∧ (∀ d ∈ e.m.vals, d.Fits) := by
      intro i hil
      obtain ⟨cs', hc, ht⟩ := hi i (by omega)
      rw [cellsM] at hc
      obtain ⟨_, hlen2, hat⟩ := World.cells?_some hc
      have hl2 : cs'.length = 6 := by first | exact hlen2 | (simpa using hlen2)
      match cs', hl2 with
      | [u0, u1, u2, u3, u4, u5], _ =>
        obtain ⟨e, rfl, rfl, rfl, rfl, rfl, rfl, hm1, hf1, _⟩ := metric_cells ht
        refine ⟨e, fun c u hu => ?_, hm1, hf1⟩
        have hc6 : c < 6 := (List.getElem?_eq_some_iff.1 hu).1
        have h2 := hat c (by simpa using hc6)
        have h3 : ([Value.string e.s, .int .i64 e.m.kind, .slice e.A e.n e.ca, .int .i64 e.m.rate, .slice e.B e.k e.cb, .int .i64 e.m.time] : List Value)[c]? = some u := hu
        first
          | exact h2.trans h3
          | (rw [List.getElem?_eq_getElem (by simpa using hc6)] at h3; injection h3 with h3; rw [← h3]; exact h2)
    refine ⟨(List.range len).map (fun i => if hi : i < len then (key i hi).choose else En0), by simp, ⟨?_, ?_⟩, ?_, hl, hm⟩
    have hget : ∀ i (hil : i < len), ((List.range len).map (fun i => if hi : i < len then (key i hi).choose else En0))[i]? = some (key i hil).choose := by
      intro i hil
      rw [List.getElem?_map, List.getElem?_eq_getElem (by simpa using hil)]
      simp [hil]
    · obtain ⟨b, off, spot⟩ := x
      intro i u hu
      have hil : i < len * 6 := by
        have := (List.getElem?_eq_some_iff.1 hu).1
        rw [flatM_length] at this
        simpa using this
      have hs : spot = none := by
        have := World.cell?_spot ((key 0 (by omega)).choose_spec.1 0 _ rfl)
        simpa [Addr.add] using this
      subst hs
      obtain ⟨j, c, rfl, hc⟩ : ∃ j c, i = j * 6 + c ∧ c < 6 := ⟨i / 6, i % 6, by omega, Nat.mod_lt _ (by omega)⟩
      have k0 := (key j (by omega)).choose_spec.1
      have hg := hget j (by omega)
      generalize (key j (by omega)).choose = t at k0 hg
      refine ⟨b, off, rfl, ?_⟩
      rw [flatM_get hg hc] at hu
      have := k0 c u hu
      rw [add_plain, add_plain] at this
      rw [← Nat.add_assoc]; exact this
    · intro e he
      obtain ⟨i, hi, rfl⟩ := List.mem_map.1 he
      have hil : i < len := by simpa using hi
      rw [dif_pos hil]
      exact (key i hil).choose_spec.2.1
    · intro e he
      obtain ⟨i, hi, rfl⟩ := List.mem_map.1 he
      have hil : i < len := by simpa using hi
      rw [dif_pos hil]
      exact (key i hil).choose_spec.2.2
end
end Go.Proofs.Yteffankkelbhiaa
