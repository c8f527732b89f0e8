/-
  Tags, slices and arrays of tags, and slices of ints, that came in. No statement of the seat is proved here.
-/
import Derived.Test.YtapkdghghnmhhaaTRows
import Derived.OpenShut
import Derived.ChangeMaps5
import Derived.ProofKit
import Derived.Deep.Slices
import Derived.Deep.Fields
namespace Go.Proofs.Ytapkdghghnmhhaa
open Go.RowKit Go.ChangeShapes Go.WideShapes Go.ChangeAt Go.Deep

theorem agg_two {v : Value} (h : v.cells.toList.length = 2) : ∃ a b, v = .agg #[a, b] := by
  cases v with
  | agg cs =>
    obtain ⟨l⟩ := cs
    simp only [Value.cells] at h
    match l, h with
    | [a, b], _ => exact ⟨a, b, rfl⟩
  | _ => simp [Value.cells] at h
theorem agg_six {v : Value} (h : v.cells.toList.length = 6) : ∃ a b c d e f, v = .agg #[a, b, c, d, e, f] := by
  cases v with
  | agg cs =>
    obtain ⟨l⟩ := cs
    simp only [Value.cells] at h
    match l, h with
    | [a, b, c, d, e, f], _ => exact ⟨a, b, c, d, e, f, rfl⟩
  | _ => simp [Value.cells] at h

section
variable {H : Type} {enc : TypeId × Value → H} {w : World}
theorem cellsSt : Try.prog.cellsOf 9 = 1 := by kernel_rfl
theorem cellsTag : Try.prog.cellsOf 23 = 2 := by kernel_rfl
theorem cells3T : Try.prog.cellsOf 41 = 6 := by kernel_rfl
theorem cells2S : Try.prog.cellsOf 45 = 2 := by kernel_rfl

theorem tag_cells {n : Nat} {u0 u1 : Value} {x : DataW H × List MemPlace} (h : DataW.trod enc Try.prog w 0 (fun _ => true) true n 23 [u0, u1] = some x) : ∃ s t : ByteArray, u0 = .string s ∧ u1 = .string t ∧ s.size ≤ maxLen ∧ t.size ≤ maxLen := by
  obtain ⟨xs, m, _, _, hl, hxl, hf⟩ := DataW.trod_struct Try.underlying23 h
  match xs, hxl with
  | [y0, y1], _ =>
    have g0 := hf 0 _ rfl
    have g1 := hf 1 _ rfl
    simp [cellsSt] at g0 g1
    obtain ⟨s, e0, _, ws⟩ := DataW.trod_string Try.underlying9 g0
    obtain ⟨t, e1, _, wt⟩ := DataW.trod_string Try.underlying9 g1
    simp only [List.cons.injEq, and_true] at e0 e1
    exact ⟨s, t, e0, e1, ws, wt⟩

set_option maxRecDepth 100000 in
theorem tag_in {r : Reach} {b0 : Nat} {v : Value} {d : DataW H} {p : List MemPlace} (_hv : Value.okWide Try.prog w r b0 23 v) (h : DataW.Trod enc Try.prog w 0 (fun _ => true) true 23 v d p) :
    ∃ s t : ByteArray, v = .agg #[.string s, .string t] ∧ s.size ≤ maxLen ∧ t.size ≤ maxLen := by
  obtain ⟨fuel, hf⟩ := h
  obtain ⟨xs, m, _, _, hlen, hxl, hg⟩ := DataW.trod_struct Try.underlying23 hf
  obtain ⟨u0, u1, rfl⟩ := agg_two (hlen.trans cellsTag)
  obtain ⟨s, t, rfl, rfl, ws, wt⟩ := tag_cells hf
  exact ⟨s, t, rfl, ws, wt⟩

set_option maxRecDepth 100000 in
theorem arr3tags_in {r : Reach} {b0 : Nat} {v : Value} {d : DataW H} {p : List MemPlace} (_hv : Value.okWide Try.prog w r b0 41 v) (h : DataW.Trod enc Try.prog w 0 (fun _ => true) true 41 v d p) :
    ∃ s0 t0 s1 t1 s2 t2 : ByteArray, v = .agg #[.string s0, .string t0, .string s1, .string t1, .string s2, .string t2] := by
  obtain ⟨fuel, hf⟩ := h
  obtain ⟨xs, m, _, _, hlen, hxl, hg⟩ := DataW.trod_array Try.underlying41 hf
  obtain ⟨u0, u1, u2, u3, u4, u5, rfl⟩ := agg_six (hlen.trans cells3T)
  have g0 := hg 0 (by omega)
  have g1 := hg 1 (by omega)
  have g2 := hg 2 (by omega)
  match xs, hxl with
  | [y0, y1, y2], _ =>
    simp [cellsTag, Value.cells] at g0 g1 g2
    obtain ⟨s0, t0, rfl, rfl, _⟩ := tag_cells g0
    obtain ⟨s1, t1, rfl, rfl, _⟩ := tag_cells g1
    obtain ⟨s2, t2, rfl, rfl, _⟩ := tag_cells g2
    exact ⟨s0, t0, s1, t1, s2, t2, rfl⟩

set_option maxRecDepth 100000 in
theorem arr2strs_in {r : Reach} {b0 : Nat} {v : Value} {d : DataW H} {p : List MemPlace} (_hv : Value.okWide Try.prog w r b0 45 v) (h : DataW.Trod enc Try.prog w 0 (fun _ => true) true 45 v d p) :
    ∃ s t : ByteArray, v = .agg #[.string s, .string t] ∧ s.size ≤ maxLen ∧ t.size ≤ maxLen := by
  obtain ⟨fuel, hf⟩ := h
  obtain ⟨xs, m, _, _, hlen, hxl, hg⟩ := DataW.trod_array Try.underlying45 hf
  obtain ⟨u0, u1, rfl⟩ := agg_two (hlen.trans cells2S)
  have g0 := hg 0 (by omega)
  have g1 := hg 1 (by omega)
  match xs, hxl with
  | [y0, y1], _ =>
    simp [cellsSt, Value.cells] at g0 g1
    obtain ⟨s, e0, _, ws⟩ := DataW.trod_string Try.underlying9 g0
    obtain ⟨t, e1, _, wt⟩ := DataW.trod_string Try.underlying9 g1
    simp at e0 e1
    subst e0 e1
    exact ⟨s, t, rfl, ws, wt⟩

theorem add_plain (b off i : Nat) : (⟨b, off, none⟩ : Addr).add i = ⟨b, off + i, none⟩ := by unfold Addr.add; split <;> simp_all

theorem tags_in {a : Option Addr} {len cap : Nat} {d : DataW H} {p : List MemPlace} (h : DataW.Trod enc Try.prog w 0 (fun _ => true) true 25 (.slice a len cap) d p) :
    ∃ ts : List Tg, ts.length = len ∧ Tags w a ts ∧ len ≤ cap ∧ cap ≤ maxLen := by
  obtain ⟨fuel, hf⟩ := h
  rcases open_slice Try.underlying25 hf with ⟨hcs, _⟩ | ⟨x, len', cap', m, n, D, Pl, hcs, _, hl, hm, hmm, _, hi⟩
  · simp [Value.cells] at hcs
    obtain ⟨rfl, rfl, rfl⟩ := hcs
    exact ⟨[], rfl, Tags.nil, Nat.le_refl _, Nat.zero_le _⟩
  · simp [Value.cells] at hcs
    obtain ⟨rfl, rfl, rfl⟩ := hcs
    have hlm : len ≤ m := by rw [hmm]; split <;> omega
    have key : ∀ i, i < len → ∃ t : Tg, w.cell? (x.add (i * 2)) = some (.string ⟨t.1.toArray⟩) ∧ w.cell? ((x.add (i * 2)).add 1) = some (.string ⟨t.2.toArray⟩) := by
      intro i hil
      obtain ⟨cs', hc, ht⟩ := hi i (by omega)
      rw [cellsTag] at hc
      obtain ⟨_, hlen2, hat⟩ := World.cells?_some hc
      have hl2 : cs'.length = 2 := by first | exact hlen2 | (simpa using hlen2)
      match cs', hl2 with
      | [u0, u1], _ =>
        obtain ⟨s, t, rfl, rfl, _⟩ := tag_cells ht
        refine ⟨(s.data.toList, t.data.toList), ?_, ?_⟩
        · have := hat 0 (by omega)
          simpa [Addr.add] using this
        · have := hat 1 (by omega)
          simpa using this
    refine ⟨(List.range len).map (fun i => if hi : i < len then (key i hi).choose else ([], [])), by simp, ?_, hl, hm⟩
    have hget : ∀ i (hil : i < len), ((List.range len).map (fun i => if hi : i < len then (key i hi).choose else ([], [])))[i]? = some (key i hil).choose := by
      intro i hil
      rw [List.getElem?_map, List.getElem?_eq_getElem (by simpa using hil)]
      simp [hil]
    obtain ⟨b, off, spot⟩ := x
    intro i u hu
    have hil : i < len * 2 := by
      have := (List.getElem?_eq_some_iff.1 hu).1
      rw [flat_length] at this
      simpa using this
    have hs : spot = none := by
      have := World.cell?_spot ((key 0 (by omega)).choose_spec.1)
      simpa [Addr.add] using this
    subst hs
    obtain ⟨j, c, rfl, hc⟩ : ∃ j c, i = j * 2 + c ∧ c < 2 := ⟨i / 2, i % 2, by omega, Nat.mod_lt _ (by omega)⟩
    obtain ⟨k0, k1⟩ := (key j (by omega)).choose_spec
    have hg := hget j (by omega)
    generalize (key j (by omega)).choose = t at k0 k1 hg
    refine ⟨b, off, rfl, ?_⟩
    rw [add_plain] at k0 k1
    rw [add_plain] at k1
    rcases (by omega : c = 0 ∨ c = 1) with rfl | rfl
    · rw [Nat.add_zero, flat_get0, hg] at hu
      injection hu with hu
      rw [← hu]; exact k0
    · rw [flat_get1, hg] at hu
      injection hu with hu
      rw [← hu, ← Nat.add_assoc]; exact k1
end

theorem lies_of_cells {k : IntKind} {w : World} {x : Addr} {zs : List Int} {len : Nat} (hc : ∀ i, i < zs.length → w.cell? (x.add i) = some (.int k (zs.getD i 0))) (hl : len ≤ zs.length) :
    Lies w (some x) ((zs.take len).map (.int k)) := by
  intro i u hu
  obtain ⟨b, off, spot⟩ := x
  rw [List.getElem?_map] at hu
  obtain ⟨z, hz, rfl⟩ := Option.map_eq_some_iff.1 hu
  rw [List.getElem?_take] at hz
  split at hz
  · rename_i hi
    have hiz : i < zs.length := by omega
    have h0 := hc 0 (by omega)
    have hs : spot = none := by simpa [Addr.add] using World.cell?_spot h0
    subst hs
    refine ⟨b, off, rfl, ?_⟩
    have h1 := hc i hiz
    rw [add_plain] at h1
    rw [h1, List.getD_eq_getElem?_getD, hz]
    rfl
  · cases hz
theorem ints_in {H : Type} {enc : TypeId × Value → H} {w : World} {a : Option Addr} {len cap : Nat} {d : DataW H} {p : List MemPlace} (h : DataW.Trod enc Try.prog w 0 (fun _ => true) true 43 (.slice a len cap) d p) :
    ∃ zs : List Int, zs.length = len ∧ Lies w a (zs.map (.int .i64)) ∧ (∀ z ∈ zs, (Lit.int .i64 z).wf = true) ∧ len ≤ maxLen := by
  obtain ⟨fuel, hf⟩ := h
  rcases open_ints Try.underlying43 Try.underlying3 (by kernel_rfl) hf with ⟨hcs, _⟩ | ⟨x, l, c, zs, hcs, _, hl, hm, hz, _, hcell, hwz⟩
  · simp [Value.cells] at hcs
    obtain ⟨rfl, rfl, rfl⟩ := hcs
    exact ⟨[], rfl, Lies.nil, by simp, Nat.zero_le _⟩
  · simp [Value.cells] at hcs
    obtain ⟨rfl, rfl, rfl⟩ := hcs
    have hzl : zs.length = cap := by simpa using hz
    exact ⟨zs.take len, by rw [List.length_take]; omega, lies_of_cells hcell (by omega), fun z hz' => hwz z (List.mem_of_mem_take hz'), by omega⟩
end Go.Proofs.Ytapkdghghnmhhaa
