/-
  A metric that came in, and slices and arrays of ints. No statement of the seat is proved here.
-/
import Derived.Test.YtmaiggoinjldpaaDoorGrMRows
import Derived.OpenShut
import Derived.ChangeMaps5
import Derived.ProofKit
import Derived.Deep.Slices
import Derived.Deep.Fields
namespace Go.Proofs.YtmaiggoinjldpaaDoor
open Go.RowKit Go.ChangeShapes Go.WideShapes Go.ChangeAt Go.Deep
open Dc (D D0)




theorem agg_sixM {v : Value} (h : v.cells.toList.length = 6) : ∃ a b c d e f, v = .agg #[a, b, c, d, e, f] := by
  cases v with
  | agg cs =>
    obtain ⟨l⟩ := cs
    simp only [Value.cells] at h
    match l, h with
    | [a, b, c, d, e, f], _ => exact ⟨a, b, c, d, e, f, rfl⟩
  | _ => simp [Value.cells] at h

section
variable {H : Type} {enc : TypeId × Value → H} {w : World}
theorem cellsSt : Tryd.prog.cellsOf 9 = 1 := by kernel_rfl
theorem cellsTag : Tryd.prog.cellsOf 57 = 2 := by kernel_rfl
theorem cellsDec : Tryd.prog.cellsOf 42 = 3 := by kernel_rfl
theorem cellsB : Tryd.prog.cellsOf 4 = 1 := by kernel_rfl
theorem cellsU : Tryd.prog.cellsOf 40 = 1 := by kernel_rfl
theorem cellsI : Tryd.prog.cellsOf 3 = 1 := by kernel_rfl

theorem dec_cells {n : Nat} {u0 u1 u2 : Value} {x : DataW H × List MemPlace} (h : DataW.trod enc Tryd.prog w 0 (fun _ => true) true n 42 [u0, u1, u2] = some x) :
    ∃ d : D, u0 = .bool d.neg ∧ u1 = .int .u64 d.c ∧ u2 = .int .i64 d.e ∧ d.Fits := by
  obtain ⟨xs, m, _, _, hl, hxl, hf⟩ := DataW.trod_struct Tryd.underlying42 h
  match xs, hxl with
  | [y0, y1, y2], _ =>
    have g0 := hf 0 _ rfl
    have g1 := hf 1 _ rfl
    have g2 := hf 2 _ rfl
    simp [cellsB, cellsU, cellsI] at g0 g1 g2
    obtain ⟨n, e0, _⟩ := DataW.trod_bool Tryd.underlying4 g0
    obtain ⟨c, e1, _, wc⟩ := DataW.trod_int Tryd.underlying40 g1
    obtain ⟨x, e2, _, wx⟩ := DataW.trod_int Tryd.underlying3 g2
    simp only [List.cons.injEq, and_true] at e0 e1 e2
    subst e0 e1 e2
    have b1 := bounds_u64 wc
    have b2 := bounds_i64 wx
    refine ⟨⟨n, c.toNat, x⟩, rfl, by rw [show ((c.toNat : Nat) : Int) = c by omega], rfl, ?_⟩
    exact ⟨by show c.toNat < 18446744073709551616; omega, by show -9223372036854775808 ≤ x; omega, by show x ≤ 9223372036854775807; omega⟩

theorem tag_cells {n : Nat} {u0 u1 : Value} {x : DataW H × List MemPlace} (h : DataW.trod enc Tryd.prog w 0 (fun _ => true) true n 57 [u0, u1] = some x) : ∃ s t : ByteArray, u0 = .string s ∧ u1 = .string t ∧ s.size ≤ maxLen ∧ t.size ≤ maxLen := by
  obtain ⟨xs, m, _, _, hl, hxl, hf⟩ := DataW.trod_struct Tryd.underlying57 h
  match xs, hxl with
  | [y0, y1], _ =>
    have g0 := hf 0 _ rfl
    have g1 := hf 1 _ rfl
    simp [cellsSt] at g0 g1
    obtain ⟨s, e0, _, ws⟩ := DataW.trod_string Tryd.underlying9 g0
    obtain ⟨t, e1, _, wt⟩ := DataW.trod_string Tryd.underlying9 g1
    simp only [List.cons.injEq, and_true] at e0 e1
    exact ⟨s, t, e0, e1, ws, wt⟩

theorem add_plain (b off i : Nat) : (⟨b, off, none⟩ : Addr).add i = ⟨b, off + i, none⟩ := by unfold Addr.add; split <;> simp_all

theorem tags_cells {fuel : Nat} {u : Value} {x : DataW H × List MemPlace} (hf : DataW.trod enc Tryd.prog w 0 (fun _ => true) true fuel 24 [u] = some x) :
    ∃ a len cap, ∃ ts : List Tg, u = .slice a len cap ∧ ts.length = len ∧ Tags w a ts ∧ len ≤ cap ∧ cap ≤ maxLen := by
  rcases open_slice Tryd.underlying24 hf with ⟨hcs, _⟩ | ⟨x, len, cap, m, n, Dd, Pl, hcs, _, hl, hm, hmm, _, hi⟩
  · simp only [List.cons.injEq, and_true] at hcs
    exact ⟨none, 0, 0, [], hcs, rfl, Tags.nil, Nat.le_refl _, Nat.zero_le _⟩
  · simp only [List.cons.injEq, and_true] at hcs
    subst hcs
    have hlm : len ≤ m := by rw [hmm]; split <;> omega
    have key : ∀ i, i < len → ∃ t : Tg, w.cell? (x.add (i * 2)) = some (.string ⟨t.1.toArray⟩) ∧ w.cell? ((x.add (i * 2)).add 1) = some (.string ⟨t.2.toArray⟩) := by
      intro i hil
      obtain ⟨cs', hc, ht⟩ := hi i (by omega)
      rw [cellsTag] at hc
      obtain ⟨_, hlen2, hat⟩ := World.cells?_some hc
      have hl2 : cs'.length = 2 := by first | exact hlen2 | (simpa using hlen2)
      match cs', hl2 with
      | [u0, u1], _ =>
        obtain ⟨s, t, rfl, rfl, _⟩ := tag_cells ht
        refine ⟨(s.data.toList, t.data.toList), ?_, ?_⟩
        · have := hat 0 (by omega)
          simpa [Addr.add] using this
        · have := hat 1 (by omega)
          simpa using this
    refine ⟨some x, len, cap, (List.range len).map (fun i => if hi : i < len then (key i hi).choose else ([], [])), rfl, by simp, ?_, hl, hm⟩
    have hget : ∀ i (hil : i < len), ((List.range len).map (fun i => if hi : i < len then (key i hi).choose else ([], [])))[i]? = some (key i hil).choose := by
      intro i hil
      rw [List.getElem?_map, List.getElem?_eq_getElem (by simpa using hil)]
      simp [hil]
    obtain ⟨b, off, spot⟩ := x
    intro i u hu
    have hil : i < len * 2 := by
      have := (List.getElem?_eq_some_iff.1 hu).1
      rw [flat_length] at this
      simpa using this
    have hs : spot = none := by
      have := World.cell?_spot ((key 0 (by omega)).choose_spec.1)
      simpa [Addr.add] using this
    subst hs
    obtain ⟨j, c, rfl, hc⟩ : ∃ j c, i = j * 2 + c ∧ c < 2 := ⟨i / 2, i % 2, by omega, Nat.mod_lt _ (by omega)⟩
    obtain ⟨k0, k1⟩ := (key j (by omega)).choose_spec
    have hg := hget j (by omega)
    generalize (key j (by omega)).choose = t at k0 k1 hg
    refine ⟨b, off, rfl, ?_⟩
    rw [add_plain] at k0 k1
    rw [add_plain] at k1
    rcases (by omega : c = 0 ∨ c = 1) with rfl | rfl
    · rw [Nat.add_zero, flat_get0, hg] at hu
      injection hu with hu
      rw [← hu]; exact k0
    · rw [flat_get1, hg] at hu
      injection hu with hu
      rw [← hu, ← Nat.add_assoc]; exact k1

theorem decs_cells {fuel : Nat} {u : Value} {x : DataW H × List MemPlace} (hf : DataW.trod enc Tryd.prog w 0 (fun _ => true) true fuel 23 [u] = some x) :
    ∃ a len cap, ∃ ts : List D, u = .slice a len cap ∧ ts.length = len ∧ Decs w a ts ∧ (∀ d ∈ ts, d.Fits) ∧ len ≤ cap ∧ cap ≤ maxLen := by
  rcases open_slice Tryd.underlying23 hf with ⟨hcs, _⟩ | ⟨x, len, cap, m, n, Dd, Pl, hcs, _, hl, hm, hmm, _, hi⟩
  · simp only [List.cons.injEq, and_true] at hcs
    exact ⟨none, 0, 0, [], hcs, rfl, Decs.nil, by simp, Nat.le_refl _, Nat.zero_le _⟩
  · simp only [List.cons.injEq, and_true] at hcs
    subst hcs
    have hlm : len ≤ m := by rw [hmm]; split <;> omega
    have key : ∀ i, i < len → ∃ t : D, w.cell? (x.add (i * 3)) = some (.bool t.neg) ∧ w.cell? ((x.add (i * 3)).add 1) = some (.int .u64 t.c) ∧ w.cell? ((x.add (i * 3)).add 2) = some (.int .i64 t.e) ∧ t.Fits := by
      intro i hil
      obtain ⟨cs', hc, ht⟩ := hi i (by omega)
      rw [cellsDec] at hc
      obtain ⟨_, hlen2, hat⟩ := World.cells?_some hc
      have hl2 : cs'.length = 3 := by first | exact hlen2 | (simpa using hlen2)
      match cs', hl2 with
      | [u0, u1, u2], _ =>
        obtain ⟨t, rfl, rfl, rfl, ft⟩ := dec_cells ht
        refine ⟨t, ?_, ?_, ?_, ft⟩
        · have := hat 0 (by omega)
          simpa [Addr.add] using this
        · have := hat 1 (by omega)
          simpa using this
        · have := hat 2 (by omega)
          simpa using this
    refine ⟨some x, len, cap, (List.range len).map (fun i => if hi : i < len then (key i hi).choose else D0), rfl, by simp, ?_, ?_, hl, hm⟩
    have hget : ∀ i (hil : i < len), ((List.range len).map (fun i => if hi : i < len then (key i hi).choose else D0))[i]? = some (key i hil).choose := by
      intro i hil
      rw [List.getElem?_map, List.getElem?_eq_getElem (by simpa using hil)]
      simp [hil]
    rotate_left
    · intro d hd
      obtain ⟨i, hi, rfl⟩ := List.mem_map.1 hd
      have hil : i < len := by simpa using hi
      rw [dif_pos hil]
      exact (key i hil).choose_spec.2.2.2
    obtain ⟨b, off, spot⟩ := x
    intro i u hu
    have hil : i < len * 3 := by
      have := (List.getElem?_eq_some_iff.1 hu).1
      rw [flatD_length] at this
      simpa using this
    have hs : spot = none := by
      have := World.cell?_spot ((key 0 (by omega)).choose_spec.1)
      simpa [Addr.add] using this
    subst hs
    obtain ⟨j, c, rfl, hc⟩ : ∃ j c, i = j * 3 + c ∧ c < 3 := ⟨i / 3, i % 3, by omega, Nat.mod_lt _ (by omega)⟩
    obtain ⟨k0, k1, k2, _⟩ := (key j (by omega)).choose_spec
    have hg := hget j (by omega)
    generalize (key j (by omega)).choose = t at k0 k1 k2 hg
    refine ⟨b, off, rfl, ?_⟩
    rw [add_plain] at k0 k1 k2
    rw [add_plain] at k1 k2
    rcases (by omega : c = 0 ∨ c = 1 ∨ c = 2) with rfl | rfl | rfl
    · rw [Nat.add_zero, flatD_get0, hg] at hu
      injection hu with hu
      rw [← hu]; exact k0
    · rw [flatD_get1, hg] at hu
      injection hu with hu
      rw [← hu, ← Nat.add_assoc]; exact k1
    · rw [flatD_get2, hg] at hu
      injection hu with hu
      rw [← hu, ← Nat.add_assoc]; exact k2

theorem cellsM : Tryd.prog.cellsOf 26 = 6 := by kernel_rfl
theorem cellsSD : Tryd.prog.cellsOf 23 = 1 := by kernel_rfl
theorem cellsSTg : Tryd.prog.cellsOf 24 = 1 := by kernel_rfl
set_option maxRecDepth 100000 in
theorem metric_in {r : Reach} {b0 : Nat} {v : Value} {d : DataW H} {p : List MemPlace} (_hv : Value.okWide Tryd.prog w r b0 26 v) (h : DataW.Trod enc Tryd.prog w 0 (fun _ => true) true 26 v d p) :
    ∃ s A n ca B k cb, ∃ m : Mt, v = mV s m.kind A n ca m.rate B k cb m.time ∧ MIs w s A n B k m ∧ (∀ d ∈ m.vals, d.Fits) ∧ n ≤ ca ∧ ca ≤ maxLen ∧ k ≤ cb ∧ cb ≤ maxLen := by
  obtain ⟨fuel, hf⟩ := h
  obtain ⟨xs, mm, _, _, hlen, hxl, hg⟩ := DataW.trod_struct Tryd.underlying26 hf
  obtain ⟨u0, u1, u2, u3, u4, u5, rfl⟩ := agg_sixM (hlen.trans cellsM)
  match xs, hxl with
  | [y0, y1, y2, y3, y4, y5], _ =>
    have g0 := hg 0 _ rfl
    have g1 := hg 1 _ rfl
    have g2 := hg 2 _ rfl
    have g3 := hg 3 _ rfl
    have g4 := hg 4 _ rfl
    have g5 := hg 5 _ rfl
    simp [cellsSt, cellsI, cellsSD, cellsSTg, Value.cells] at g0 g1 g2 g3 g4 g5
    obtain ⟨s, e0, _, ws⟩ := DataW.trod_string Tryd.underlying9 g0
    obtain ⟨x1, e1, _, w1⟩ := DataW.trod_int Tryd.underlying3 g1
    obtain ⟨A, n, ca, ds, e2, hl2, hd2, hf2, h21, h22⟩ := decs_cells g2
    obtain ⟨x3, e3, _, w3⟩ := DataW.trod_int Tryd.underlying3 g3
    obtain ⟨B, k, cb, ts, e4, hl4, ht4, h41, h42⟩ := tags_cells g4
    obtain ⟨x5, e5, _, w5⟩ := DataW.trod_int Tryd.underlying3 g5
    simp only [List.cons.injEq, and_true] at e0 e1 e3 e5
    subst e0 e1 e2 e3 e4 e5
    exact ⟨s, A, n, ca, B, k, cb, ⟨s.data.toList, x1, ds, x3, ts, x5⟩, rfl, ⟨rfl, hl2, hd2, hl4, ht4⟩, hf2, h21, h22, h41, h42⟩
end

theorem lies_of_cells {k : IntKind} {w : World} {x : Addr} {zs : List Int} {len : Nat} (hc : ∀ i, i < zs.length → w.cell? (x.add i) = some (.int k (zs.getD i 0))) (hl : len ≤ zs.length) :
    Lies w (some x) ((zs.take len).map (.int k)) := by
  intro i u hu
  obtain ⟨b, off, spot⟩ := x
  rw [List.getElem?_map] at hu
  obtain ⟨z, hz, rfl⟩ := Option.map_eq_some_iff.1 hu
  rw [List.getElem?_take] at hz
  split at hz
  · rename_i hi
    have hiz : i < zs.length := by omega
    have h0 := hc 0 (by omega)
    have hs : spot = none := by simpa [Addr.add] using World.cell?_spot h0
    subst hs
    refine ⟨b, off, rfl, ?_⟩
    have h1 := hc i hiz
    rw [add_plain] at h1
    rw [h1, List.getD_eq_getElem?_getD, hz]
    rfl
  · cases hz
theorem agg_threeM {v : Value} (h : v.cells.toList.length = 3) : ∃ a b c, v = .agg #[a, b, c] := by
  cases v with
  | agg cs =>
    obtain ⟨l⟩ := cs
    simp only [Value.cells] at h
    match l, h with
    | [a, b, c], _ => exact ⟨a, b, c, rfl⟩
  | _ => simp [Value.cells] at h
section
variable {H : Type} {enc : TypeId × Value → H} {w : World}
end
end Go.Proofs.YtmaiggoinjldpaaDoor
