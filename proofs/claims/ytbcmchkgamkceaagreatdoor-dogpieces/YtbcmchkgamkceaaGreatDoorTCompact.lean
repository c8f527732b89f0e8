/-
  slices.Compact at tags. No statement of the seat is proved here.
-/
import Derived.Test.YtbcmchkgamkceaaGreatDoorGrTMath
import Derived.Test.YtbcmchkgamkceaaGreatDoorTLess
import Derived.Lib.SlicesCompact
namespace Go.Proofs.YtbcmchkgamkceaaGreatDoor
open Go.RowKit
open Go.Lib (compactUpTo keeps compactUpTo_all range_map_get keeps_lt_one keeps_pos keeps_neg CompInv)

/-- Block g is a row of tags, with room for cap of them. -/
def RowT (w : World) (g cap : Nat) (ts : List Tg) : Prop :=
  ∃ cur, w.heap[g]? = some (.cells cur 53 (0, 0)) ∧ cur.size = cap * 2 ∧ cur.toList.take (ts.length * 2) = flat ts ∧ ts.length ≤ cap

section
variable {w w' : World} {g cap : Nat} {ts : List Tg}
theorem RowT.lt (h : RowT w g cap ts) : g < w.heap.size := by obtain ⟨cur, hh, _⟩ := h; exact own_lt hh
theorem RowT.tags (h : RowT w g cap ts) : Tags w (some ⟨g, 0, none⟩) ts := by
  obtain ⟨cur, hh, _, ht, _⟩ := h
  intro i u hu
  refine ⟨g, 0, rfl, ?_⟩
  rw [← ht, List.getElem?_take] at hu
  split at hu
  · simp only [World.cell?, hh, Nat.zero_add]; simpa using hu
  · cases hu
theorem RowT.get (h : RowT w g cap ts) {i : Nat} (hi : i < ts.length) : ∃ s t, w.cell? ⟨g, i * 2, none⟩ = some (.string s) ∧ w.cell? ⟨g, i * 2 + 1, none⟩ = some (.string t) ∧ Str s ts[i].1 ∧ Str t ts[i].2 := by
  obtain ⟨h0, h1⟩ := h.tags.cells hi
  rw [Nat.zero_add] at h0 h1
  exact ⟨_, _, h0, h1, Str.mk _, Str.mk _⟩
theorem RowT.frozen (h : RowT w g cap ts) (i : Nat) : w.frozen? ⟨g, i, none⟩ = false := by
  obtain ⟨cur, hh, _⟩ := h
  simp [World.frozen?, hh]
theorem RowT.some_ (h : RowT w g cap ts) {i : Nat} (hi : i < cap * 2) : (w.cell? ⟨g, i, none⟩).isSome = true := by
  obtain ⟨cur, hh, hs, _⟩ := h
  simp only [World.cell?, hh]
  simp [hs, hi]
theorem RowT.same (h : RowT w g cap ts) (hs : Same w w') : RowT w' g cap ts := by
  obtain ⟨cur, hh, r⟩ := h
  exact ⟨cur, by rw [hs.heap]; exact hh, r⟩
theorem flat_set : ∀ (ts : List Tg) (i : Nat) (x : Tg), ((flat ts).set (i * 2) (.string ⟨x.1.toArray⟩)).set (i * 2 + 1) (.string ⟨x.2.toArray⟩) = flat (ts.set i x)
  | [], i, x => by simp [flat_nil]
  | t :: ts, 0, x => rfl
  | t :: ts, i + 1, x => by
    rw [flat_cons, show (i + 1) * 2 = i * 2 + 1 + 1 by omega, List.set_cons_succ, List.set_cons_succ, List.set_cons_succ, List.set_cons_succ, flat_set ts i x]
    rfl
theorem RowT.set (h : RowT w g cap ts) {i : Nat} {s t : ByteArray} {x : Tg} (hs : Str s x.1) (ht : Str t x.2) : RowT ((w.setCell ⟨g, i * 2, none⟩ (.string s)).setCell ⟨g, i * 2 + 1, none⟩ (.string t)) g cap (ts.set i x) := by
  rw [hs.eq, ht.eq]
  obtain ⟨cur, hh, h1, h2, h3⟩ := h
  refine ⟨(cur.setIfInBounds (i * 2) (.string ⟨x.1.toArray⟩)).setIfInBounds (i * 2 + 1) (.string ⟨x.2.toArray⟩), ?_, by simpa using h1, ?_, by simpa using h3⟩
  · simp [World.setCell, Array.getElem?_modify, hh]
  · rw [Array.toList_setIfInBounds, Array.toList_setIfInBounds, List.length_set, List.take_set, List.take_set, h2, flat_set]
end

theorem setCells_but (g : Nat) : ∀ (zs : List Value) (o : Nat) (w : World), But g w (w.setCells g o zs)
  | [], _, w => But.refl g w
  | z :: zs, o, w => ((But.refl g w).set o z).trans (setCells_but g zs (o + 1) _)
theorem cell_set_other {w : World} {g o i : Nat} (h : i ≠ o) (z : Value) : (w.setCell ⟨g, o, none⟩ z).cell? ⟨g, i, none⟩ = w.cell? ⟨g, i, none⟩ := by
  unfold World.setCell World.cell?
  simp only [Array.getElem?_modify, if_true]
  cases w.heap[g]? with
  | none => rfl
  | some ob => cases ob <;> simp [Ne.symm h]
theorem setCells_low (g : Nat) : ∀ (zs : List Value) (o : Nat) (w : World) (i : Nat), i < o → (w.setCells g o zs).cell? ⟨g, i, none⟩ = w.cell? ⟨g, i, none⟩
  | [], _, w, i, _ => rfl
  | z :: zs, o, w, i, h => by
    rw [World.setCells, setCells_low g zs (o + 1) _ i (by omega), cell_set_other (by omega)]
theorem run_clear2 (w : World) (b o n c : Nat) (hn : 0 < n) (hc : ∀ j, j < n * 2 → (w.cell? ⟨b, o + j, none⟩).isSome = true) (hf : ∀ j, j < n * 2 → w.frozen? ⟨b, o + j, none⟩ = false) :
    ∃ zs : List Value, ∀ ty, (Builtin.clear_ #[33] ty #[.slice (some ⟨b, o, none⟩) n c]).run Tryz.prog w = .ok (.tuple #[]) (w.setCells b o zs) := by
  refine ⟨(Builtin.zeroCells (Value.agg #[.string ⟨#[]⟩, .string ⟨#[]⟩]).cells n).toList, ?_⟩
  have hlen : (Builtin.zeroCells (Value.agg #[.string ⟨#[]⟩, .string ⟨#[]⟩]).cells n).toList.length = n * 2 := by simp [Builtin.zeroCells, Value.cells]
  have hone : ∀ v ∈ (Builtin.zeroCells (Value.agg #[.string ⟨#[]⟩, .string ⟨#[]⟩]).cells n).toList, v.oneCell' = true := by
    intro v hv
    simp [Builtin.zeroCells, Value.cells] at hv
    obtain ⟨i, _, rfl⟩ := hv
    rcases Nat.mod_two_eq_zero_or_one i with h | h <;> simp [h, Value.oneCell']
  have hst := run_storeCells_cells (P := Tryz.prog) b o _ 0 w (by rw [hlen]; simpa using hc) (by rw [hlen]; simpa using hf) hone
  simp only [Nat.add_zero] at hst
  have hv := Tryz.zeroValue53
  obtain ⟨m, rfl⟩ : ∃ m, n = m + 1 := ⟨n - 1, by omega⟩
  intro ty
  simp [Builtin.clear_, run_underlying Tryz.underlying33, hv, hst]

theorem at_list {d : Array Tg} {i : Nat} (h : i < d.toList.length) : d[i]! = d.toList[i] := by
  have h' : i < d.size := by simpa using h
  rw [getElem!_pos d i h']; simp

theorem tags_setCells {w : World} {g o : Nat} {ts : List Tg} (h : Tags w (some ⟨g, 0, none⟩) ts) (ho : ts.length * 2 ≤ o) (zs : List Value) : Tags (w.setCells g o zs) (some ⟨g, 0, none⟩) ts := by
  intro i u hu
  obtain ⟨b, off, e, hc⟩ := h i u hu
  injection e with e
  injection e with e1 e2
  subst e1 e2
  have hi : i < (flat ts).length := (List.getElem?_eq_some_iff.1 hu).1
  rw [flat_length] at hi
  exact ⟨g, 0, rfl, by rw [setCells_low g zs o w _ (by omega)]; exact hc⟩
theorem comp_take {d dk : Array Tg} {kk : Nat} (h : CompInv d d.size kk dk) : compactUpTo d d.size = dk.toList.take kk := by
  apply List.ext_getElem?
  intro i
  have hl := h.len
  have hs := h.size
  have hlt := h.lt
  rw [List.getElem?_take]
  by_cases hi : i < kk
  · rw [if_pos hi, h.low i hi, at_list (by simp; omega), List.getElem?_eq_getElem]
  · rw [if_neg hi, List.getElem?_eq_none (by omega)]
set_option maxRecDepth 100000 in
set_option maxHeartbeats 4000000 in
theorem compact_calls {w : World} {g cap : Nat} {d : Array Tg} (hR : RowT w g cap d.toList) (hsz : d.size ≤ 1000) :
    Calls Tryz.prog 90 #[.slice (some ⟨g, 0, none⟩) d.size cap] w fun e w' => e = .returned (.slice (some ⟨g, 0, none⟩) (compactUpTo d d.size).length cap) ∧ Tags w' (some ⟨g, 0, none⟩) (compactUpTo d d.size) ∧ But g w w' := by
  have HS := Lib.hid (fun (hall : ∀ j, j < d.size → keeps d j = true) => show compactUpTo d d.size = d.toList by rw [compactUpTo_all d _ hall, range_map_get])
  have HR := Lib.hid hR
  clear hR
  have hg := tguard
  by_cases h2 : (d.size : Int) < 2
  · have HK := Lib.hid (HS.out (fun j hj => keeps_lt_one d j (by omega)))
    go_enter Tryz.func90, Tryz.ntmps90
    go_wp2_with fail
    go_ret
    rw [HK.out]
    exact ⟨rfl, HR.out.tags, But.refl _ _⟩
  · go_enter Tryz.func90, Tryz.ntmps90
    go_wp2_with fail
    go_loopw [3] (fun v3 wr => ∃ j q : Nat, v3 = .int .i64 ((j : Int) + 1) ∧ j + 1 ≤ d.size ∧ Hid (wr = w.drewN q ∧ ∀ i, i < j + 1 → keeps d i = true)) (fun v3 _ => d.size - (intOf v3).toNat)
    case atStart => exact ⟨0, 0, by go_num, by omega, ⟨rfl, keeps_lt_one d⟩⟩
    case round =>
      obtain ⟨j, q, rfl, hj, hrel⟩ := hrel
      by_cases hlt : j + 1 < d.size
      · have hlt' : (j : Int) + 1 < (d.size : Int) := by omega
        have hRr : RowT wr g cap d.toList := by rw [hrel.out.1]; exact HR.out.same (Same.drewN _ _)
        have l1 : j + 1 < d.toList.length := by simpa using hlt
        have l0 : j < d.toList.length := by omega
        obtain ⟨s, t, c0, c1, hs, ht⟩ := hRr.get l1
        obtain ⟨s', t', d0, d1, hs', ht'⟩ := hRr.get l0
        have HRr := Lib.hid hRr
        have hcap : d.size ≤ cap := by obtain ⟨_, _, _, _, h⟩ := hRr; simpa using h
        clear hRr
        have hne : ¬ cap = j + 1 := by omega
        have hle : (j : Int) + 1 ≤ (cap : Int) := by omega
        by_cases he : d.toList[j + 1] = d.toList[j]
        · have k := teq_run hs ht hs' ht' (decide_eq_true he)
          have HE := Lib.hid he
          clear hs ht hs' ht' he
          go_wp2_with fail
          go_quiet (fail)
          go_wp2_with fail
          have HB := Lib.hid (And.intro HRr.out (And.intro (show But g w wr by rw [hrel.out.1]; exact But.of_same (Same.drewN _ _)) (CompInv.start (k0 := j + 1) hrel.out.2 (keeps_neg (by omega) (by rw [at_list l1, Nat.add_sub_cancel, at_list l0]; exact HE.out)))))
          obtain ⟨wo, hwo⟩ : ∃ wo, wo = wr := ⟨_, rfl⟩
          subst hwo
          clear c0 c1 d0 d1 k HE hrel
          go_loopw [3, 5] (fun v3 v5 wr => ∃ (kk m : Nat) (dk : Array Tg), v3 = .int .i64 (kk : Int) ∧ v5 = .int .i64 ((m : Int) + 1) ∧ j + 1 + (m + 1) ≤ d.size ∧ kk < j + 1 + (m + 1) ∧ dk.size = d.size ∧ Hid (RowT wr g cap dk.toList ∧ But g w wr ∧ CompInv d (j + 1 + (m + 1)) kk dk)) (fun _ v5 _ => d.size - (intOf v5).toNat)
          case atStart => exact ⟨j + 1, 0, d, by go_num, by go_num, by omega, by omega, rfl, ⟨HB.out.1.same (Same.drewN _ _), HB.out.2.1.trans (But.of_same (Same.drewN _ _)), HB.out.2.2⟩⟩
          case round =>
            obtain ⟨kk, m, dk, rfl, rfl, hm, hkk, hdk, hrel⟩ := hrel
            clear HB HRr
            by_cases hlt2 : j + 1 + (m + 1) < d.size
            · have g2 : (m : Int) + 1 < ((d.size - (j + 1) : Nat) : Int) := by omega
              have l3 : j + 1 + (m + 1) < dk.toList.length := by simpa [hdk] using hlt2
              have l2 : j + 1 + m < dk.toList.length := by omega
              obtain ⟨s, t, c0, c1, hs, ht⟩ := hrel.out.1.get l3
              obtain ⟨s', t', d0, d1, hs', ht'⟩ := hrel.out.1.get l2
              rw [show (j + 1 + (m + 1)) * 2 = (j + 1) * 2 + (m + 1) * 2 by omega] at c0 c1
              rw [show (j + 1 + m) * 2 = (j + 1) * 2 + m * 2 by omega] at d0 d1
              by_cases he : dk.toList[j + 1 + (m + 1)] = dk.toList[j + 1 + m]
              · have k := tne_run hs ht hs' ht' (decide_eq_true he)
                have HE := Lib.hid he
                clear hs ht hs' ht' he
                go_wp2_with fail
                go_quiet (fail)
                go_wp2_with fail
                refine ⟨⟨kk, m + 1, dk, rfl, by go_num, by omega, by omega, hdk, ⟨hrel.out.1.same (Same.drewN _ _), hrel.out.2.1.trans (But.of_same (Same.drewN _ _)), hrel.out.2.2.skip (keeps_neg (by omega) ?_)⟩⟩, by simp [intOf]; omega⟩
                rw [← hrel.out.2.2.high _ (by omega), ← hrel.out.2.2.high (j + 1 + (m + 1) - 1) (by omega), at_list l3, show j + 1 + (m + 1) - 1 = j + 1 + m by omega, at_list l2]
                exact HE.out
              · have k := tne_run hs ht hs' ht' (decide_eq_false he)
                have HE := Lib.hid (And.intro he (And.intro hs ht))
                have l4 : kk < dk.toList.length := by omega
                obtain ⟨s2, t2, e0, e1, _, _⟩ := hrel.out.1.get l4
                have f0 := hrel.out.1.frozen (kk * 2)
                have f1 := hrel.out.1.frozen (kk * 2 + 1)
                have g4 : (kk : Int) < (d.size : Int) := by omega
                clear hs ht hs' ht' he
                go_wp2_with fail
                go_quiet (fail)
                go_wp2_with fail
                refine ⟨⟨kk + 1, m + 1, dk.setIfInBounds kk dk.toList[j + 1 + (m + 1)], by go_num, by go_num, by omega, by omega, by simp [hdk], ⟨?_, ((hrel.out.2.1.trans (But.of_same (Same.drewN _ _))).set _ _).set _ _, ?_⟩⟩, by simp [intOf]; omega⟩
                · rw [Array.toList_setIfInBounds]
                  exact (hrel.out.1.same (Same.drewN _ _)).set HE.out.2.1 HE.out.2.2
                · have hI := hrel.out.2.2
                  have hh := hI.high (j + 1 + (m + 1)) (by omega)
                  have := hI.keep hlt2 (keeps_pos (by
                    rw [← hh, ← hI.high (j + 1 + (m + 1) - 1) (by omega), at_list l3, show j + 1 + (m + 1) - 1 = j + 1 + m by omega, at_list l2]
                    exact HE.out.1))
                  rw [← hh, at_list l3] at this
                  exact this
            · have hend : j + 1 + (m + 1) = d.size := by omega
              have g2 : ¬ (m : Int) + 1 < ((d.size - (j + 1) : Nat) : Int) := by omega
              have hne2 : ¬ cap = kk := by omega
              have hle2 : (kk : Int) ≤ (d.size : Int) := by omega
              have hle3 : (kk : Int) ≤ (cap : Int) := by omega
              obtain ⟨zs, hcl⟩ := run_clear2 wr g (kk * 2) (d.size - kk) (cap - kk) (by omega) (fun i hi => hrel.out.1.some_ (by omega)) (fun i _ => hrel.out.1.frozen _)
              go_wp2_with fail
              go_ret
              have hI := hrel.out.2.2
              rw [hend] at hI
              rw [comp_take hI]
              have hlen : (dk.toList.take kk).length = kk := by simp; omega
              refine ⟨by rw [hlen]; rfl, tags_setCells (hrel.out.1.tags.take kk) (by omega) zs, hrel.out.2.1.trans (setCells_but g zs _ _)⟩
        · have k := teq_run hs ht hs' ht' (decide_eq_false he)
          have HE := Lib.hid he
          clear hs ht hs' ht' he
          go_wp2_with fail
          go_quiet (fail)
          go_wp2_with fail
          refine ⟨⟨j + 1, q + nq, by go_num, by omega, ⟨by rw [hrel.out.1, World.drewN_drewN], fun i hi => ?_⟩⟩, by simp [intOf]; omega⟩
          rcases Nat.lt_or_ge i (j + 1) with h | h
          · exact hrel.out.2 i h
          · obtain rfl : j + 1 = i := by omega
            exact keeps_pos (by rw [at_list l1, Nat.add_sub_cancel, at_list l0]; exact HE.out)
      · have hlt' : ¬ (j : Int) + 1 < (d.size : Int) := by omega
        have HK := Lib.hid (HS.out (fun i hi => hrel.out.2 i (by omega)))
        go_wp2_with fail
        go_ret
        rw [HK.out]
        exact ⟨rfl, by rw [hrel.out.1]; exact (HR.out.same (Same.drewN _ _)).tags, by rw [hrel.out.1]; exact But.of_same (Same.drewN _ _)⟩
end Go.Proofs.YtbcmchkgamkceaaGreatDoor
