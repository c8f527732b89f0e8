/-
  MForms, MEqual, TCompact, TNormal. No statement of the seat is proved here.
-/
import Derived.Test.YtdliookdmgilgaaGreatDoorGrMMath
import Derived.OwnWalk
import Derived.Test.YtdliookdmgilgaaGreatDoorGrTCheck
import Derived.Test.YtdliookdmgilgaaGreatDoorTLess
/-
  Package metric: oneForms. No statement of the seat is proved here.
-/
namespace Go.Proofs.YtdliookdmgilgaaGreatDoor
open Go.RowKit
open Dc (D D0)

theorem own_slice_at {w : World} {base n : Nat} {v : Value} {ds : List D} (h : w.ownsRow base 50 3 v n (flatD ds)) : ∃ A cap, v = .slice A n cap ∧ n ≤ cap := by
  obtain ⟨A, cap, e, h1, _⟩ := own_slice h
  exact ⟨A, cap, e, h1⟩

end Go.Proofs.YtdliookdmgilgaaGreatDoor

/-
  Package metric: equalRows and Equal. No statement of the seat is proved here.
-/
namespace Go.Proofs.YtdliookdmgilgaaGreatDoor
open Go.RowKit
open Dc (D D0)

set_option maxRecDepth 100000 in
set_option maxHeartbeats 4000000 in
theorem eqD_calls {w : World} {A B : Option Addr} {n m ca cb : Nat} {ts us : List D} (hn : ts.length = n) (hm : us.length = m) (hA : Decs w A ts) (hB : Decs w B us) (zn : n ≤ 1000000) :
    Calls Tryz.prog 45 #[.slice A n ca, .slice B m cb] w fun e w' => e = .returned (.bool (decide (ts = us))) ∧ Below w.heap.size w w' := by
  obtain ⟨q, hq⟩ : ∃ q, decide (ts = us) = q := ⟨_, rfl⟩
  rw [hq]
  have HQ := Lib.hid hq
  clear hq
  by_cases hnm : n = m
  · subst hnm
    have HH := Lib.hid (And.intro hA (And.intro hB (And.intro hn hm)))
    have hg := dguard
    clear hA hB hn hm
    go_enter Tryz.func45, Tryz.ntmps45
    go_wp2_with fail
    go_loopw [13] (fun v wr => ∃ i : Nat, v = .int .i64 i ∧ i ≤ n ∧ Hid (Below w.heap.size w wr ∧ ∀ j (h : j < ts.length) (g : j < us.length), j < i → ts[j] = us[j])) (fun v _ => n - (intOf v).toNat)
    case atStart => exact ⟨0, rfl, by omega, ⟨Below.refl _ _, fun j _ _ hj => absurd hj (by omega)⟩⟩
    case round =>
      obtain ⟨i, rfl, hin, hrel⟩ := hrel
      by_cases hlt : i < n
      · have g1 : (i : Int) < (n : Int) := by omega
        have g2 : (0 : Int) ≤ (i : Int) := by omega
        obtain ⟨hA, hB, hn, hm⟩ := HH.out
        have l1 : i < ts.length := by omega
        have l2 : i < us.length := by omega
        obtain ⟨b, off, p, x, y, e1, c0, c1, c2, hd⟩ := (hA.keep hrel.out.1).get l1
        obtain ⟨b', off', p', x', y', e2, d0, d1, d2, hd'⟩ := (hB.keep hrel.out.1).get l2
        subst e1 e2
        by_cases he : ts[i] = us[i]
        · have k := dne_run hd hd' (decide_eq_true he)
          have HE := Lib.hid he
          clear hA hB hn hm hd hd' he
          go_wp2_with fail
          go_quiet (fail)
          go_wp2_with fail
          refine ⟨⟨i + 1, by go_num, by omega, ⟨hrel.out.1.trans (Same.drewN _ _).below, fun j h g hj => ?_⟩⟩, by simp [intOf]; omega⟩
          rcases Nat.lt_or_ge j i with h' | h'
          · exact hrel.out.2 j h g h'
          · obtain rfl : i = j := by omega
            exact HE.out
        · have k := dne_run hd hd' (decide_eq_false he)
          have HE := Lib.hid (show q = false by rw [← HQ.out]; exact decide_eq_false fun h => he (by subst h; rfl))
          clear hA hB hn hm hd hd' he
          go_wp2_with fail
          go_quiet (fail)
          go_wp2_with fail
          go_ret
          exact ⟨by rw [HE.out]; first | done | rfl, hrel.out.1.trans (Same.drewN _ _).below⟩
      · have g1 : ¬ (i : Int) < (n : Int) := by omega
        have HE := Lib.hid (show q = true by
          rw [← HQ.out]
          obtain ⟨_, _, hn, hm⟩ := HH.out
          exact decide_eq_true (List.ext_getElem (by omega) fun j h g => hrel.out.2 j h g (by omega)))
        go_wp2_with fail
        go_ret
        exact ⟨by rw [HE.out]; first | done | rfl, hrel.out.1⟩
  · have HE := Lib.hid (show q = false by rw [← HQ.out]; exact decide_eq_false fun h => hnm (by rw [← hn, ← hm, h]))
    have h1 : ((n : Int) == (m : Int)) = false := by simp; omega
    clear hA hB hn hm hnm
    go_enter Tryz.func45, Tryz.ntmps45
    go_wp2_with fail
    go_ret
    exact ⟨by rw [HE.out]; first | done | rfl, Below.refl _ _⟩

set_option maxRecDepth 100000 in
set_option maxHeartbeats 4000000 in
theorem eqT_calls {w : World} {A B : Option Addr} {n m ca cb : Nat} {ts us : List Tg} (hn : ts.length = n) (hm : us.length = m) (hA : Tags w A ts) (hB : Tags w B us) (zn : n ≤ 1000000) :
    Calls Tryz.prog 46 #[.slice A n ca, .slice B m cb] w fun e w' => e = .returned (.bool (decide (ts = us))) ∧ Below w.heap.size w w' := by
  obtain ⟨q, hq⟩ : ∃ q, decide (ts = us) = q := ⟨_, rfl⟩
  rw [hq]
  have HQ := Lib.hid hq
  clear hq
  by_cases hnm : n = m
  · subst hnm
    have HH := Lib.hid (And.intro hA (And.intro hB (And.intro hn hm)))
    have hg := tguard
    clear hA hB hn hm
    go_enter Tryz.func46, Tryz.ntmps46
    go_wp2_with fail
    go_loopw [13] (fun v wr => ∃ i : Nat, v = .int .i64 i ∧ i ≤ n ∧ Hid (Below w.heap.size w wr ∧ ∀ j (h : j < ts.length) (g : j < us.length), j < i → ts[j] = us[j])) (fun v _ => n - (intOf v).toNat)
    case atStart => exact ⟨0, rfl, by omega, ⟨Below.refl _ _, fun j _ _ hj => absurd hj (by omega)⟩⟩
    case round =>
      obtain ⟨i, rfl, hin, hrel⟩ := hrel
      by_cases hlt : i < n
      · have g1 : (i : Int) < (n : Int) := by omega
        have g2 : (0 : Int) ≤ (i : Int) := by omega
        obtain ⟨hA, hB, hn, hm⟩ := HH.out
        have l1 : i < ts.length := by omega
        have l2 : i < us.length := by omega
        obtain ⟨b, off, s, t, e1, c0, c1, hs, ht⟩ := (hA.keep hrel.out.1).get l1
        obtain ⟨b', off', s', t', e2, d0, d1, hs', ht'⟩ := (hB.keep hrel.out.1).get l2
        subst e1 e2
        by_cases he : ts[i] = us[i]
        · have k := tne_run hs ht hs' ht' (decide_eq_true he)
          have HE := Lib.hid he
          clear hA hB hn hm hs ht hs' ht' he
          go_wp2_with fail
          go_quiet (fail)
          go_wp2_with fail
          refine ⟨⟨i + 1, by go_num, by omega, ⟨hrel.out.1.trans (Same.drewN _ _).below, fun j h g hj => ?_⟩⟩, by simp [intOf]; omega⟩
          rcases Nat.lt_or_ge j i with h' | h'
          · exact hrel.out.2 j h g h'
          · obtain rfl : i = j := by omega
            exact HE.out
        · have k := tne_run hs ht hs' ht' (decide_eq_false he)
          have HE := Lib.hid (show q = false by rw [← HQ.out]; exact decide_eq_false fun h => he (by subst h; rfl))
          clear hA hB hn hm hs ht hs' ht' he
          go_wp2_with fail
          go_quiet (fail)
          go_wp2_with fail
          go_ret
          exact ⟨by rw [HE.out]; first | done | rfl, hrel.out.1.trans (Same.drewN _ _).below⟩
      · have g1 : ¬ (i : Int) < (n : Int) := by omega
        have HE := Lib.hid (show q = true by
          rw [← HQ.out]
          obtain ⟨_, _, hn, hm⟩ := HH.out
          exact decide_eq_true (List.ext_getElem (by omega) fun j h g => hrel.out.2 j h g (by omega)))
        go_wp2_with fail
        go_ret
        exact ⟨by rw [HE.out]; first | done | rfl, hrel.out.1⟩
  · have HE := Lib.hid (show q = false by rw [← HQ.out]; exact decide_eq_false fun h => hnm (by rw [← hn, ← hm, h]))
    have h1 : ((n : Int) == (m : Int)) = false := by simp; omega
    clear hA hB hn hm hnm
    go_enter Tryz.func46, Tryz.ntmps46
    go_wp2_with fail
    go_ret
    exact ⟨by rw [HE.out]; first | done | rfl, Below.refl _ _⟩

section
variable {w : World} {s s' : ByteArray} {A B A' B' : Option Addr} {n k n' k' ca cb ca' cb' : Nat} {a b : Mt}
theorem mt_ext {a b : Mt} : a = b ↔ a.name = b.name ∧ a.kind = b.kind ∧ a.rate = b.rate ∧ a.time = b.time ∧ a.vals = b.vals ∧ a.tags = b.tags := by
  obtain ⟨a1, a2, a3, a4, a5, a6⟩ := a
  obtain ⟨b1, b2, b3, b4, b5, b6⟩ := b
  simp only [Mt.mk.injEq]
  exact ⟨fun ⟨h1, h2, h3, h4, h5, h6⟩ => ⟨h1, h2, h4, h6, h3, h5⟩, fun ⟨h1, h2, h3, h4, h5, h6⟩ => ⟨h1, h2, h5, h3, h6, h4⟩⟩

set_option maxRecDepth 100000 in
set_option maxHeartbeats 4000000 in
theorem equal_calls (ha : MIs w s A n B k a) (hb : MIs w s' A' n' B' k' b) (za : Small a) :
    Calls Tryz.prog 22 #[mV s a.kind A n ca a.rate B k cb a.time, mV s' b.kind A' n' ca' b.rate B' k' cb' b.time] w fun e w' => e = .returned (.bool (decide (a = b))) ∧ Below w.heap.size w w' := by
  obtain ⟨q, hq⟩ : ∃ q, decide (a = b) = q := ⟨_, rfl⟩
  rw [hq]
  have HQ := Lib.hid hq
  clear hq
  have hE := fun W (h : Below w.heap.size w W) => eqD_calls (ca := ca) (cb := ca') ha.vlen hb.vlen (ha.vals.keep h) (hb.vals.keep h) (by have := ha.vlen; have := za.vals; omega)
  have hF := fun W (h : Below w.heap.size w W) => eqT_calls (ca := cb) (cb := cb') ha.tlen hb.tlen (ha.tags.keep h) (hb.tags.keep h) (by have := ha.tlen; have := za.tags; omega)
  obtain ⟨qv, hqv⟩ : ∃ q, decide (a.vals = b.vals) = q := ⟨_, rfl⟩
  obtain ⟨qt, hqt⟩ : ∃ q, decide (a.tags = b.tags) = q := ⟨_, rfl⟩
  rw [hqv] at hE
  rw [hqt] at hF
  have HX := Lib.hid (And.intro hqv hqt)
  have HE := Lib.hid hE
  have HF := Lib.hid hF
  obtain ⟨kd, hkd⟩ : ∃ x, x = a.kind := ⟨_, rfl⟩
  obtain ⟨rt, hrt⟩ : ∃ x, x = a.rate := ⟨_, rfl⟩
  obtain ⟨tm, htm⟩ : ∃ x, x = a.time := ⟨_, rfl⟩
  obtain ⟨kd', hkd'⟩ : ∃ x, x = b.kind := ⟨_, rfl⟩
  obtain ⟨rt', hrt'⟩ : ∃ x, x = b.rate := ⟨_, rfl⟩
  obtain ⟨tm', htm'⟩ : ∃ x, x = b.time := ⟨_, rfl⟩
  rw [← hkd, ← hrt, ← htm, ← hkd', ← hrt', ← htm']
  have HY := Lib.hid (And.intro hkd (And.intro hrt (And.intro htm (And.intro hkd' (And.intro hrt' htm')))))
  have hse := str_eq ha.name hb.name
  obtain ⟨qn, hqn⟩ : ∃ q, (a.name == b.name) = q := ⟨_, rfl⟩
  rw [hqn] at hse
  have HN := Lib.hid hqn
  have HL := Lib.hid (((Kb.start w).push 25 (mC s kd A n ca rt B k cb tm)).push 25 (mC s' kd' A' n' ca' rt' B' k' cb' tm'))
  rw [size_alloc] at HL
  unfold mC at HL
  unfold mV
  clear hE hF hqv hqt hkd hrt htm hkd' hrt' htm' hqn ha hb za
  go_enter Tryz.func22, Tryz.ntmps22
  cases qn
  · have HZ := Lib.hid (show q = false by
      rw [← HQ.out]; exact decide_eq_false fun h => by have := HN.out; rw [(mt_ext.1 h).1] at this; simp at this)
    go_wp2_with fail
    go_ret
    exact ⟨by rw [HZ.out]; first | done | rfl, HL.out.kept⟩
  rcases (by omega : kd ≠ kd' ∨ (kd = kd' ∧ rt ≠ rt') ∨ (kd = kd' ∧ rt = rt' ∧ tm ≠ tm') ∨ (kd = kd' ∧ rt = rt' ∧ tm = tm')) with h | ⟨rfl, h⟩ | ⟨rfl, rfl, h⟩ | ⟨rfl, rfl, rfl⟩
  · have HZ := Lib.hid (show q = false by
      obtain ⟨h1, h2, h3, h4, h5, h6⟩ := HY.out
      rw [← HQ.out]; exact decide_eq_false fun e => h (by rw [h1, h4, e]))
    have h1 : (kd == kd') = false := by simpa using h
    go_wp2_with fail
    go_ret
    exact ⟨by rw [HZ.out]; first | done | rfl, HL.out.kept⟩
  · have HZ := Lib.hid (show q = false by
      obtain ⟨h1, h2, h3, h4, h5, h6⟩ := HY.out
      rw [← HQ.out]; exact decide_eq_false fun e => h (by rw [h2, h5, e]))
    have h1 : (rt == rt') = false := by simpa using h
    go_wp2_with fail
    go_ret
    exact ⟨by rw [HZ.out]; first | done | rfl, HL.out.kept⟩
  · have HZ := Lib.hid (show q = false by
      obtain ⟨h1, h2, h3, h4, h5, h6⟩ := HY.out
      rw [← HQ.out]; exact decide_eq_false fun e => h (by rw [h3, h6, e]))
    have h1 : (tm == tm') = false := by simpa using h
    go_wp2_with fail
    go_ret
    exact ⟨by rw [HZ.out]; first | done | rfl, HL.out.kept⟩
  · have HZ := Lib.hid (show q = (qv && qt) by
      obtain ⟨h1, h2, h3, h4, h5, h6⟩ := HY.out
      have hn : a.name = b.name := by simpa using HN.out
      rw [← HQ.out, ← HX.out.1, ← HX.out.2, Bool.eq_iff_iff, Bool.and_eq_true, decide_eq_true_eq, decide_eq_true_eq, decide_eq_true_eq, mt_ext]
      exact ⟨fun h => ⟨h.2.2.2.2.1, h.2.2.2.2.2⟩, fun h => ⟨hn, by rw [← h1, h4], by rw [← h2, h5], by rw [← h3, h6], h.1, h.2⟩⟩)
    go_wp2_with fail
    refine (HE.out _ HL.out.kept).mono ?_
    rintro e w2 ⟨rfl, hb⟩
    have HL2 := Lib.hid (HL.out.next hb)
    clear hb HL HE
    cases qv
    · go_wp2_with fail
      go_ret
      exact ⟨by rw [HZ.out]; first | done | rfl, HL2.out.kept⟩
    · have d4 : w2.cell? ⟨w.heap.size, 4, none⟩ = some (.slice B k cb) := HL2.out.cell (.tail _ (.head _)) rfl
      have e4 : w2.cell? ⟨w.heap.size + 1, 4, none⟩ = some (.slice B' k' cb') := HL2.out.cell (.head _) rfl
      go_wp2_with fail
      refine (HF.out _ HL2.out.kept).mono ?_
      rintro e w3 ⟨rfl, hb⟩
      have HL3 := Lib.hid (HL2.out.next hb)
      clear hb HL2 HF
      go_wp2_with fail
      go_ret
      exact ⟨by rw [HZ.out]; first | done | rfl | simp, HL3.out.kept⟩
end
end Go.Proofs.YtdliookdmgilgaaGreatDoor

/-
  slices.Compact at tags. No statement of the seat is proved here.
-/
namespace Go.Proofs.YtdliookdmgilgaaGreatDoor
open Go.RowKit

/-- Block g is a row of tags, with room for cap of them. -/
def RowT (w : World) (g cap : Nat) (ts : List Tg) : Prop :=
  ∃ cur, w.heap[g]? = some (.cells cur 54 (0, 0)) ∧ cur.size = cap * 2 ∧ cur.toList.take (ts.length * 2) = flat ts ∧ ts.length ≤ cap

section
variable {w w' : World} {g cap : Nat} {ts : List Tg}
theorem RowT.lt (h : RowT w g cap ts) : g < w.heap.size := by obtain ⟨cur, hh, _⟩ := h; exact own_lt hh
theorem RowT.tags (h : RowT w g cap ts) : Tags w (some ⟨g, 0, none⟩) ts := by
  obtain ⟨cur, hh, _, ht, _⟩ := h
  intro i u hu
  refine ⟨g, 0, rfl, ?_⟩
  rw [← ht, List.getElem?_take] at hu
  split at hu
  · simp only [World.cell?, hh, Nat.zero_add]; simpa using hu
  · cases hu
theorem RowT.get (h : RowT w g cap ts) {i : Nat} (hi : i < ts.length) : ∃ s t, w.cell? ⟨g, i * 2, none⟩ = some (.string s) ∧ w.cell? ⟨g, i * 2 + 1, none⟩ = some (.string t) ∧ Str s ts[i].1 ∧ Str t ts[i].2 := by
  obtain ⟨h0, h1⟩ := h.tags.cells hi
  rw [Nat.zero_add] at h0 h1
  exact ⟨_, _, h0, h1, Str.mk _, Str.mk _⟩
theorem RowT.frozen (h : RowT w g cap ts) (i : Nat) : w.frozen? ⟨g, i, none⟩ = false := by
  obtain ⟨cur, hh, _⟩ := h
  simp [World.frozen?, hh]
theorem RowT.some_ (h : RowT w g cap ts) {i : Nat} (hi : i < cap * 2) : (w.cell? ⟨g, i, none⟩).isSome = true := by
  obtain ⟨cur, hh, hs, _⟩ := h
  simp only [World.cell?, hh]
  simp [hs, hi]
theorem RowT.same (h : RowT w g cap ts) (hs : Same w w') : RowT w' g cap ts := by
  obtain ⟨cur, hh, r⟩ := h
  exact ⟨cur, by rw [hs.heap]; exact hh, r⟩
theorem flat_set : ∀ (ts : List Tg) (i : Nat) (x : Tg), ((flat ts).set (i * 2) (.string ⟨x.1.toArray⟩)).set (i * 2 + 1) (.string ⟨x.2.toArray⟩) = flat (ts.set i x)
  | [], i, x => by simp [flat_nil]
  | t :: ts, 0, x => rfl
  | t :: ts, i + 1, x => by
    rw [flat_cons, show (i + 1) * 2 = i * 2 + 1 + 1 by omega, List.set_cons_succ, List.set_cons_succ, List.set_cons_succ, List.set_cons_succ, flat_set ts i x]
    rfl
theorem RowT.set (h : RowT w g cap ts) {i : Nat} {s t : ByteArray} {x : Tg} (hs : Str s x.1) (ht : Str t x.2) : RowT ((w.setCell ⟨g, i * 2, none⟩ (.string s)).setCell ⟨g, i * 2 + 1, none⟩ (.string t)) g cap (ts.set i x) := by
  rw [hs.eq, ht.eq]
  obtain ⟨cur, hh, h1, h2, h3⟩ := h
  refine ⟨(cur.setIfInBounds (i * 2) (.string ⟨x.1.toArray⟩)).setIfInBounds (i * 2 + 1) (.string ⟨x.2.toArray⟩), ?_, by simpa using h1, ?_, by simpa using h3⟩
  · simp [World.setCell, Array.getElem?_modify, hh]
  · rw [Array.toList_setIfInBounds, Array.toList_setIfInBounds, List.length_set, List.take_set, List.take_set, h2, flat_set]
end

theorem setCells_but (g : Nat) : ∀ (zs : List Value) (o : Nat) (w : World), But g w (w.setCells g o zs)
  | [], _, w => But.refl g w
  | z :: zs, o, w => ((But.refl g w).set o z).trans (setCells_but g zs (o + 1) _)
theorem cell_set_other {w : World} {g o i : Nat} (h : i ≠ o) (z : Value) : (w.setCell ⟨g, o, none⟩ z).cell? ⟨g, i, none⟩ = w.cell? ⟨g, i, none⟩ := by
  unfold World.setCell World.cell?
  simp only [Array.getElem?_modify, if_true]
  cases w.heap[g]? with
  | none => rfl
  | some ob => cases ob <;> simp [Ne.symm h]
theorem setCells_low (g : Nat) : ∀ (zs : List Value) (o : Nat) (w : World) (i : Nat), i < o → (w.setCells g o zs).cell? ⟨g, i, none⟩ = w.cell? ⟨g, i, none⟩
  | [], _, w, i, _ => rfl
  | z :: zs, o, w, i, h => by
    rw [World.setCells, setCells_low g zs (o + 1) _ i (by omega), cell_set_other (by omega)]
theorem run_clear2 (w : World) (b o n c : Nat) (hn : 0 < n) (hc : ∀ j, j < n * 2 → (w.cell? ⟨b, o + j, none⟩).isSome = true) (hf : ∀ j, j < n * 2 → w.frozen? ⟨b, o + j, none⟩ = false) :
    ∃ zs : List Value, ∀ ty, (Builtin.clear_ #[23] ty #[.slice (some ⟨b, o, none⟩) n c]).run Tryz.prog w = .ok (.tuple #[]) (w.setCells b o zs) := by
  refine ⟨(Builtin.zeroCells (Value.agg #[.string ⟨#[]⟩, .string ⟨#[]⟩]).cells n).toList, ?_⟩
  have hlen : (Builtin.zeroCells (Value.agg #[.string ⟨#[]⟩, .string ⟨#[]⟩]).cells n).toList.length = n * 2 := by simp [Builtin.zeroCells, Value.cells]
  have hone : ∀ v ∈ (Builtin.zeroCells (Value.agg #[.string ⟨#[]⟩, .string ⟨#[]⟩]).cells n).toList, v.oneCell' = true := by
    intro v hv
    simp [Builtin.zeroCells, Value.cells] at hv
    obtain ⟨i, _, rfl⟩ := hv
    rcases Nat.mod_two_eq_zero_or_one i with h | h <;> simp [h, Value.oneCell']
  have hst := run_storeCells_cells (P := Tryz.prog) b o _ 0 w (by rw [hlen]; simpa using hc) (by rw [hlen]; simpa using hf) hone
  simp only [Nat.add_zero] at hst
  have hv := Tryz.zeroValue54
  obtain ⟨m, rfl⟩ : ∃ m, n = m + 1 := ⟨n - 1, by omega⟩
  intro ty
  simp [Builtin.clear_, run_underlying Tryz.underlying23, hv, hst]

theorem at_list {d : Array Tg} {i : Nat} (h : i < d.toList.length) : d[i]! = d.toList[i] := by
  have h' : i < d.size := by simpa using h
  rw [getElem!_pos d i h']; simp

theorem tags_setCells {w : World} {g o : Nat} {ts : List Tg} (h : Tags w (some ⟨g, 0, none⟩) ts) (ho : ts.length * 2 ≤ o) (zs : List Value) : Tags (w.setCells g o zs) (some ⟨g, 0, none⟩) ts := by
  intro i u hu
  obtain ⟨b, off, e, hc⟩ := h i u hu
  injection e with e
  injection e with e1 e2
  subst e1 e2
  have hi : i < (flat ts).length := (List.getElem?_eq_some_iff.1 hu).1
  rw [flat_length] at hi
  exact ⟨g, 0, rfl, by rw [setCells_low g zs o w _ (by omega)]; exact hc⟩
end Go.Proofs.YtdliookdmgilgaaGreatDoor

/-
  Package tag: Normal. No statement of the seat is proved here.
-/
namespace Go.Proofs.YtdliookdmgilgaaGreatDoor
open Go.RowKit
end Go.Proofs.YtdliookdmgilgaaGreatDoor
