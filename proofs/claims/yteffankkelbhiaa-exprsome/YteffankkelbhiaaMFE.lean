/-
  MForms, MEqual. No statement of the seat is proved here.
-/
import Derived.Test.YteffankkelbhiaaMCheck
import Derived.OwnWalk
/-
  Package metric: oneForms. No statement of the seat is proved here.
-/
namespace Go.Proofs.Yteffankkelbhiaa
open Go.RowKit
open Dc (D D0)

theorem own_slice_at {w : World} {base n : Nat} {v : Value} {ds : List D} (h : w.ownsRow base 45 3 v n (flatD ds)) : ∃ A cap, v = .slice A n cap ∧ n ≤ cap := by
  obtain ⟨A, cap, e, h1, _⟩ := own_slice h
  exact ⟨A, cap, e, h1⟩

end Go.Proofs.Yteffankkelbhiaa

/-
  Package metric: equalRows and Equal. No statement of the seat is proved here.
-/
namespace Go.Proofs.Yteffankkelbhiaa
open Go.RowKit
open Dc (D D0)

set_option maxRecDepth 100000 in
set_option maxHeartbeats 4000000 in
theorem eqD_calls {w : World} {A B : Option Addr} {n m ca cb : Nat} {ts us : List D} (hn : ts.length = n) (hm : us.length = m) (hA : Decs w A ts) (hB : Decs w B us) (zn : n ≤ 1000000) :
    Calls Try.prog 32 #[.slice A n ca, .slice B m cb] w fun e w' => e = .returned (.bool (decide (ts = us))) ∧ Below w.heap.size w w' := by
  obtain ⟨q, hq⟩ : ∃ q, decide (ts = us) = q := ⟨_, rfl⟩
  rw [hq]
  have HQ := Lib.hid hq
  clear hq
  by_cases hnm : n = m
  · subst hnm
    have HH := Lib.hid (And.intro hA (And.intro hB (And.intro hn hm)))
    have hg := dguard
    clear hA hB hn hm
    go_enter Try.func32, Try.ntmps32
    go_wp2_with fail
    go_loopw [13] (fun v wr => ∃ i : Nat, v = .int .i64 i ∧ i ≤ n ∧ Hid (Below w.heap.size w wr ∧ ∀ j (h : j < ts.length) (g : j < us.length), j < i → ts[j] = us[j])) (fun v _ => n - (intOf v).toNat)
    case atStart => exact ⟨0, rfl, by omega, ⟨Below.refl _ _, fun j _ _ hj => absurd hj (by omega)⟩⟩
    case round =>
      obtain ⟨i, rfl, hin, hrel⟩ := hrel
      by_cases hlt : i < n
      · have g1 : (i : Int) < (n : Int) := by omega
        have g2 : (0 : Int) ≤ (i : Int) := by omega
        obtain ⟨hA, hB, hn, hm⟩ := HH.out
        have l1 : i < ts.length := by omega
        have l2 : i < us.length := by omega
        obtain ⟨b, off, p, x, y, e1, c0, c1, c2, hd⟩ := (hA.keep hrel.out.1).get l1
        obtain ⟨b', off', p', x', y', e2, d0, d1, d2, hd'⟩ := (hB.keep hrel.out.1).get l2
        subst e1 e2
        by_cases he : ts[i] = us[i]
        · have k := dne_run hd hd' (decide_eq_true he)
          have HE := Lib.hid he
          clear hA hB hn hm hd hd' he
          go_wp2_with fail
          go_quiet (fail)
          go_wp2_with fail
          refine ⟨⟨i + 1, by go_num, by omega, ⟨hrel.out.1.trans (Same.drewN _ _).below, fun j h g hj => ?_⟩⟩, by simp [intOf]; omega⟩
          rcases Nat.lt_or_ge j i with h' | h'
          · exact hrel.out.2 j h g h'
          · obtain rfl : i = j := by omega
            exact HE.out
        · have k := dne_run hd hd' (decide_eq_false he)
          have HE := Lib.hid (show q = false by rw [← HQ.out]; exact decide_eq_false fun h => he (by subst h; rfl))
          clear hA hB hn hm hd hd' he
          go_wp2_with fail
          go_quiet (fail)
          go_wp2_with fail
          go_ret
          exact ⟨by rw [HE.out]; first | done | rfl, hrel.out.1.trans (Same.drewN _ _).below⟩
      · have g1 : ¬ (i : Int) < (n : Int) := by omega
        have HE := Lib.hid (show q = true by
          rw [← HQ.out]
          obtain ⟨_, _, hn, hm⟩ := HH.out
          exact decide_eq_true (List.ext_getElem (by omega) fun j h g => hrel.out.2 j h g (by omega)))
        go_wp2_with fail
        go_ret
        exact ⟨by rw [HE.out]; first | done | rfl, hrel.out.1⟩
  · have HE := Lib.hid (show q = false by rw [← HQ.out]; exact decide_eq_false fun h => hnm (by rw [← hn, ← hm, h]))
    have h1 : ((n : Int) == (m : Int)) = false := by simp; omega
    clear hA hB hn hm hnm
    go_enter Try.func32, Try.ntmps32
    go_wp2_with fail
    go_ret
    exact ⟨by rw [HE.out]; first | done | rfl, Below.refl _ _⟩

set_option maxRecDepth 100000 in
set_option maxHeartbeats 4000000 in
theorem eqT_calls {w : World} {A B : Option Addr} {n m ca cb : Nat} {ts us : List Tg} (hn : ts.length = n) (hm : us.length = m) (hA : Tags w A ts) (hB : Tags w B us) (zn : n ≤ 1000000) :
    Calls Try.prog 33 #[.slice A n ca, .slice B m cb] w fun e w' => e = .returned (.bool (decide (ts = us))) ∧ Below w.heap.size w w' := by
  obtain ⟨q, hq⟩ : ∃ q, decide (ts = us) = q := ⟨_, rfl⟩
  rw [hq]
  have HQ := Lib.hid hq
  clear hq
  by_cases hnm : n = m
  · subst hnm
    have HH := Lib.hid (And.intro hA (And.intro hB (And.intro hn hm)))
    have hg := tguard
    clear hA hB hn hm
    go_enter Try.func33, Try.ntmps33
    go_wp2_with fail
    go_loopw [13] (fun v wr => ∃ i : Nat, v = .int .i64 i ∧ i ≤ n ∧ Hid (Below w.heap.size w wr ∧ ∀ j (h : j < ts.length) (g : j < us.length), j < i → ts[j] = us[j])) (fun v _ => n - (intOf v).toNat)
    case atStart => exact ⟨0, rfl, by omega, ⟨Below.refl _ _, fun j _ _ hj => absurd hj (by omega)⟩⟩
    case round =>
      obtain ⟨i, rfl, hin, hrel⟩ := hrel
      by_cases hlt : i < n
      · have g1 : (i : Int) < (n : Int) := by omega
        have g2 : (0 : Int) ≤ (i : Int) := by omega
        obtain ⟨hA, hB, hn, hm⟩ := HH.out
        have l1 : i < ts.length := by omega
        have l2 : i < us.length := by omega
        obtain ⟨b, off, s, t, e1, c0, c1, hs, ht⟩ := (hA.keep hrel.out.1).get l1
        obtain ⟨b', off', s', t', e2, d0, d1, hs', ht'⟩ := (hB.keep hrel.out.1).get l2
        subst e1 e2
        by_cases he : ts[i] = us[i]
        · have k := tne_run hs ht hs' ht' (decide_eq_true he)
          have HE := Lib.hid he
          clear hA hB hn hm hs ht hs' ht' he
          go_wp2_with fail
          go_quiet (fail)
          go_wp2_with fail
          refine ⟨⟨i + 1, by go_num, by omega, ⟨hrel.out.1.trans (Same.drewN _ _).below, fun j h g hj => ?_⟩⟩, by simp [intOf]; omega⟩
          rcases Nat.lt_or_ge j i with h' | h'
          · exact hrel.out.2 j h g h'
          · obtain rfl : i = j := by omega
            exact HE.out
        · have k := tne_run hs ht hs' ht' (decide_eq_false he)
          have HE := Lib.hid (show q = false by rw [← HQ.out]; exact decide_eq_false fun h => he (by subst h; rfl))
          clear hA hB hn hm hs ht hs' ht' he
          go_wp2_with fail
          go_quiet (fail)
          go_wp2_with fail
          go_ret
          exact ⟨by rw [HE.out]; first | done | rfl, hrel.out.1.trans (Same.drewN _ _).below⟩
      · have g1 : ¬ (i : Int) < (n : Int) := by omega
        have HE := Lib.hid (show q = true by
          rw [← HQ.out]
          obtain ⟨_, _, hn, hm⟩ := HH.out
          exact decide_eq_true (List.ext_getElem (by omega) fun j h g => hrel.out.2 j h g (by omega)))
        go_wp2_with fail
        go_ret
        exact ⟨by rw [HE.out]; first | done | rfl, hrel.out.1⟩
  · have HE := Lib.hid (show q = false by rw [← HQ.out]; exact decide_eq_false fun h => hnm (by rw [← hn, ← hm, h]))
    have h1 : ((n : Int) == (m : Int)) = false := by simp; omega
    clear hA hB hn hm hnm
    go_enter Try.func33, Try.ntmps33
    go_wp2_with fail
    go_ret
    exact ⟨by rw [HE.out]; first | done | rfl, Below.refl _ _⟩

section
variable {w : World} {s s' : ByteArray} {A B A' B' : Option Addr} {n k n' k' ca cb ca' cb' : Nat} {a b : Mt}
theorem mt_ext {a b : Mt} : a = b ↔ a.name = b.name ∧ a.kind = b.kind ∧ a.rate = b.rate ∧ a.time = b.time ∧ a.vals = b.vals ∧ a.tags = b.tags := by
  obtain ⟨a1, a2, a3, a4, a5, a6⟩ := a
  obtain ⟨b1, b2, b3, b4, b5, b6⟩ := b
  simp only [Mt.mk.injEq]
  exact ⟨fun ⟨h1, h2, h3, h4, h5, h6⟩ => ⟨h1, h2, h4, h6, h3, h5⟩, fun ⟨h1, h2, h3, h4, h5, h6⟩ => ⟨h1, h2, h5, h3, h6, h4⟩⟩

set_option maxRecDepth 100000 in
set_option maxHeartbeats 4000000 in
theorem equal_calls (ha : MIs w s A n B k a) (hb : MIs w s' A' n' B' k' b) (za : Small a) :
    Calls Try.prog 20 #[mV s a.kind A n ca a.rate B k cb a.time, mV s' b.kind A' n' ca' b.rate B' k' cb' b.time] w fun e w' => e = .returned (.bool (decide (a = b))) ∧ Below w.heap.size w w' := by
  obtain ⟨q, hq⟩ : ∃ q, decide (a = b) = q := ⟨_, rfl⟩
  rw [hq]
  have HQ := Lib.hid hq
  clear hq
  have hE := fun W (h : Below w.heap.size w W) => eqD_calls (ca := ca) (cb := ca') ha.vlen hb.vlen (ha.vals.keep h) (hb.vals.keep h) (by have := ha.vlen; have := za.vals; omega)
  have hF := fun W (h : Below w.heap.size w W) => eqT_calls (ca := cb) (cb := cb') ha.tlen hb.tlen (ha.tags.keep h) (hb.tags.keep h) (by have := ha.tlen; have := za.tags; omega)
  obtain ⟨qv, hqv⟩ : ∃ q, decide (a.vals = b.vals) = q := ⟨_, rfl⟩
  obtain ⟨qt, hqt⟩ : ∃ q, decide (a.tags = b.tags) = q := ⟨_, rfl⟩
  rw [hqv] at hE
  rw [hqt] at hF
  have HX := Lib.hid (And.intro hqv hqt)
  have HE := Lib.hid hE
  have HF := Lib.hid hF
  obtain ⟨kd, hkd⟩ : ∃ x, x = a.kind := ⟨_, rfl⟩
  obtain ⟨rt, hrt⟩ : ∃ x, x = a.rate := ⟨_, rfl⟩
  obtain ⟨tm, htm⟩ : ∃ x, x = a.time := ⟨_, rfl⟩
  obtain ⟨kd', hkd'⟩ : ∃ x, x = b.kind := ⟨_, rfl⟩
  obtain ⟨rt', hrt'⟩ : ∃ x, x = b.rate := ⟨_, rfl⟩
  obtain ⟨tm', htm'⟩ : ∃ x, x = b.time := ⟨_, rfl⟩
  rw [← hkd, ← hrt, ← htm, ← hkd', ← hrt', ← htm']
  have HY := Lib.hid (And.intro hkd (And.intro hrt (And.intro htm (And.intro hkd' (And.intro hrt' htm')))))
  have hse := str_eq ha.name hb.name
  obtain ⟨qn, hqn⟩ : ∃ q, (a.name == b.name) = q := ⟨_, rfl⟩
  rw [hqn] at hse
  have HN := Lib.hid hqn
  have HL := Lib.hid (((Kb.start w).push 25 (mC s kd A n ca rt B k cb tm)).push 25 (mC s' kd' A' n' ca' rt' B' k' cb' tm'))
  rw [size_alloc] at HL
  unfold mC at HL
  unfold mV
  clear hE hF hqv hqt hkd hrt htm hkd' hrt' htm' hqn ha hb za
  go_enter Try.func20, Try.ntmps20
  cases qn
  · have HZ := Lib.hid (show q = false by
      rw [← HQ.out]; exact decide_eq_false fun h => by have := HN.out; rw [(mt_ext.1 h).1] at this; simp at this)
    go_wp2_with fail
    go_ret
    exact ⟨by rw [HZ.out]; first | done | rfl, HL.out.kept⟩
  rcases (by omega : kd ≠ kd' ∨ (kd = kd' ∧ rt ≠ rt') ∨ (kd = kd' ∧ rt = rt' ∧ tm ≠ tm') ∨ (kd = kd' ∧ rt = rt' ∧ tm = tm')) with h | ⟨rfl, h⟩ | ⟨rfl, rfl, h⟩ | ⟨rfl, rfl, rfl⟩
  · have HZ := Lib.hid (show q = false by
      obtain ⟨h1, h2, h3, h4, h5, h6⟩ := HY.out
      rw [← HQ.out]; exact decide_eq_false fun e => h (by rw [h1, h4, e]))
    have h1 : (kd == kd') = false := by simpa using h
    go_wp2_with fail
    go_ret
    exact ⟨by rw [HZ.out]; first | done | rfl, HL.out.kept⟩
  · have HZ := Lib.hid (show q = false by
      obtain ⟨h1, h2, h3, h4, h5, h6⟩ := HY.out
      rw [← HQ.out]; exact decide_eq_false fun e => h (by rw [h2, h5, e]))
    have h1 : (rt == rt') = false := by simpa using h
    go_wp2_with fail
    go_ret
    exact ⟨by rw [HZ.out]; first | done | rfl, HL.out.kept⟩
  · have HZ := Lib.hid (show q = false by
      obtain ⟨h1, h2, h3, h4, h5, h6⟩ := HY.out
      rw [← HQ.out]; exact decide_eq_false fun e => h (by rw [h3, h6, e]))
    have h1 : (tm == tm') = false := by simpa using h
    go_wp2_with fail
    go_ret
    exact ⟨by rw [HZ.out]; first | done | rfl, HL.out.kept⟩
  · have HZ := Lib.hid (show q = (qv && qt) by
      obtain ⟨h1, h2, h3, h4, h5, h6⟩ := HY.out
      have hn : a.name = b.name := by simpa using HN.out
      rw [← HQ.out, ← HX.out.1, ← HX.out.2, Bool.eq_iff_iff, Bool.and_eq_true, decide_eq_true_eq, decide_eq_true_eq, decide_eq_true_eq, mt_ext]
      exact ⟨fun h => ⟨h.2.2.2.2.1, h.2.2.2.2.2⟩, fun h => ⟨hn, by rw [← h1, h4], by rw [← h2, h5], by rw [← h3, h6], h.1, h.2⟩⟩)
    go_wp2_with fail
    refine (HE.out _ HL.out.kept).mono ?_
    rintro e w2 ⟨rfl, hb⟩
    have HL2 := Lib.hid (HL.out.next hb)
    clear hb HL HE
    cases qv
    · go_wp2_with fail
      go_ret
      exact ⟨by rw [HZ.out]; first | done | rfl, HL2.out.kept⟩
    · have d4 : w2.cell? ⟨w.heap.size, 4, none⟩ = some (.slice B k cb) := HL2.out.cell (.tail _ (.head _)) rfl
      have e4 : w2.cell? ⟨w.heap.size + 1, 4, none⟩ = some (.slice B' k' cb') := HL2.out.cell (.head _) rfl
      go_wp2_with fail
      refine (HF.out _ HL2.out.kept).mono ?_
      rintro e w3 ⟨rfl, hb⟩
      have HL3 := Lib.hid (HL2.out.next hb)
      clear hb HL2 HF
      go_wp2_with fail
      go_ret
      exact ⟨by rw [HZ.out]; first | done | rfl | simp, HL3.out.kept⟩
end
end Go.Proofs.Yteffankkelbhiaa
