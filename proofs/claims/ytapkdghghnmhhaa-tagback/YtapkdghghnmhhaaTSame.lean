/-
  Layer 6: same, Few, and package tag's Is. No statement of the seat is proved here.
-/
import Derived.Test.YtapkdghghnmhhaaTOne
namespace Go.Proofs.Ytapkdghghnmhhaa
open Go.RowKit

theorem Tags.get {w : World} {A : Option Addr} {ts : List Tg} {i : Nat} (h : Tags w A ts) (hi : i < ts.length) : ∃ b off s t, A = some ⟨b, off, none⟩ ∧ w.cell? ⟨b, off + i * 2, none⟩ = some (.string s) ∧ w.cell? ⟨b, off + i * 2 + 1, none⟩ = some (.string t) ∧ Str s ts[i].1 ∧ Str t ts[i].2 := by
  obtain ⟨b, off, e, h0, h1⟩ := h.at_ hi
  exact ⟨b, off, _, _, e, h0, h1, Str.mk _, Str.mk _⟩

set_option maxRecDepth 100000 in
set_option maxHeartbeats 4000000 in
theorem same_calls {w : World} {A B : Option Addr} {n m ca cb : Nat} {ts us : List Tg} (hn : ts.length = n) (hm : us.length = m) (hA : Tags w A ts) (hB : Tags w B us) (zn : n ≤ 1000000) (zm : m ≤ 1000000) :
    Calls Try.prog 17 #[.slice A n ca, .slice B m cb] w fun e w' => e = .returned (.bool (decide (ts = us))) ∧ Below w.heap.size w w' := by
  by_cases hnm : n = m
  · obtain ⟨q, hq⟩ : ∃ q, decide (ts = us) = q := ⟨_, rfl⟩
    rw [hq]
    have HQ := Lib.hid hq
    clear hq
    subst hnm
    have HH := Lib.hid (And.intro hA (And.intro hB (And.intro hn hm)))
    have hg := tguard
    clear hA hB hn hm
    go_enter Try.func17, Try.ntmps17
    go_wp2_with fail
    go_loopw [5] (fun v wr => ∃ i : Nat, v = .int .i64 i ∧ i ≤ n ∧ Hid (Below w.heap.size w wr ∧ ∀ j (h : j < ts.length) (g : j < us.length), j < i → ts[j] = us[j])) (fun v _ => n - (intOf v).toNat)
    case atStart => exact ⟨0, rfl, by omega, ⟨Below.refl _ _, fun j _ _ hj => absurd hj (by omega)⟩⟩
    case round =>
      obtain ⟨i, rfl, hin, hrel⟩ := hrel
      by_cases hlt : i < n
      · have g1 : (i : Int) < (n : Int) := by omega
        obtain ⟨hA, hB, hn, hm⟩ := HH.out
        have l1 : i < ts.length := by omega
        have l2 : i < us.length := by omega
        obtain ⟨b, off, s, t, e1, c0, c1, hs, ht⟩ := (hA.keep hrel.out.1).get l1
        obtain ⟨b', off', s', t', e2, d0, d1, hs', ht'⟩ := (hB.keep hrel.out.1).get l2
        subst e1 e2
        by_cases he : ts[i] = us[i]
        · have k := tne_run hs ht hs' ht' (decide_eq_true he)
          have HE := Lib.hid he
          clear hA hB hn hm hs ht hs' ht' he
          go_wp2_with fail
          go_quiet (fail)
          go_wp2_with fail
          refine ⟨⟨i + 1, by go_num, by omega, ⟨hrel.out.1.trans (Same.drewN _ _).below, ?_⟩⟩, by simp [intOf]; omega⟩
          intro j h g hj
          rcases Nat.lt_or_ge j i with h' | h'
          · exact hrel.out.2 j h g h'
          · obtain rfl : i = j := by omega
            exact HE.out
        · have k := tne_run hs ht hs' ht' (decide_eq_false he)
          have HE := Lib.hid (show q = false by rw [← HQ.out]; exact decide_eq_false fun e => he (by subst e; rfl))
          clear hA hB hn hm hs ht hs' ht' he
          go_wp2_with fail
          go_quiet (fail)
          go_wp2_with fail
          go_ret
          exact ⟨by rw [HE.out]; first | done | rfl, hrel.out.1.trans (Same.drewN _ _).below⟩
      · have g1 : ¬ (i : Int) < (n : Int) := by omega
        have HE := Lib.hid (show q = true by
          obtain ⟨_, _, hn, hm⟩ := HH.out
          rw [← HQ.out]
          exact decide_eq_true (List.ext_getElem (by omega) fun j h g => hrel.out.2 j h g (by omega)))
        go_wp2_with fail
        go_ret
        exact ⟨by rw [HE.out]; first | done | rfl, hrel.out.1⟩
  · have he : decide (ts = us) = false := decide_eq_false fun e => hnm (by rw [← hn, ← hm, e])
    rw [he]
    clear he hA hB hn hm
    have g1 : ((n : Int) == (m : Int)) = false := by simp; omega
    go_enter Try.func17, Try.ntmps17
    go_wp2_with fail
    go_ret
    exact ⟨rfl, Below.refl _ _⟩
end Go.Proofs.Ytapkdghghnmhhaa
