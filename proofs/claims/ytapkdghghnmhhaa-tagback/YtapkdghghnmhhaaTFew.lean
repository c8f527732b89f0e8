/-
  Layer 6: Few. No statement of the seat is proved here.
-/
import Derived.Test.YtapkdghghnmhhaaTNormal2
namespace Go.Proofs.Ytapkdghghnmhhaa
open Go.RowKit

/-- Up to 60 tags, with keys and values of up to 200 bytes. -/
def few (ts : List Tg) : Bool := decide (ts.length ≤ 60 ∧ ∀ t ∈ ts, t.1.length ≤ 200 ∧ t.2.length ≤ 200)

set_option maxRecDepth 100000 in
set_option maxHeartbeats 4000000 in
theorem few_calls {w : World} {A : Option Addr} {n cap : Nat} {ts : List Tg} (hn : ts.length = n) (hA : Tags w A ts) (hz : n ≤ maxLen) :
    Calls Try.prog 10 #[.slice A n cap] w fun e w' => e = .returned (.bool (few ts)) ∧ Below w.heap.size w w' := by
  obtain ⟨q, hq⟩ : ∃ q, few ts = q := ⟨_, rfl⟩
  rw [hq]
  have HQ := Lib.hid hq
  have HA := Lib.hid (And.intro hn hA)
  unfold maxLen at hz
  clear hq hn hA
  go_enter Try.func10, Try.ntmps10
  go_wp2_with fail
  go_loopw [3] (fun v wr => ∃ i : Nat, v = .int .i64 i ∧ i ≤ n ∧ i ≤ 61 ∧ Hid (Below w.heap.size w wr ∧ ∀ j (h : j < ts.length), j < i → ts[j].1.length ≤ 200 ∧ ts[j].2.length ≤ 200)) (fun v _ => n - (intOf v).toNat)
  case atStart => exact ⟨0, rfl, by omega, by omega, ⟨Below.refl _ _, fun j _ hj => absurd hj (by omega)⟩⟩
  case round =>
    obtain ⟨i, rfl, hin, hi61, hrel⟩ := hrel
    by_cases hlt : i < n
    · have g1 : (i : Int) < (n : Int) := by omega
      by_cases h61 : i < 61
      · have g2 : (i : Int) < 61 := by omega
        obtain ⟨hn, hA⟩ := HA.out
        have l0 : i < ts.length := by omega
        obtain ⟨b, off, s, t, e1, c0, c1, hs, ht⟩ := (hA.keep hrel.out.1).get l0
        subst e1
        have z1 := hs.size
        have z2 := ht.size
        by_cases k1 : 200 < (s.size : Int)
        · have HE := Lib.hid (show q = false by
            rw [← HQ.out]
            refine decide_eq_false fun ⟨_, h⟩ => ?_
            have := (h _ (List.getElem_mem l0)).1
            omega)
          clear hn hA hs ht z1 z2
          go_wp2_with fail
          go_ret
          exact ⟨by rw [HE.out]; first | done | rfl, hrel.out.1⟩
        · by_cases k2 : 200 < (t.size : Int)
          · have HE := Lib.hid (show q = false by
              rw [← HQ.out]
              refine decide_eq_false fun ⟨_, h⟩ => ?_
              have := (h _ (List.getElem_mem l0)).2
              omega)
            clear hn hA hs ht z1 z2
            go_wp2_with fail
            go_ret
            exact ⟨by rw [HE.out]; first | done | rfl, hrel.out.1⟩
          · have HE := Lib.hid (show ts[i].1.length ≤ 200 ∧ ts[i].2.length ≤ 200 from ⟨by omega, by omega⟩)
            clear hn hA hs ht z1 z2
            go_wp2_with fail
            refine ⟨⟨i + 1, by go_num, by omega, by omega, ⟨hrel.out.1, fun j h hj => ?_⟩⟩, by simp [intOf]; omega⟩
            rcases Nat.lt_or_ge j i with h' | h'
            · exact hrel.out.2 j h h'
            · obtain rfl : i = j := by omega
              exact HE.out
      · have g2 : ¬ (i : Int) < 61 := by omega
        have g3 : ¬ n ≤ 60 := by omega
        have HE := Lib.hid (show q = false by
          rw [← HQ.out]
          refine decide_eq_false fun ⟨h, _⟩ => ?_
          have := HA.out.1
          omega)
        go_wp2_with fail
        go_ret
        exact ⟨by rw [HE.out]; simp; omega, hrel.out.1⟩
    · have g1 : ¬ (i : Int) < (n : Int) := by omega
      have HE := Lib.hid (show q = decide (n ≤ 60) by
        have hn := HA.out.1
        rw [← HQ.out]
        unfold few
        refine decide_eq_decide.2 ⟨fun h => by omega, fun h => ⟨by omega, fun t ht => ?_⟩⟩
        obtain ⟨j, hj, rfl⟩ := List.mem_iff_getElem.1 ht
        exact hrel.out.2 j hj (by omega))
      go_wp2_with fail
      go_ret
      exact ⟨by rw [HE.out]; simp; try omega, hrel.out.1⟩

theorem few_no {ts : List Tg} (h : few ts = true) : ts.length ≤ 60 ∧ ∀ i (hi : i < ts.length), ts[i].1.length ≤ 200 ∧ ts[i].2.length ≤ 200 := by
  unfold few at h
  obtain ⟨h1, h2⟩ := of_decide_eq_true h
  exact ⟨h1, fun i hi => h2 _ (List.getElem_mem hi)⟩
theorem few_says {w : World} {A : Option Addr} {n cap : Nat} {ts : List Tg} {q : Bool} (hn : ts.length = n) (hA : Tags w A ts) (hz : n ≤ maxLen) (hq : few ts = q) :
    Calls Try.prog 10 #[.slice A n cap] w fun e w' => e = .returned (.bool q) ∧ Below w.heap.size w w' := by subst hq; exact few_calls hn hA hz
end Go.Proofs.Ytapkdghghnmhhaa
