/-
  The walk of TagNormal. No statement of the seat is proved here.
-/
import Derived.Test.YtapkdghghnmhhaaTRefNorm
namespace Go.Proofs.Ytapkdghghnmhhaa
open Go.RowKit

theorem few_rows {ts : List Tg} (h : few ts = true) : ts.length ≤ 60 ∧ ∀ i (hi : i < ts.length), ts[i].1.length ≤ 1000 ∧ ts[i].2.length ≤ 1000 := by
  obtain ⟨h1, h2⟩ := few_no h
  exact ⟨h1, fun i hi => by have := h2 i hi; omega⟩
theorem same_says {w : World} {A B : Option Addr} {n m ca cb : Nat} {ts us : List Tg} {q : Bool} (hn : ts.length = n) (hm : us.length = m) (hA : Tags w A ts) (hB : Tags w B us) (zn : n ≤ 1000000) (zm : m ≤ 1000000) (hq : decide (ts = us) = q) :
    Calls Try.prog 17 #[.slice A n ca, .slice B m cb] w fun e w' => e = .returned (.bool q) ∧ Below w.heap.size w w' := by subst hq; exact same_calls hn hm hA hB zn zm
theorem is_says {w : World} {A : Option Addr} {n cap : Nat} {ts : List Tg} {q : Bool} (hn : ts.length = n) (hA : Tags w A ts) (hz : n ≤ 1000) (hq : decide (ts = norm ts) = q) :
    Calls Try.prog 19 #[.slice A n cap] w fun e w' => e = .returned (.bool q) ∧ Below w.heap.size w w' := by subst hq; exact is_calls6 hn hA hz

set_option maxRecDepth 100000 in
set_option maxHeartbeats 4000000 in
theorem normal_walk {A : Option Addr} {n cap : Nat} {ts : List Tg} {w : World} (hn : ts.length = n) (hA : Tags w A ts) (hc : n ≤ maxLen) : Calls Try.prog 4 #[.slice A n cap] w fun e w' => e = .returned (.bool true) ∧ Below w.heap.size w w' := by
  obtain ⟨q, hq⟩ : ∃ q, few ts = q := ⟨_, rfl⟩
  have HF := Lib.hid (few_says (cap := cap) hn hA hc hq)
  have HA := Lib.hid (And.intro hn (And.intro hA hq))
  have HK0 := Lib.hid ((Kp.start w).row hA)
  clear hn hA hc hq
  go_enter Try.func4, Try.ntmps4
  go_wp2_with fail
  refine HF.out.mono ?_
  rintro e w1 ⟨rfl, hb⟩
  have HK1 := Lib.hid (HK0.out.next hb)
  clear hb HK0 HF
  cases q
  · go_wp2_with fail
    refine (awake_calls _).mono ?_
    rintro e w2 ⟨rfl, hb⟩
    have HK2 := Lib.hid (HK1.out.next hb)
    clear hb HK1
    go_wp2_with fail
    go_ret
    exact ⟨rfl, HK2.out.kept⟩
  · obtain ⟨hn, _, hq⟩ := HA.out
    obtain ⟨h60, hlen⟩ := few_rows hq
    have HRN := Lib.hid (rnormal_calls (cap := cap) hn (HK1.out.tags (A := A) (ts := ts) (by simp)) (by omega) hlen)
    have hnl := norm_length ts
    clear HA hq hlen
    go_wp2_with fail
    refine HRN.out.mono ?_
    rintro e w2 ⟨⟨B, cb, rfl, ht⟩, hb⟩
    have HK2 := Lib.hid ((HK1.out.next hb).row ht)
    clear hb HK1 HRN ht
    obtain ⟨p, hp⟩ : ∃ p, decide (ts = norm ts) = p := ⟨_, rfl⟩
    have HN := Lib.hid (fun w' (h : Kp w [] [(B, norm ts), (A, ts)] w') => normal_calls (cap := cap) hn (h.tags (A := A) (ts := ts) (by simp)) (by omega))
    have HI := Lib.hid (fun w' (h : Kp w [] [(B, norm ts), (A, ts)] w') => is_says (cap := cap) hn (h.tags (A := A) (ts := ts) (by simp)) (by omega) hp)
    have HS := Lib.hid (fun w' (h : Kp w [] [(B, norm ts), (A, ts)] w') => same_says (ca := cap) (cb := cb) hn rfl (h.tags (A := A) (ts := ts) (by simp)) (h.tags (A := B) (ts := norm ts) (by simp)) (by omega) (by omega) hp)
    clear hn hp
    go_wp2_with fail
    refine (HN.out _ HK2.out).mono ?_
    rintro e w3 ⟨⟨C, cc, rfl, ht⟩, hb⟩
    have HK3 := Lib.hid (HK2.out.next hb)
    have HT := Lib.hid ht
    clear hb HK2 ht HN
    go_wp2_with fail
    refine (same_true (ts := norm ts) rfl rfl HT.out (HK3.out.tags (A := B) (ts := norm ts) (by simp)) (by omega)).mono ?_
    rintro e w4 ⟨rfl, hb⟩
    have HK4 := Lib.hid (HK3.out.next hb)
    clear hb HK3 HT
    go_wp2_with fail
    refine (HI.out _ HK4.out).mono ?_
    rintro e w5 ⟨rfl, hb⟩
    have HK5 := Lib.hid (HK4.out.next hb)
    clear hb HK4 HI
    go_wp2_with fail
    refine (HS.out _ HK5.out).mono ?_
    rintro e w6 ⟨rfl, hb⟩
    have HK6 := Lib.hid (HK5.out.next hb)
    clear hb HK5 HS
    cases p
    all_goals
      go_wp2_with fail
      refine (awake_calls _).mono ?_
      rintro e w7 ⟨rfl, hb⟩
      have HK7 := Lib.hid (HK6.out.next hb)
      clear hb HK6
      go_wp2_with fail
      go_ret
      exact ⟨rfl, HK7.out.kept⟩
end Go.Proofs.Ytapkdghghnmhhaa
