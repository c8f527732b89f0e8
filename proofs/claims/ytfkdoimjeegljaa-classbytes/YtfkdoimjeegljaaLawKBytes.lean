/-
  The walk of ClassBytes. No statement of the seat is proved here.
-/
import Derived.Test.YtfkdoimjeegljaaKRef
import Derived.Test.YtfkdoimjeegljaaKAwake
namespace Go.Proofs.Ytfkdoimjeegljaa
open Go.RowKit

theorem isOf_none {c x : Int} (h : isCls c = false) : isOf c x = false := by
  unfold isCls at h
  rw [decide_eq_false_iff_not] at h
  rw [Bool.eq_false_iff, ne_eq, isOf_iff]
  omega
theorem rIs_none (x : Int) : rIs 0 x = false := by unfold rIs; rfl
theorem len_cnt {c : Int} (hc : isCls c = true) : cntC c = (rList c).length := by
  unfold isCls at hc
  rw [decide_eq_true_eq] at hc
  rcases (by omega : c = 1 ∨ c = 2 ∨ c = 3 ∨ c = 4) with rfl | rfl | rfl | rfl <;> decide +kernel
theorem errC_yes {c : Int} (h : isCls c = true) : errC c = 0 := by unfold errC; rw [if_pos h]
theorem errC_no {c : Int} (h : isCls c = false) : errC c = 1 := by unfold errC; rw [h]; rfl
theorem cntC_no {c : Int} (h : isCls c = false) : cntC c = 0 := by unfold cntC; rw [h]; rfl
theorem cls_ne {c : Int} (h : isCls c = true) : ¬ c = 0 := by unfold isCls at h; rw [decide_eq_true_eq] at h; omega

set_option maxRecDepth 100000 in
set_option maxHeartbeats 2000000 in
theorem bytes_walk (c x : Int) (h0 : 0 ≤ x) (h1 : x < 256) (w : World) : Calls Try.prog 3 #[.int .i64 c, .int .u8 x] w fun e w' => e = .returned (.bool true) ∧ Below w.heap.size w w' := by
  obtain ⟨q, hq⟩ : ∃ q, q = isCls c := ⟨_, rfl⟩
  rcases q with _ | _
  · have HK := Lib.hid (count_says (cntC_no hq.symm) (errC_no hq.symm) w)
    have hN : ∀ W, Calls Try.prog 9 #[.int .i64 c] W fun e w' => e = .returned (.int .i64 0) ∧ Below W.heap.size W w' := by
      intro W; have := number_calls c W; rw [numC_no hq.symm] at this; exact this
    have HN := Lib.hid hN
    have hI : ∀ W, Calls Try.prog 10 #[.int .i64 c, .int .u8 x] W fun e w' => e = .returned (.bool false) ∧ Below W.heap.size W w' := by
      intro W; have := is_calls c x W; rw [isOf_none hq.symm] at this; exact this
    have HI := Lib.hid hI
    have hR : ∀ W, Calls Try.prog 11 #[.int .i64 0, .int .u8 x] W fun e w' => e = .returned (.bool false) ∧ Below W.heap.size W w' := by
      intro W; have := ris_calls 0 x W; rw [rIs_none] at this; exact this
    have HR := Lib.hid hR
    clear hN hI hR hq h0 h1
    go_enter Try.func3, Try.ntmps3
    go_wp2_with fail
    refine HK.out.mono ?_
    rintro e w1 ⟨rfl, hb⟩
    have HB1 := Lib.hid hb
    clear hb HK
    go_wp2_with fail
    refine (HN.out _).mono ?_
    rintro e w2 ⟨rfl, hb⟩
    have HB2 := Lib.hid (Below.trans HB1.out (hb.mono HB1.out.size))
    clear hb HB1 HN
    go_wp2_with fail
    refine (HI.out _).mono ?_
    rintro e w3 ⟨rfl, hb⟩
    have HB3 := Lib.hid (Below.trans HB2.out (hb.mono HB2.out.size))
    clear hb HB2 HI
    go_wp2_with fail
    refine (HR.out _).mono ?_
    rintro e w4 ⟨rfl, hb⟩
    have HB4 := Lib.hid (Below.trans HB3.out (hb.mono HB3.out.size))
    clear hb HB3 HR
    go_wp2_with fail
    refine (awake_calls _).mono ?_
    rintro e w5 ⟨rfl, hb⟩
    have HB5 := Lib.hid (Below.trans HB4.out (hb.mono HB4.out.size))
    clear hb HB4
    go_wp2_with fail
    go_ret
    exact ⟨rfl, HB5.out⟩
  · have HK := Lib.hid (count_says (len_cnt hq.symm) (errC_yes hq.symm) w)
    have hN : ∀ W, Calls Try.prog 9 #[.int .i64 c] W fun e w' => e = .returned (.int .i64 c) ∧ Below W.heap.size W w' := by
      intro W; have := number_calls c W; rw [numC_yes hq.symm] at this; exact this
    have HN := Lib.hid hN
    obtain ⟨o, ho⟩ : ∃ o, o = isOf c x := ⟨_, rfl⟩
    have hI : ∀ W, Calls Try.prog 10 #[.int .i64 c, .int .u8 x] W fun e w' => e = .returned (.bool o) ∧ Below W.heap.size W w' := by
      intro W; rw [ho]; exact is_calls c x W
    have HI := Lib.hid hI
    have hR : ∀ W, Calls Try.prog 11 #[.int .i64 c, .int .u8 x] W fun e w' => e = .returned (.bool o) ∧ Below W.heap.size W w' := by
      intro W; rw [ho, ← rIs_is hq.symm h0 h1]; exact ris_calls c x W
    have HR := Lib.hid hR
    have HY := Lib.hid (bytes_calls c)
    have hc0 := cls_ne hq.symm
    obtain ⟨n, hn⟩ : ∃ n : Int, n = (rList c).length := ⟨_, rfl⟩
    rw [← hn] at HK
    have HNN := Lib.hid hn
    clear hN hI hR hq h0 h1 ho hn
    go_enter Try.func3, Try.ntmps3
    go_wp2_with fail
    refine HK.out.mono ?_
    rintro e w1 ⟨rfl, hb⟩
    have HB1 := Lib.hid hb
    clear hb HK
    go_wp2_with fail
    refine (HN.out _).mono ?_
    rintro e w2 ⟨rfl, hb⟩
    have HB2 := Lib.hid (Below.trans HB1.out (hb.mono HB1.out.size))
    clear hb HB1 HN
    go_wp2_with fail
    refine (HI.out _).mono ?_
    rintro e w3 ⟨rfl, hb⟩
    have HB3 := Lib.hid (Below.trans HB2.out (hb.mono HB2.out.size))
    clear hb HB2 HI
    go_wp2_with fail
    refine (HR.out _).mono ?_
    rintro e w4 ⟨rfl, hb⟩
    have HB4 := Lib.hid (Below.trans HB3.out (hb.mono HB3.out.size))
    clear hb HB3 HR
    cases o
    all_goals
      go_wp2_with fail
      refine (HY.out _).mono ?_
      rintro e w5 ⟨⟨s, rfl, hs⟩, hb⟩
      have HB5 := Lib.hid (Below.trans HB4.out (hb.mono HB4.out.size))
      have hsz : ((n : Int) == (s.size : Int)) = true := by have h1 := hs.size; have h2 := HNN.out; simp; omega
      clear hb HB4 HY hs HNN
      go_wp2_with fail
      refine (awake_calls _).mono ?_
      rintro e w6 ⟨rfl, hb⟩
      have HB6 := Lib.hid (Below.trans HB5.out (hb.mono HB5.out.size))
      clear hb HB5
      go_wp2_with fail
      go_ret
      exact ⟨rfl, HB6.out⟩
end Go.Proofs.Ytfkdoimjeegljaa
