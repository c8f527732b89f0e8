/-
  Layer 7: the document's Name, Rest and Check. No statement of the seat is proved here.
-/
import Derived.Test.YtgnpakcofkhdkaaMNormal
import Derived.Test.YtgnpakcofkhdkaaTRefLess
import Derived.Test.YtgnpakcofkhdkaaDRefNorm2
namespace Go.Proofs.Ytgnpakcofkhdkaa
open Go.RowKit
open Dc (D D0)

set_option maxRecDepth 100000 in
set_option maxHeartbeats 2000000 in
theorem rcheckT_calls {s t : ByteArray} {a : Tg} (hs : Str s a.1) (ht : Str t a.2) (hz : (s.size : Int) ≤ 100000) (hz2 : (t.size : Int) ≤ 100000) (w : World) :
    Calls Try.prog 48 #[.agg #[.string s, .string t]] w fun e w' => e = .returned (.int .i64 (chkT a)) ∧ Below w.heap.size w w' := by
  obtain ⟨q, hq⟩ : ∃ q, rightT a = q := ⟨_, rfl⟩
  have hR := fun W => right_calls hs ht hz hz2 W
  rw [hq] at hR
  have hc : chkT a = if q = true then 0 else 19 := by unfold chkT; rw [hq]
  rw [hc]
  have HR := Lib.hid hR
  have HB := Lib.hid (m_below w (.cells #[.string s, .string t] 38))
  clear hR hc hq hs ht
  go_enter Try.func48, Try.ntmps48
  go_wp2_with fail
  refine (HR.out _).mono ?_
  rintro e w1 ⟨rfl, hb⟩
  have HB1 := Lib.hid (below_then HB.out hb)
  clear hb HB HR
  cases q
  all_goals
    go_wp2_with fail
    go_ret
    exact ⟨rfl, HB1.out⟩


theorem nameR_iff (l : List UInt8) : nameR l = (l.all (fun b => isOf 1 (b.toNat : Int)) && decide (1 ≤ l.length ∧ l.length ≤ 200)) := by
  rw [Bool.eq_iff_iff, Bool.and_eq_true, decide_eq_true_eq]
  unfold nameR
  rw [decide_eq_true_eq]
  constructor
  · intro h
    obtain ⟨h1, h2, h3⟩ := fault_zero h
    exact ⟨List.all_eq_true.2 h3, by omega, by omega⟩
  · rintro ⟨h1, h2, h3⟩
    have hb : bad 1 l = -1 := bad_none fun i hi => List.all_eq_true.1 h1 _ (List.getElem_mem hi)
    unfold faultOf
    rw [if_neg (by simp [isCls]), if_neg (by omega), if_neg (by omega), hb, if_neg (by omega)]

set_option maxRecDepth 100000 in
set_option maxHeartbeats 8000000 in
theorem rname_calls {s : ByteArray} {l : List UInt8} (hs : Str s l) (hz : l.length ≤ 1000) (w : World) :
    Calls Try.prog 47 #[.string s] w fun e w' => e = .returned (.bool (nameR l)) ∧ Below w.heap.size w w' := by
  have n1 := hs.size
  obtain ⟨q, hq⟩ : ∃ q, nameR l = q := ⟨_, rfl⟩
  rw [hq]
  rw [nameR_iff] at hq
  have HQ := Lib.hid hq
  have HS := Lib.hid hs
  clear hq hs
  go_enter Try.func47, Try.ntmps47
  go_wp2_with fail
  go_loopw [3] (fun v wr => ∃ i : Nat, v = .int .i64 i ∧ i ≤ s.size ∧ Hid (Below w.heap.size w wr ∧ ∀ j (h : j < l.length), j < i → isOf 1 (l[j].toNat : Int) = true)) (fun v _ => s.size - (intOf v).toNat)
  case atStart => exact ⟨0, rfl, by omega, ⟨Below.refl _ _, fun j _ hj => absurd hj (by omega)⟩⟩
  case round =>
    obtain ⟨i, rfl, hin, hrel⟩ := hrel
    by_cases hlt : i < s.size
    · have g1 : (i : Int) < (s.size : Int) := by omega
      have hl : i < l.length := by omega
      have hidx := HS.out.index (i := (i : Int)) i rfl hl
      obtain ⟨x, hx⟩ : ∃ x : Int, x = (l[i].toNat : Int) := ⟨_, rfl⟩
      rw [← hx] at hidx
      have hx0 : 0 ≤ x ∧ x < 256 := by have := l[i].toNat_lt; omega
      have HX := Lib.hid (And.intro hx hx0)
      clear hx hx0 n1
      rcases (by omega : (x < 45) ∨ (x = 45) ∨ (x = 46) ∨ (x = 47) ∨ (48 ≤ x ∧ x ≤ 57) ∨ (58 ≤ x ∧ x ≤ 64) ∨ (65 ≤ x ∧ x ≤ 90) ∨ (91 ≤ x ∧ x ≤ 94) ∨ (x = 95) ∨ (x = 96) ∨ (97 ≤ x ∧ x ≤ 122) ∨ (123 ≤ x)) with h | h | h | h | h | h | h | h | h | h | h | h
      · have HG := Lib.hid (show isOf 1 (l[i].toNat : Int) = false by rw [← HX.out.1]; first | exact isOf1.2 (by omega) | (refine Bool.eq_false_iff.2 fun k => ?_; have := isOf1.1 k; omega))
        have t0 : ¬ 97 ≤ x := by omega
        have t1 : ¬ 65 ≤ x := by omega
        have t2 : ¬ 48 ≤ x := by omega
        have t3 : x ≤ 122 := by omega
        have t4 : x ≤ 90 := by omega
        have t5 : x ≤ 57 := by omega
        have t6 : (x == 95) = false := by simp; omega
        have t7 : (x == 46) = false := by simp; omega
        have t8 : (x == 45) = false := by simp; omega
        clear h
        have HE := Lib.hid (show q = false by
          rw [← HQ.out]
          refine Bool.eq_false_iff.2 fun k => ?_
          have := List.all_eq_true.1 (Bool.and_eq_true _ _ ▸ k).1 _ (List.getElem_mem hl)
          rw [HG.out] at this; cases this)
        go_wp2_with fail
        go_ret
        exact ⟨by rw [HE.out]; first | done | rfl, hrel.out.1⟩
      · have HG := Lib.hid (show isOf 1 (l[i].toNat : Int) = true by rw [← HX.out.1]; first | exact isOf1.2 (by omega) | (refine Bool.eq_false_iff.2 fun k => ?_; have := isOf1.1 k; omega))
        subst h
        go_wp2_with fail
        refine ⟨⟨i + 1, by go_num, by omega, ⟨hrel.out.1, fun j h hj => ?_⟩⟩, by simp [intOf]; omega⟩
        rcases Nat.lt_or_ge j i with h' | h'
        · exact hrel.out.2 j h h'
        · obtain rfl : i = j := by omega
          exact HG.out
      · have HG := Lib.hid (show isOf 1 (l[i].toNat : Int) = true by rw [← HX.out.1]; first | exact isOf1.2 (by omega) | (refine Bool.eq_false_iff.2 fun k => ?_; have := isOf1.1 k; omega))
        subst h
        go_wp2_with fail
        refine ⟨⟨i + 1, by go_num, by omega, ⟨hrel.out.1, fun j h hj => ?_⟩⟩, by simp [intOf]; omega⟩
        rcases Nat.lt_or_ge j i with h' | h'
        · exact hrel.out.2 j h h'
        · obtain rfl : i = j := by omega
          exact HG.out
      · have HG := Lib.hid (show isOf 1 (l[i].toNat : Int) = false by rw [← HX.out.1]; first | exact isOf1.2 (by omega) | (refine Bool.eq_false_iff.2 fun k => ?_; have := isOf1.1 k; omega))
        subst h
        have HE := Lib.hid (show q = false by
          rw [← HQ.out]
          refine Bool.eq_false_iff.2 fun k => ?_
          have := List.all_eq_true.1 (Bool.and_eq_true _ _ ▸ k).1 _ (List.getElem_mem hl)
          rw [HG.out] at this; cases this)
        go_wp2_with fail
        go_ret
        exact ⟨by rw [HE.out]; first | done | rfl, hrel.out.1⟩
      · have HG := Lib.hid (show isOf 1 (l[i].toNat : Int) = true by rw [← HX.out.1]; first | exact isOf1.2 (by omega) | (refine Bool.eq_false_iff.2 fun k => ?_; have := isOf1.1 k; omega))
        have t0 : ¬ 97 ≤ x := by omega
        have t1 : ¬ 65 ≤ x := by omega
        have t2 : 48 ≤ x := by omega
        have t3 : x ≤ 122 := by omega
        have t4 : x ≤ 90 := by omega
        have t5 : x ≤ 57 := by omega
        have t6 : (x == 95) = false := by simp; omega
        have t7 : (x == 46) = false := by simp; omega
        have t8 : (x == 45) = false := by simp; omega
        clear h
        go_wp2_with fail
        refine ⟨⟨i + 1, by go_num, by omega, ⟨hrel.out.1, fun j h hj => ?_⟩⟩, by simp [intOf]; omega⟩
        rcases Nat.lt_or_ge j i with h' | h'
        · exact hrel.out.2 j h h'
        · obtain rfl : i = j := by omega
          exact HG.out
      · have HG := Lib.hid (show isOf 1 (l[i].toNat : Int) = false by rw [← HX.out.1]; first | exact isOf1.2 (by omega) | (refine Bool.eq_false_iff.2 fun k => ?_; have := isOf1.1 k; omega))
        have t0 : ¬ 97 ≤ x := by omega
        have t1 : ¬ 65 ≤ x := by omega
        have t2 : 48 ≤ x := by omega
        have t3 : x ≤ 122 := by omega
        have t4 : x ≤ 90 := by omega
        have t5 : ¬ x ≤ 57 := by omega
        have t6 : (x == 95) = false := by simp; omega
        have t7 : (x == 46) = false := by simp; omega
        have t8 : (x == 45) = false := by simp; omega
        clear h
        have HE := Lib.hid (show q = false by
          rw [← HQ.out]
          refine Bool.eq_false_iff.2 fun k => ?_
          have := List.all_eq_true.1 (Bool.and_eq_true _ _ ▸ k).1 _ (List.getElem_mem hl)
          rw [HG.out] at this; cases this)
        go_wp2_with fail
        go_ret
        exact ⟨by rw [HE.out]; first | done | rfl, hrel.out.1⟩
      · have HG := Lib.hid (show isOf 1 (l[i].toNat : Int) = true by rw [← HX.out.1]; first | exact isOf1.2 (by omega) | (refine Bool.eq_false_iff.2 fun k => ?_; have := isOf1.1 k; omega))
        have t0 : ¬ 97 ≤ x := by omega
        have t1 : 65 ≤ x := by omega
        have t2 : 48 ≤ x := by omega
        have t3 : x ≤ 122 := by omega
        have t4 : x ≤ 90 := by omega
        have t5 : ¬ x ≤ 57 := by omega
        have t6 : (x == 95) = false := by simp; omega
        have t7 : (x == 46) = false := by simp; omega
        have t8 : (x == 45) = false := by simp; omega
        clear h
        go_wp2_with fail
        refine ⟨⟨i + 1, by go_num, by omega, ⟨hrel.out.1, fun j h hj => ?_⟩⟩, by simp [intOf]; omega⟩
        rcases Nat.lt_or_ge j i with h' | h'
        · exact hrel.out.2 j h h'
        · obtain rfl : i = j := by omega
          exact HG.out
      · have HG := Lib.hid (show isOf 1 (l[i].toNat : Int) = false by rw [← HX.out.1]; first | exact isOf1.2 (by omega) | (refine Bool.eq_false_iff.2 fun k => ?_; have := isOf1.1 k; omega))
        have t0 : ¬ 97 ≤ x := by omega
        have t1 : 65 ≤ x := by omega
        have t2 : 48 ≤ x := by omega
        have t3 : x ≤ 122 := by omega
        have t4 : ¬ x ≤ 90 := by omega
        have t5 : ¬ x ≤ 57 := by omega
        have t6 : (x == 95) = false := by simp; omega
        have t7 : (x == 46) = false := by simp; omega
        have t8 : (x == 45) = false := by simp; omega
        clear h
        have HE := Lib.hid (show q = false by
          rw [← HQ.out]
          refine Bool.eq_false_iff.2 fun k => ?_
          have := List.all_eq_true.1 (Bool.and_eq_true _ _ ▸ k).1 _ (List.getElem_mem hl)
          rw [HG.out] at this; cases this)
        go_wp2_with fail
        go_ret
        exact ⟨by rw [HE.out]; first | done | rfl, hrel.out.1⟩
      · have HG := Lib.hid (show isOf 1 (l[i].toNat : Int) = true by rw [← HX.out.1]; first | exact isOf1.2 (by omega) | (refine Bool.eq_false_iff.2 fun k => ?_; have := isOf1.1 k; omega))
        subst h
        go_wp2_with fail
        refine ⟨⟨i + 1, by go_num, by omega, ⟨hrel.out.1, fun j h hj => ?_⟩⟩, by simp [intOf]; omega⟩
        rcases Nat.lt_or_ge j i with h' | h'
        · exact hrel.out.2 j h h'
        · obtain rfl : i = j := by omega
          exact HG.out
      · have HG := Lib.hid (show isOf 1 (l[i].toNat : Int) = false by rw [← HX.out.1]; first | exact isOf1.2 (by omega) | (refine Bool.eq_false_iff.2 fun k => ?_; have := isOf1.1 k; omega))
        subst h
        have HE := Lib.hid (show q = false by
          rw [← HQ.out]
          refine Bool.eq_false_iff.2 fun k => ?_
          have := List.all_eq_true.1 (Bool.and_eq_true _ _ ▸ k).1 _ (List.getElem_mem hl)
          rw [HG.out] at this; cases this)
        go_wp2_with fail
        go_ret
        exact ⟨by rw [HE.out]; first | done | rfl, hrel.out.1⟩
      · have HG := Lib.hid (show isOf 1 (l[i].toNat : Int) = true by rw [← HX.out.1]; first | exact isOf1.2 (by omega) | (refine Bool.eq_false_iff.2 fun k => ?_; have := isOf1.1 k; omega))
        have t0 : 97 ≤ x := by omega
        have t1 : 65 ≤ x := by omega
        have t2 : 48 ≤ x := by omega
        have t3 : x ≤ 122 := by omega
        have t4 : ¬ x ≤ 90 := by omega
        have t5 : ¬ x ≤ 57 := by omega
        have t6 : (x == 95) = false := by simp; omega
        have t7 : (x == 46) = false := by simp; omega
        have t8 : (x == 45) = false := by simp; omega
        clear h
        go_wp2_with fail
        refine ⟨⟨i + 1, by go_num, by omega, ⟨hrel.out.1, fun j h hj => ?_⟩⟩, by simp [intOf]; omega⟩
        rcases Nat.lt_or_ge j i with h' | h'
        · exact hrel.out.2 j h h'
        · obtain rfl : i = j := by omega
          exact HG.out
      · have HG := Lib.hid (show isOf 1 (l[i].toNat : Int) = false by rw [← HX.out.1]; first | exact isOf1.2 (by omega) | (refine Bool.eq_false_iff.2 fun k => ?_; have := isOf1.1 k; omega))
        have t0 : 97 ≤ x := by omega
        have t1 : 65 ≤ x := by omega
        have t2 : 48 ≤ x := by omega
        have t3 : ¬ x ≤ 122 := by omega
        have t4 : ¬ x ≤ 90 := by omega
        have t5 : ¬ x ≤ 57 := by omega
        have t6 : (x == 95) = false := by simp; omega
        have t7 : (x == 46) = false := by simp; omega
        have t8 : (x == 45) = false := by simp; omega
        clear h
        have HE := Lib.hid (show q = false by
          rw [← HQ.out]
          refine Bool.eq_false_iff.2 fun k => ?_
          have := List.all_eq_true.1 (Bool.and_eq_true _ _ ▸ k).1 _ (List.getElem_mem hl)
          rw [HG.out] at this; cases this)
        go_wp2_with fail
        go_ret
        exact ⟨by rw [HE.out]; first | done | rfl, hrel.out.1⟩
    · have g1 : ¬ (i : Int) < (s.size : Int) := by omega
      have HE := Lib.hid (show q = decide (1 ≤ l.length ∧ l.length ≤ 200) by
        rw [← HQ.out, List.all_eq_true.2 (fun b hb => ?_), Bool.true_and]
        obtain ⟨j, hj, rfl⟩ := List.mem_iff_getElem.1 hb
        exact hrel.out.2 j hj (by omega))
      rcases (by omega : (s.size : Int) < 1 ∨ (1 ≤ (s.size : Int) ∧ ¬ (s.size : Int) ≤ 200) ∨ (1 ≤ (s.size : Int) ∧ (s.size : Int) ≤ 200)) with h | ⟨h, h2⟩ | ⟨h, h2⟩
      · have HF := Lib.hid (show q = false by rw [HE.out]; exact decide_eq_false (by omega))
        have h' : ¬ 1 ≤ (s.size : Int) := by omega
        go_wp2_with fail
        go_ret
        exact ⟨by rw [HF.out]; first | done | rfl | (simp; omega), hrel.out.1⟩
      · have HF := Lib.hid (show q = false by rw [HE.out]; exact decide_eq_false (by omega))
        go_wp2_with fail
        go_ret
        exact ⟨by rw [HF.out]; first | done | rfl | (simp; omega), hrel.out.1⟩
      · have HF := Lib.hid (show q = true by rw [HE.out]; exact decide_eq_true (by omega))
        go_wp2_with fail
        go_ret
        exact ⟨by rw [HF.out]; first | done | rfl | (simp; omega), hrel.out.1⟩
end Go.Proofs.Ytgnpakcofkhdkaa
