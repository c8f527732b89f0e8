/-
  MRef1, MRef2. No statement of the seat is proved here.
-/
import Derived.Test.YteffankkelbhiaaMNormal
import Derived.Test.YteffankkelbhiaaTRefLess
import Derived.Test.YteffankkelbhiaaDRefN
/-
  Layer 7: the document's Name, Rest and Check. No statement of the seat is proved here.
-/
namespace Go.Proofs.Yteffankkelbhiaa
open Go.RowKit
open Dc (D D0)

set_option maxRecDepth 100000 in
set_option maxHeartbeats 2000000 in
theorem rcheckT_calls {s t : ByteArray} {a : Tg} (hs : Str s a.1) (ht : Str t a.2) (hz : (s.size : Int) ≤ 100000) (hz2 : (t.size : Int) ≤ 100000) (w : World) :
    Calls Try.prog 55 #[.agg #[.string s, .string t]] w fun e w' => e = .returned (.int .i64 (chkT a)) ∧ Below w.heap.size w w' := by
  obtain ⟨q, hq⟩ : ∃ q, rightT a = q := ⟨_, rfl⟩
  have hR := fun W => right_calls hs ht hz hz2 W
  rw [hq] at hR
  have hc : chkT a = if q = true then 0 else 19 := by unfold chkT; rw [hq]
  rw [hc]
  have HR := Lib.hid hR
  have HB := Lib.hid (m_below w (.cells #[.string s, .string t] 47))
  clear hR hc hq hs ht
  go_enter Try.func55, Try.ntmps55
  go_wp2_with fail
  refine (HR.out _).mono ?_
  rintro e w1 ⟨rfl, hb⟩
  have HB1 := Lib.hid (below_then HB.out hb)
  clear hb HB HR
  cases q
  all_goals
    go_wp2_with fail
    go_ret
    exact ⟨rfl, HB1.out⟩


theorem nameR_iff (l : List UInt8) : nameR l = (l.all (fun b => isOf 1 (b.toNat : Int)) && decide (1 ≤ l.length ∧ l.length ≤ 200)) := by
  rw [Bool.eq_iff_iff, Bool.and_eq_true, decide_eq_true_eq]
  unfold nameR
  rw [decide_eq_true_eq]
  constructor
  · intro h
    obtain ⟨h1, h2, h3⟩ := fault_zero h
    exact ⟨List.all_eq_true.2 h3, by omega, by omega⟩
  · rintro ⟨h1, h2, h3⟩
    have hb : bad 1 l = -1 := bad_none fun i hi => List.all_eq_true.1 h1 _ (List.getElem_mem hi)
    unfold faultOf
    rw [if_neg (by simp [isCls]), if_neg (by omega), if_neg (by omega), hb, if_neg (by omega)]

set_option maxRecDepth 100000 in
set_option maxHeartbeats 8000000 in
theorem rname_calls {s : ByteArray} {l : List UInt8} (hs : Str s l) (hz : l.length ≤ 1000) (w : World) :
    Calls Try.prog 54 #[.string s] w fun e w' => e = .returned (.bool (nameR l)) ∧ Below w.heap.size w w' := by
  have n1 := hs.size
  obtain ⟨q, hq⟩ : ∃ q, nameR l = q := ⟨_, rfl⟩
  rw [hq]
  rw [nameR_iff] at hq
  have HQ := Lib.hid hq
  have HS := Lib.hid hs
  clear hq hs
  go_enter Try.func54, Try.ntmps54
  go_wp2_with fail
  go_loopw [3] (fun v wr => ∃ i : Nat, v = .int .i64 i ∧ i ≤ s.size ∧ Hid (Below w.heap.size w wr ∧ ∀ j (h : j < l.length), j < i → isOf 1 (l[j].toNat : Int) = true)) (fun v _ => s.size - (intOf v).toNat)
  case atStart => exact ⟨0, rfl, by omega, ⟨Below.refl _ _, fun j _ hj => absurd hj (by omega)⟩⟩
  case round =>
    obtain ⟨i, rfl, hin, hrel⟩ := hrel
    by_cases hlt : i < s.size
    · have g1 : (i : Int) < (s.size : Int) := by omega
      have hl : i < l.length := by omega
      have hidx := HS.out.index (i := (i : Int)) i rfl hl
      obtain ⟨x, hx⟩ : ∃ x : Int, x = (l[i].toNat : Int) := ⟨_, rfl⟩
      rw [← hx] at hidx
      have hx0 : 0 ≤ x ∧ x < 256 := by have := l[i].toNat_lt; omega
      have HX := Lib.hid (And.intro hx hx0)
      clear hx hx0 n1
      rcases (by omega : (x < 45) ∨ (x = 45) ∨ (x = 46) ∨ (x = 47) ∨ (48 ≤ x ∧ x ≤ 57) ∨ (58 ≤ x ∧ x ≤ 64) ∨ (65 ≤ x ∧ x ≤ 90) ∨ (91 ≤ x ∧ x ≤ 94) ∨ (x = 95) ∨ (x = 96) ∨ (97 ≤ x ∧ x ≤ 122) ∨ (123 ≤ x)) with h | h | h | h | h | h | h | h | h | h | h | h
      · have HG := Lib.hid (show isOf 1 (l[i].toNat : Int) = false by rw [← HX.out.1]; first | exact isOf1.2 (by omega) | (refine Bool.eq_false_iff.2 fun k => ?_; have := isOf1.1 k; omega))
        have t0 : ¬ 97 ≤ x := by omega
        have t1 : ¬ 65 ≤ x := by omega
        have t2 : ¬ 48 ≤ x := by omega
        have t3 : x ≤ 122 := by omega
        have t4 : x ≤ 90 := by omega
        have t5 : x ≤ 57 := by omega
        have t6 : (x == 95) = false := by simp; omega
        have t7 : (x == 46) = false := by simp; omega
        have t8 : (x == 45) = false := by simp; omega
        clear h
        have HE := Lib.hid (show q = false by
          rw [← HQ.out]
          refine Bool.eq_false_iff.2 fun k => ?_
          have := List.all_eq_true.1 (Bool.and_eq_true _ _ ▸ k).1 _ (List.getElem_mem hl)
          rw [HG.out] at this; cases this)
        go_wp2_with fail
        go_ret
        exact ⟨by rw [HE.out]; first | done | rfl, hrel.out.1⟩
      · have HG := Lib.hid (show isOf 1 (l[i].toNat : Int) = true by rw [← HX.out.1]; first | exact isOf1.2 (by omega) | (refine Bool.eq_false_iff.2 fun k => ?_; have := isOf1.1 k; omega))
        subst h
        go_wp2_with fail
        refine ⟨⟨i + 1, by go_num, by omega, ⟨hrel.out.1, fun j h hj => ?_⟩⟩, by simp [intOf]; omega⟩
        rcases Nat.lt_or_ge j i with h' | h'
        · exact hrel.out.2 j h h'
        · obtain rfl : i = j := by omega
          exact HG.out
      · have HG := Lib.hid (show isOf 1 (l[i].toNat : Int) = true by rw [← HX.out.1]; first | exact isOf1.2 (by omega) | (refine Bool.eq_false_iff.2 fun k => ?_; have := isOf1.1 k; omega))
        subst h
        go_wp2_with fail
        refine ⟨⟨i + 1, by go_num, by omega, ⟨hrel.out.1, fun j h hj => ?_⟩⟩, by simp [intOf]; omega⟩
        rcases Nat.lt_or_ge j i with h' | h'
        · exact hrel.out.2 j h h'
        · obtain rfl : i = j := by omega
          exact HG.out
      · have HG := Lib.hid (show isOf 1 (l[i].toNat : Int) = false by rw [← HX.out.1]; first | exact isOf1.2 (by omega) | (refine Bool.eq_false_iff.2 fun k => ?_; have := isOf1.1 k; omega))
        subst h
        have HE := Lib.hid (show q = false by
          rw [← HQ.out]
          refine Bool.eq_false_iff.2 fun k => ?_
          have := List.all_eq_true.1 (Bool.and_eq_true _ _ ▸ k).1 _ (List.getElem_mem hl)
          rw [HG.out] at this; cases this)
        go_wp2_with fail
        go_ret
        exact ⟨by rw [HE.out]; first | done | rfl, hrel.out.1⟩
      · have HG := Lib.hid (show isOf 1 (l[i].toNat : Int) = true by rw [← HX.out.1]; first | exact isOf1.2 (by omega) | (refine Bool.eq_false_iff.2 fun k => ?_; have := isOf1.1 k; omega))
        have t0 : ¬ 97 ≤ x := by omega
        have t1 : ¬ 65 ≤ x := by omega
        have t2 : 48 ≤ x := by omega
        have t3 : x ≤ 122 := by omega
        have t4 : x ≤ 90 := by omega
        have t5 : x ≤ 57 := by omega
        have t6 : (x == 95) = false := by simp; omega
        have t7 : (x == 46) = false := by simp; omega
        have t8 : (x == 45) = false := by simp; omega
        clear h
        go_wp2_with fail
        refine ⟨⟨i + 1, by go_num, by omega, ⟨hrel.out.1, fun j h hj => ?_⟩⟩, by simp [intOf]; omega⟩
        rcases Nat.lt_or_ge j i with h' | h'
        · exact hrel.out.2 j h h'
        · obtain rfl : i = j := by omega
          exact HG.out
      · have HG := Lib.hid (show isOf 1 (l[i].toNat : Int) = false by rw [← HX.out.1]; first | exact isOf1.2 (by omega) | (refine Bool.eq_false_iff.2 fun k => ?_; have := isOf1.1 k; omega))
        have t0 : ¬ 97 ≤ x := by omega
        have t1 : ¬ 65 ≤ x := by omega
        have t2 : 48 ≤ x := by omega
        have t3 : x ≤ 122 := by omega
        have t4 : x ≤ 90 := by omega
        have t5 : ¬ x ≤ 57 := by omega
        have t6 : (x == 95) = false := by simp; omega
        have t7 : (x == 46) = false := by simp; omega
        have t8 : (x == 45) = false := by simp; omega
        clear h
        have HE := Lib.hid (show q = false by
          rw [← HQ.out]
          refine Bool.eq_false_iff.2 fun k => ?_
          have := List.all_eq_true.1 (Bool.and_eq_true _ _ ▸ k).1 _ (List.getElem_mem hl)
          rw [HG.out] at this; cases this)
        go_wp2_with fail
        go_ret
        exact ⟨by rw [HE.out]; first | done | rfl, hrel.out.1⟩
      · have HG := Lib.hid (show isOf 1 (l[i].toNat : Int) = true by rw [← HX.out.1]; first | exact isOf1.2 (by omega) | (refine Bool.eq_false_iff.2 fun k => ?_; have := isOf1.1 k; omega))
        have t0 : ¬ 97 ≤ x := by omega
        have t1 : 65 ≤ x := by omega
        have t2 : 48 ≤ x := by omega
        have t3 : x ≤ 122 := by omega
        have t4 : x ≤ 90 := by omega
        have t5 : ¬ x ≤ 57 := by omega
        have t6 : (x == 95) = false := by simp; omega
        have t7 : (x == 46) = false := by simp; omega
        have t8 : (x == 45) = false := by simp; omega
        clear h
        go_wp2_with fail
        refine ⟨⟨i + 1, by go_num, by omega, ⟨hrel.out.1, fun j h hj => ?_⟩⟩, by simp [intOf]; omega⟩
        rcases Nat.lt_or_ge j i with h' | h'
        · exact hrel.out.2 j h h'
        · obtain rfl : i = j := by omega
          exact HG.out
      · have HG := Lib.hid (show isOf 1 (l[i].toNat : Int) = false by rw [← HX.out.1]; first | exact isOf1.2 (by omega) | (refine Bool.eq_false_iff.2 fun k => ?_; have := isOf1.1 k; omega))
        have t0 : ¬ 97 ≤ x := by omega
        have t1 : 65 ≤ x := by omega
        have t2 : 48 ≤ x := by omega
        have t3 : x ≤ 122 := by omega
        have t4 : ¬ x ≤ 90 := by omega
        have t5 : ¬ x ≤ 57 := by omega
        have t6 : (x == 95) = false := by simp; omega
        have t7 : (x == 46) = false := by simp; omega
        have t8 : (x == 45) = false := by simp; omega
        clear h
        have HE := Lib.hid (show q = false by
          rw [← HQ.out]
          refine Bool.eq_false_iff.2 fun k => ?_
          have := List.all_eq_true.1 (Bool.and_eq_true _ _ ▸ k).1 _ (List.getElem_mem hl)
          rw [HG.out] at this; cases this)
        go_wp2_with fail
        go_ret
        exact ⟨by rw [HE.out]; first | done | rfl, hrel.out.1⟩
      · have HG := Lib.hid (show isOf 1 (l[i].toNat : Int) = true by rw [← HX.out.1]; first | exact isOf1.2 (by omega) | (refine Bool.eq_false_iff.2 fun k => ?_; have := isOf1.1 k; omega))
        subst h
        go_wp2_with fail
        refine ⟨⟨i + 1, by go_num, by omega, ⟨hrel.out.1, fun j h hj => ?_⟩⟩, by simp [intOf]; omega⟩
        rcases Nat.lt_or_ge j i with h' | h'
        · exact hrel.out.2 j h h'
        · obtain rfl : i = j := by omega
          exact HG.out
      · have HG := Lib.hid (show isOf 1 (l[i].toNat : Int) = false by rw [← HX.out.1]; first | exact isOf1.2 (by omega) | (refine Bool.eq_false_iff.2 fun k => ?_; have := isOf1.1 k; omega))
        subst h
        have HE := Lib.hid (show q = false by
          rw [← HQ.out]
          refine Bool.eq_false_iff.2 fun k => ?_
          have := List.all_eq_true.1 (Bool.and_eq_true _ _ ▸ k).1 _ (List.getElem_mem hl)
          rw [HG.out] at this; cases this)
        go_wp2_with fail
        go_ret
        exact ⟨by rw [HE.out]; first | done | rfl, hrel.out.1⟩
      · have HG := Lib.hid (show isOf 1 (l[i].toNat : Int) = true by rw [← HX.out.1]; first | exact isOf1.2 (by omega) | (refine Bool.eq_false_iff.2 fun k => ?_; have := isOf1.1 k; omega))
        have t0 : 97 ≤ x := by omega
        have t1 : 65 ≤ x := by omega
        have t2 : 48 ≤ x := by omega
        have t3 : x ≤ 122 := by omega
        have t4 : ¬ x ≤ 90 := by omega
        have t5 : ¬ x ≤ 57 := by omega
        have t6 : (x == 95) = false := by simp; omega
        have t7 : (x == 46) = false := by simp; omega
        have t8 : (x == 45) = false := by simp; omega
        clear h
        go_wp2_with fail
        refine ⟨⟨i + 1, by go_num, by omega, ⟨hrel.out.1, fun j h hj => ?_⟩⟩, by simp [intOf]; omega⟩
        rcases Nat.lt_or_ge j i with h' | h'
        · exact hrel.out.2 j h h'
        · obtain rfl : i = j := by omega
          exact HG.out
      · have HG := Lib.hid (show isOf 1 (l[i].toNat : Int) = false by rw [← HX.out.1]; first | exact isOf1.2 (by omega) | (refine Bool.eq_false_iff.2 fun k => ?_; have := isOf1.1 k; omega))
        have t0 : 97 ≤ x := by omega
        have t1 : 65 ≤ x := by omega
        have t2 : 48 ≤ x := by omega
        have t3 : ¬ x ≤ 122 := by omega
        have t4 : ¬ x ≤ 90 := by omega
        have t5 : ¬ x ≤ 57 := by omega
        have t6 : (x == 95) = false := by simp; omega
        have t7 : (x == 46) = false := by simp; omega
        have t8 : (x == 45) = false := by simp; omega
        clear h
        have HE := Lib.hid (show q = false by
          rw [← HQ.out]
          refine Bool.eq_false_iff.2 fun k => ?_
          have := List.all_eq_true.1 (Bool.and_eq_true _ _ ▸ k).1 _ (List.getElem_mem hl)
          rw [HG.out] at this; cases this)
        go_wp2_with fail
        go_ret
        exact ⟨by rw [HE.out]; first | done | rfl, hrel.out.1⟩
    · have g1 : ¬ (i : Int) < (s.size : Int) := by omega
      have HE := Lib.hid (show q = decide (1 ≤ l.length ∧ l.length ≤ 200) by
        rw [← HQ.out, List.all_eq_true.2 (fun b hb => ?_), Bool.true_and]
        obtain ⟨j, hj, rfl⟩ := List.mem_iff_getElem.1 hb
        exact hrel.out.2 j hj (by omega))
      rcases (by omega : (s.size : Int) < 1 ∨ (1 ≤ (s.size : Int) ∧ ¬ (s.size : Int) ≤ 200) ∨ (1 ≤ (s.size : Int) ∧ (s.size : Int) ≤ 200)) with h | ⟨h, h2⟩ | ⟨h, h2⟩
      · have HF := Lib.hid (show q = false by rw [HE.out]; exact decide_eq_false (by omega))
        have h' : ¬ 1 ≤ (s.size : Int) := by omega
        go_wp2_with fail
        go_ret
        exact ⟨by rw [HF.out]; first | done | rfl | (simp; omega), hrel.out.1⟩
      · have HF := Lib.hid (show q = false by rw [HE.out]; exact decide_eq_false (by omega))
        go_wp2_with fail
        go_ret
        exact ⟨by rw [HF.out]; first | done | rfl | (simp; omega), hrel.out.1⟩
      · have HF := Lib.hid (show q = true by rw [HE.out]; exact decide_eq_true (by omega))
        go_wp2_with fail
        go_ret
        exact ⟨by rw [HF.out]; first | done | rfl | (simp; omega), hrel.out.1⟩
end Go.Proofs.Yteffankkelbhiaa

/-
  Layer 7: the document's Rest and Check. No statement of the seat is proved here.
-/
namespace Go.Proofs.Yteffankkelbhiaa
open Go.RowKit
open Dc (D D0)

section
variable {m : Mt} {ok : Bool}
theorem rest15 (h : nameR m.name = false) : restM m ok = 15 := by unfold restM; rw [if_pos h]
theorem rest16 (h0 : nameR m.name = true) (h : kindR m.kind = false) : restM m ok = 16 := by unfold restM; simp [h0, h]
theorem rest17 (h0 : nameR m.name = true) (h1 : kindR m.kind = true) (h : valsR ok m.vals.length = false) : restM m ok = 17 := by unfold restM; simp [h0, h1, h]
theorem rest18 (h0 : nameR m.name = true) (h1 : kindR m.kind = true) (h2 : valsR ok m.vals.length = true) (h : rateR m.kind m.rate = false) : restM m ok = 18 := by unfold restM; simp [h0, h1, h2, h]
theorem rest19 (h0 : nameR m.name = true) (h1 : kindR m.kind = true) (h2 : valsR ok m.vals.length = true) (h3 : rateR m.kind m.rate = true) (h : tagsR m.tags = false) : restM m ok = 19 := by unfold restM; simp [h0, h1, h2, h3, h]
theorem rest20 (h0 : nameR m.name = true) (h1 : kindR m.kind = true) (h2 : valsR ok m.vals.length = true) (h3 : rateR m.kind m.rate = true) (h4 : tagsR m.tags = true) (h : timeR m.time = false) : restM m ok = 20 := by unfold restM; simp [h0, h1, h2, h3, h4, h]
theorem rest0 (h0 : nameR m.name = true) (h1 : kindR m.kind = true) (h2 : valsR ok m.vals.length = true) (h3 : rateR m.kind m.rate = true) (h4 : tagsR m.tags = true) (h : timeR m.time = true) : restM m ok = 0 := by unfold restM; simp [h0, h1, h2, h3, h4, h]
end

section
variable {w : World} {s : ByteArray} {A B : Option Addr} {n k ca cb : Nat} {m : Mt}
set_option maxRecDepth 100000 in
set_option maxHeartbeats 8000000 in
theorem rest_calls (h : MIs w s A n B k m) (hz : Small m) (ok : Bool) : Calls Try.prog 41 #[mV s m.kind A n ca m.rate B k cb m.time, .bool ok] w fun e w' => e = .returned (.int .i64 (restM m ok)) ∧ Below w.heap.size w w' := by
  obtain ⟨q, hq⟩ : ∃ q, restM m ok = q := ⟨_, rfl⟩
  rw [hq]
  have HQ := Lib.hid hq
  have hN := fun W => rname_calls h.name hz.name W
  obtain ⟨qn, hqn⟩ : ∃ q, nameR m.name = q := ⟨_, rfl⟩
  rw [hqn] at hN
  have HN := Lib.hid hN
  have HH := Lib.hid (And.intro h (And.intro hz hqn))
  obtain ⟨kd, hkd⟩ : ∃ x, x = m.kind := ⟨_, rfl⟩
  obtain ⟨rt, hrt⟩ : ∃ x, x = m.rate := ⟨_, rfl⟩
  obtain ⟨tm, htm⟩ : ∃ x, x = m.time := ⟨_, rfl⟩
  rw [← hkd, ← hrt, ← htm]
  have HK := Lib.hid (And.intro hkd (And.intro hrt (And.intro htm (And.intro h.vlen h.tlen))))
  have b0 := (Kb.start w).push 25 (mC s kd A n ca rt B k cb tm)
  unfold mC at b0
  have HB := Lib.hid b0
  have hk200 : k ≤ 200 := by have := h.tlen; have := hz.tags; omega
  unfold mV
  clear hq hN hqn hkd hrt htm b0 h hz
  go_enter Try.func41, Try.ntmps41
  go_wp2_with fail
  refine (HN.out _).mono ?_
  rintro e w1 ⟨rfl, hb⟩
  have HB1 := Lib.hid (HB.out.next hb)
  have c1 : w1.cell? ⟨w.heap.size, 1, none⟩ = some (.int .i64 kd) := HB1.out.cell (.head _) rfl
  have c2 : w1.cell? ⟨w.heap.size, 2, none⟩ = some (.slice A n ca) := HB1.out.cell (.head _) rfl
  have c3 : w1.cell? ⟨w.heap.size, 3, none⟩ = some (.int .i64 rt) := HB1.out.cell (.head _) rfl
  have c4 : w1.cell? ⟨w.heap.size, 4, none⟩ = some (.slice B k cb) := HB1.out.cell (.head _) rfl
  have c5 : w1.cell? ⟨w.heap.size, 5, none⟩ = some (.int .i64 tm) := HB1.out.cell (.head _) rfl
  clear hb HB HN
  cases qn
  · have HE := Lib.hid (show q = 15 by rw [← HQ.out]; exact rest15 HH.out.2.2)
    go_wp2_with fail
    go_ret
    exact ⟨by rw [HE.out]; rfl, HB1.out.kept⟩
  have H0 := Lib.hid HH.out.2.2
  rcases (by omega : kd < 1 ∨ (¬ kd < 1 ∧ 5 < kd) ∨ (¬ kd < 1 ∧ ¬ 5 < kd)) with k1 | ⟨k1, k2⟩ | ⟨k1, k2⟩
  · have HE := Lib.hid (show q = 16 by rw [← HQ.out]; refine rest16 H0.out ?_; rw [← HK.out.1]; exact decide_eq_false (by omega))
    go_wp2_with fail
    go_ret
    exact ⟨by rw [HE.out]; rfl, HB1.out.kept⟩
  · have HE := Lib.hid (show q = 16 by rw [← HQ.out]; refine rest16 H0.out ?_; rw [← HK.out.1]; exact decide_eq_false (by omega))
    go_wp2_with fail
    go_ret
    exact ⟨by rw [HE.out]; rfl, HB1.out.kept⟩
  have H1 := Lib.hid (show kindR m.kind = true by rw [← HK.out.1]; exact decide_eq_true (by omega))
  rcases (by cases ok <;> simp <;> omega : ok = false ∨ (ok = true ∧ (n : Int) < 1) ∨ (ok = true ∧ ¬ (n : Int) < 1 ∧ 64 < (n : Int)) ∨ (ok = true ∧ ¬ (n : Int) < 1 ∧ ¬ 64 < (n : Int))) with rfl | ⟨rfl, v1⟩ | ⟨rfl, v1, v2⟩ | ⟨rfl, v1, v2⟩
  · have HE := Lib.hid (show q = 17 by rw [← HQ.out]; exact rest17 H0.out H1.out rfl)
    go_wp2_with fail
    go_ret
    exact ⟨by rw [HE.out]; rfl, HB1.out.kept⟩
  · have HE := Lib.hid (show q = 17 by rw [← HQ.out]; refine rest17 H0.out H1.out ?_; rw [HK.out.2.2.2.1]; unfold valsR; rw [decide_eq_false (by omega)]; rfl)
    go_wp2_with fail
    go_ret
    exact ⟨by rw [HE.out]; rfl, HB1.out.kept⟩
  · have HE := Lib.hid (show q = 17 by rw [← HQ.out]; refine rest17 H0.out H1.out ?_; rw [HK.out.2.2.2.1]; unfold valsR; rw [decide_eq_false (by omega)]; rfl)
    go_wp2_with fail
    go_ret
    exact ⟨by rw [HE.out]; rfl, HB1.out.kept⟩
  have H2 := Lib.hid (show valsR true m.vals.length = true by rw [HK.out.2.2.2.1]; unfold valsR; rw [decide_eq_true (by omega)]; rfl)
  rcases (by omega : rt < 1 ∨ (¬ rt < 1 ∧ 1000000 < rt) ∨ (¬ rt < 1 ∧ ¬ 1000000 < rt ∧ kd = 2 ∧ rt ≠ 1000000) ∨ (¬ rt < 1 ∧ ¬ 1000000 < rt ∧ (kd ≠ 2 ∨ rt = 1000000))) with r1 | ⟨r1, r2⟩ | ⟨r1, r2, r3, r4⟩ | ⟨r1, r2, r3⟩
  · have HE := Lib.hid (show q = 18 by rw [← HQ.out]; refine rest18 H0.out H1.out H2.out ?_; rw [← HK.out.1, ← HK.out.2.1]; exact decide_eq_false (by omega))
    go_wp2_with fail
    go_ret
    exact ⟨by rw [HE.out]; rfl, HB1.out.kept⟩
  · have HE := Lib.hid (show q = 18 by rw [← HQ.out]; refine rest18 H0.out H1.out H2.out ?_; rw [← HK.out.1, ← HK.out.2.1]; exact decide_eq_false (by omega))
    go_wp2_with fail
    go_ret
    exact ⟨by rw [HE.out]; rfl, HB1.out.kept⟩
  · have HE := Lib.hid (show q = 18 by rw [← HQ.out]; refine rest18 H0.out H1.out H2.out ?_; rw [← HK.out.1, ← HK.out.2.1]; exact decide_eq_false (by omega))
    subst r3
    have r5 : (rt != 1000000) = true := by simpa using r4
    go_wp2_with fail
    go_ret
    exact ⟨by rw [HE.out]; rfl, HB1.out.kept⟩
  have H3 := Lib.hid (show rateR m.kind m.rate = true by rw [← HK.out.1, ← HK.out.2.1]; exact decide_eq_true (by omega))
  have hrate : ((kd == 2) = false) ∨ (kd = 2 ∧ rt = 1000000) := by
    by_cases h : kd = 2
    · exact .inr ⟨h, by omega⟩
    · exact .inl (by simpa using h)
  clear r3
  by_cases t1 : 32 < (k : Int)
  · have HE := Lib.hid (show q = 19 by rw [← HQ.out]; refine rest19 H0.out H1.out H2.out H3.out ?_; unfold tagsR; rw [HK.out.2.2.2.2, decide_eq_false (by omega)]; rfl)
    rcases hrate with h | ⟨rfl, rfl⟩
    all_goals
      go_wp2_with fail
      go_ret
      exact ⟨by rw [HE.out]; rfl, HB1.out.kept⟩
  rcases hrate with hr | ⟨rfl, rfl⟩
  all_goals
    go_wp2_with fail
    go_loopw [5] (fun v wr => ∃ i : Nat, v = .int .i64 i ∧ i ≤ k ∧ Hid (Kb w [(w.heap.size, 25, [.string s, .int .i64 _, .slice A n ca, .int .i64 _, .slice B k cb, .int .i64 tm])] [] wr ∧ ∀ j (h : j < m.tags.length), j < i → rightT m.tags[j] = true)) (fun v _ => k - (intOf v).toNat)
    case atStart => exact ⟨0, rfl, by omega, ⟨HB1.out, fun j _ hj => absurd hj (by omega)⟩⟩
    case round =>
      obtain ⟨i, rfl, hin, hrel⟩ := hrel
      clear HB1 c1 c2 c3 c4 c5
      have c4 : wr.cell? ⟨w.heap.size, 4, none⟩ = some (.slice B k cb) := hrel.out.1.cell (.head _) rfl
      have c5 : wr.cell? ⟨w.heap.size, 5, none⟩ = some (.int .i64 tm) := hrel.out.1.cell (.head _) rfl
      by_cases hlt : i < k
      · have g1 : (i : Int) < (k : Int) := by omega
        have g2 : (0 : Int) ≤ (i : Int) := by omega
        obtain ⟨hm, hz, _⟩ := HH.out
        have l0 : i < m.tags.length := by rw [hm.tlen]; exact hlt
        obtain ⟨b, off, s1, u1, e1, d0, d1, hs, hu⟩ := (hm.tags.keep hrel.out.1.kept).get l0
        subst e1
        have hl := hz.lens _ (List.getElem_mem l0)
        have n1 := hs.size
        have n2 := hu.size
        have hC := fun W => rcheckT_calls hs hu (by omega) (by omega) W
        obtain ⟨r, hr2⟩ : ∃ r, rightT m.tags[i] = r := ⟨_, rfl⟩
        have hr3 : chkT m.tags[i] = if r = true then 0 else 19 := by unfold chkT; rw [hr2]
        rw [hr3] at hC
        have HC := Lib.hid hC
        have HR := Lib.hid hr2
        clear hm hz hs hu hl n1 n2 hC hr2 hr3
        go_wp2_with fail
        refine (HC.out _).mono ?_
        rintro e w2 ⟨rfl, hb⟩
        have HB2 := Lib.hid (hrel.out.1.next hb)
        clear hb HC d0 d1 c4 c5
        cases r
        · have HE := Lib.hid (show q = 19 by
            rw [← HQ.out]; refine rest19 H0.out H1.out H2.out H3.out ?_
            unfold tagsR
            rw [Bool.and_eq_false_iff]; right
            refine Bool.eq_false_iff.2 fun h => ?_
            have := List.all_eq_true.1 h _ (List.getElem_mem l0)
            rw [HR.out] at this; cases this)
          go_wp2_with fail
          go_ret
          exact ⟨by rw [HE.out]; rfl, HB2.out.kept⟩
        · go_wp2_with fail
          refine ⟨⟨i + 1, by go_num, by omega, ⟨HB2.out, fun j h hj => ?_⟩⟩, by simp [intOf]; omega⟩
          rcases Nat.lt_or_ge j i with h' | h'
          · exact hrel.out.2 j h h'
          · obtain rfl : i = j := by omega
            exact HR.out
      · have g1 : ¬ (i : Int) < (k : Int) := by omega
        have H4 := Lib.hid (show tagsR m.tags = true by
          unfold tagsR
          rw [HK.out.2.2.2.2, decide_eq_true (by omega), Bool.true_and]
          refine List.all_eq_true.2 fun t ht => ?_
          obtain ⟨j, hj, rfl⟩ := List.mem_iff_getElem.1 ht
          exact hrel.out.2 j hj (by have := HK.out.2.2.2.2; omega))
        rcases (by omega : tm < 0 ∨ (¬ tm < 0 ∧ 1099511627776 < tm) ∨ (¬ tm < 0 ∧ ¬ 1099511627776 < tm)) with k1 | ⟨k1, k2⟩ | ⟨k1, k2⟩
        · have HE := Lib.hid (show q = 20 by rw [← HQ.out]; refine rest20 H0.out H1.out H2.out H3.out H4.out ?_; rw [← HK.out.2.2.1]; exact decide_eq_false (by omega))
          go_wp2_with fail
          go_ret
          exact ⟨by rw [HE.out]; rfl, hrel.out.1.kept⟩
        · have HE := Lib.hid (show q = 20 by rw [← HQ.out]; refine rest20 H0.out H1.out H2.out H3.out H4.out ?_; rw [← HK.out.2.2.1]; exact decide_eq_false (by omega))
          go_wp2_with fail
          go_ret
          exact ⟨by rw [HE.out]; rfl, hrel.out.1.kept⟩
        · have HE := Lib.hid (show q = 0 by rw [← HQ.out]; refine rest0 H0.out H1.out H2.out H3.out H4.out ?_; rw [← HK.out.2.2.1]; exact decide_eq_true (by omega))
          go_wp2_with fail
          go_ret
          exact ⟨by rw [HE.out]; rfl, hrel.out.1.kept⟩
end
end Go.Proofs.Yteffankkelbhiaa
