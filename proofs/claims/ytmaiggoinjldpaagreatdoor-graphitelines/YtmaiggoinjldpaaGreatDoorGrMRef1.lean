/-
  MRef1, MRef2, MRef3, MLaw, SdRet. No statement of the seat is proved here.
-/
import Derived.Test.YtmaiggoinjldpaaGreatDoorGrMRows
import Derived.Test.YtmaiggoinjldpaaGreatDoorGrTText
import Derived.Test.YtmaiggoinjldpaaGreatDoorGrDRefNorm
import Derived.Lib.QuietBelow
/-
  Layer 7: the document's Name, Rest and Check. No statement of the seat is proved here.
-/
namespace Go.Proofs.YtmaiggoinjldpaaGreatDoor
open Go.RowKit
open Dc (D D0)

set_option maxRecDepth 100000 in
set_option maxHeartbeats 2000000 in
theorem rcheckT_calls {s t : ByteArray} {a : Tg} (hs : Str s a.1) (ht : Str t a.2) (hz : (s.size : Int) ≤ 100000) (hz2 : (t.size : Int) ≤ 100000) (w : World) :
    Calls Tryz.prog 59 #[.agg #[.string s, .string t]] w fun e w' => e = .returned (.int .i64 (chkT a)) ∧ Below w.heap.size w w' := by
  obtain ⟨q, hq⟩ : ∃ q, rightT a = q := ⟨_, rfl⟩
  have hR := fun W => right_calls hs ht hz hz2 W
  rw [hq] at hR
  have hc : chkT a = if q = true then 0 else 19 := by unfold chkT; rw [hq]
  rw [hc]
  have HR := Lib.hid hR
  have HB := Lib.hid (m_below w (.cells #[.string s, .string t] 34))
  clear hR hc hq hs ht
  go_enter Tryz.func59, Tryz.ntmps59
  go_wp2_with fail
  refine (HR.out _).mono ?_
  rintro e w1 ⟨rfl, hb⟩
  have HB1 := Lib.hid (below_then HB.out hb)
  clear hb HB HR
  cases q
  all_goals
    go_wp2_with fail
    go_ret
    exact ⟨rfl, HB1.out⟩


theorem nameR_iff (l : List UInt8) : nameR l = (l.all (fun b => isOf 1 (b.toNat : Int)) && decide (1 ≤ l.length ∧ l.length ≤ 200)) := by
  rw [Bool.eq_iff_iff, Bool.and_eq_true, decide_eq_true_eq]
  unfold nameR
  rw [decide_eq_true_eq]
  constructor
  · intro h
    obtain ⟨h1, h2, h3⟩ := fault_zero h
    exact ⟨List.all_eq_true.2 h3, by omega, by omega⟩
  · rintro ⟨h1, h2, h3⟩
    have hb : bad 1 l = -1 := bad_none fun i hi => List.all_eq_true.1 h1 _ (List.getElem_mem hi)
    unfold faultOf
    rw [if_neg (by simp [isCls]), if_neg (by omega), if_neg (by omega), hb, if_neg (by omega)]

set_option maxRecDepth 100000 in
set_option maxHeartbeats 8000000 in
theorem rname_calls {s : ByteArray} {l : List UInt8} (hs : Str s l) (hz : l.length ≤ 9000) (w : World) :
    Calls Tryz.prog 58 #[.string s] w fun e w' => e = .returned (.bool (nameR l)) ∧ Below w.heap.size w w' := by
  have n1 := hs.size
  obtain ⟨q, hq⟩ : ∃ q, nameR l = q := ⟨_, rfl⟩
  rw [hq]
  rw [nameR_iff] at hq
  have HQ := Lib.hid hq
  have HS := Lib.hid hs
  clear hq hs
  go_enter Tryz.func58, Tryz.ntmps58
  go_wp2_with fail
  go_loopw [3] (fun v wr => ∃ i : Nat, v = .int .i64 i ∧ i ≤ s.size ∧ Hid (Below w.heap.size w wr ∧ ∀ j (h : j < l.length), j < i → isOf 1 (l[j].toNat : Int) = true)) (fun v _ => s.size - (intOf v).toNat)
  case atStart => exact ⟨0, rfl, by omega, ⟨Below.refl _ _, fun j _ hj => absurd hj (by omega)⟩⟩
  case round =>
    obtain ⟨i, rfl, hin, hrel⟩ := hrel
    by_cases hlt : i < s.size
    · have g1 : (i : Int) < (s.size : Int) := by omega
      have hl : i < l.length := by omega
      have hidx := HS.out.index (i := (i : Int)) i rfl hl
      obtain ⟨x, hx⟩ : ∃ x : Int, x = (l[i].toNat : Int) := ⟨_, rfl⟩
      rw [← hx] at hidx
      have hx0 : 0 ≤ x ∧ x < 256 := by have := l[i].toNat_lt; omega
      have HX := Lib.hid (And.intro hx hx0)
      clear hx hx0 n1
      rcases (by omega : (x < 45) ∨ (x = 45) ∨ (x = 46) ∨ (x = 47) ∨ (48 ≤ x ∧ x ≤ 57) ∨ (58 ≤ x ∧ x ≤ 64) ∨ (65 ≤ x ∧ x ≤ 90) ∨ (91 ≤ x ∧ x ≤ 94) ∨ (x = 95) ∨ (x = 96) ∨ (97 ≤ x ∧ x ≤ 122) ∨ (123 ≤ x)) with h | h | h | h | h | h | h | h | h | h | h | h
      · have HG := Lib.hid (show isOf 1 (l[i].toNat : Int) = false by rw [← HX.out.1]; first | exact isOf1.2 (by omega) | (refine Bool.eq_false_iff.2 fun k => ?_; have := isOf1.1 k; omega))
        have t0 : ¬ 97 ≤ x := by omega
        have t1 : ¬ 65 ≤ x := by omega
        have t2 : ¬ 48 ≤ x := by omega
        have t3 : x ≤ 122 := by omega
        have t4 : x ≤ 90 := by omega
        have t5 : x ≤ 57 := by omega
        have t6 : (x == 95) = false := by simp; omega
        have t7 : (x == 46) = false := by simp; omega
        have t8 : (x == 45) = false := by simp; omega
        clear h
        have HE := Lib.hid (show q = false by
          rw [← HQ.out]
          refine Bool.eq_false_iff.2 fun k => ?_
          have := List.all_eq_true.1 (Bool.and_eq_true _ _ ▸ k).1 _ (List.getElem_mem hl)
          rw [HG.out] at this; cases this)
        go_wp2_with fail
        go_ret
        exact ⟨by rw [HE.out]; first | done | rfl, hrel.out.1⟩
      · have HG := Lib.hid (show isOf 1 (l[i].toNat : Int) = true by rw [← HX.out.1]; first | exact isOf1.2 (by omega) | (refine Bool.eq_false_iff.2 fun k => ?_; have := isOf1.1 k; omega))
        subst h
        go_wp2_with fail
        refine ⟨⟨i + 1, by go_num, by omega, ⟨hrel.out.1, fun j h hj => ?_⟩⟩, by simp [intOf]; omega⟩
        rcases Nat.lt_or_ge j i with h' | h'
        · exact hrel.out.2 j h h'
        · obtain rfl : i = j := by omega
          exact HG.out
      · have HG := Lib.hid (show isOf 1 (l[i].toNat : Int) = true by rw [← HX.out.1]; first | exact isOf1.2 (by omega) | (refine Bool.eq_false_iff.2 fun k => ?_; have := isOf1.1 k; omega))
        subst h
        go_wp2_with fail
        refine ⟨⟨i + 1, by go_num, by omega, ⟨hrel.out.1, fun j h hj => ?_⟩⟩, by simp [intOf]; omega⟩
        rcases Nat.lt_or_ge j i with h' | h'
        · exact hrel.out.2 j h h'
        · obtain rfl : i = j := by omega
          exact HG.out
      · have HG := Lib.hid (show isOf 1 (l[i].toNat : Int) = false by rw [← HX.out.1]; first | exact isOf1.2 (by omega) | (refine Bool.eq_false_iff.2 fun k => ?_; have := isOf1.1 k; omega))
        subst h
        have HE := Lib.hid (show q = false by
          rw [← HQ.out]
          refine Bool.eq_false_iff.2 fun k => ?_
          have := List.all_eq_true.1 (Bool.and_eq_true _ _ ▸ k).1 _ (List.getElem_mem hl)
          rw [HG.out] at this; cases this)
        go_wp2_with fail
        go_ret
        exact ⟨by rw [HE.out]; first | done | rfl, hrel.out.1⟩
      · have HG := Lib.hid (show isOf 1 (l[i].toNat : Int) = true by rw [← HX.out.1]; first | exact isOf1.2 (by omega) | (refine Bool.eq_false_iff.2 fun k => ?_; have := isOf1.1 k; omega))
        have t0 : ¬ 97 ≤ x := by omega
        have t1 : ¬ 65 ≤ x := by omega
        have t2 : 48 ≤ x := by omega
        have t3 : x ≤ 122 := by omega
        have t4 : x ≤ 90 := by omega
        have t5 : x ≤ 57 := by omega
        have t6 : (x == 95) = false := by simp; omega
        have t7 : (x == 46) = false := by simp; omega
        have t8 : (x == 45) = false := by simp; omega
        clear h
        go_wp2_with fail
        refine ⟨⟨i + 1, by go_num, by omega, ⟨hrel.out.1, fun j h hj => ?_⟩⟩, by simp [intOf]; omega⟩
        rcases Nat.lt_or_ge j i with h' | h'
        · exact hrel.out.2 j h h'
        · obtain rfl : i = j := by omega
          exact HG.out
      · have HG := Lib.hid (show isOf 1 (l[i].toNat : Int) = false by rw [← HX.out.1]; first | exact isOf1.2 (by omega) | (refine Bool.eq_false_iff.2 fun k => ?_; have := isOf1.1 k; omega))
        have t0 : ¬ 97 ≤ x := by omega
        have t1 : ¬ 65 ≤ x := by omega
        have t2 : 48 ≤ x := by omega
        have t3 : x ≤ 122 := by omega
        have t4 : x ≤ 90 := by omega
        have t5 : ¬ x ≤ 57 := by omega
        have t6 : (x == 95) = false := by simp; omega
        have t7 : (x == 46) = false := by simp; omega
        have t8 : (x == 45) = false := by simp; omega
        clear h
        have HE := Lib.hid (show q = false by
          rw [← HQ.out]
          refine Bool.eq_false_iff.2 fun k => ?_
          have := List.all_eq_true.1 (Bool.and_eq_true _ _ ▸ k).1 _ (List.getElem_mem hl)
          rw [HG.out] at this; cases this)
        go_wp2_with fail
        go_ret
        exact ⟨by rw [HE.out]; first | done | rfl, hrel.out.1⟩
      · have HG := Lib.hid (show isOf 1 (l[i].toNat : Int) = true by rw [← HX.out.1]; first | exact isOf1.2 (by omega) | (refine Bool.eq_false_iff.2 fun k => ?_; have := isOf1.1 k; omega))
        have t0 : ¬ 97 ≤ x := by omega
        have t1 : 65 ≤ x := by omega
        have t2 : 48 ≤ x := by omega
        have t3 : x ≤ 122 := by omega
        have t4 : x ≤ 90 := by omega
        have t5 : ¬ x ≤ 57 := by omega
        have t6 : (x == 95) = false := by simp; omega
        have t7 : (x == 46) = false := by simp; omega
        have t8 : (x == 45) = false := by simp; omega
        clear h
        go_wp2_with fail
        refine ⟨⟨i + 1, by go_num, by omega, ⟨hrel.out.1, fun j h hj => ?_⟩⟩, by simp [intOf]; omega⟩
        rcases Nat.lt_or_ge j i with h' | h'
        · exact hrel.out.2 j h h'
        · obtain rfl : i = j := by omega
          exact HG.out
      · have HG := Lib.hid (show isOf 1 (l[i].toNat : Int) = false by rw [← HX.out.1]; first | exact isOf1.2 (by omega) | (refine Bool.eq_false_iff.2 fun k => ?_; have := isOf1.1 k; omega))
        have t0 : ¬ 97 ≤ x := by omega
        have t1 : 65 ≤ x := by omega
        have t2 : 48 ≤ x := by omega
        have t3 : x ≤ 122 := by omega
        have t4 : ¬ x ≤ 90 := by omega
        have t5 : ¬ x ≤ 57 := by omega
        have t6 : (x == 95) = false := by simp; omega
        have t7 : (x == 46) = false := by simp; omega
        have t8 : (x == 45) = false := by simp; omega
        clear h
        have HE := Lib.hid (show q = false by
          rw [← HQ.out]
          refine Bool.eq_false_iff.2 fun k => ?_
          have := List.all_eq_true.1 (Bool.and_eq_true _ _ ▸ k).1 _ (List.getElem_mem hl)
          rw [HG.out] at this; cases this)
        go_wp2_with fail
        go_ret
        exact ⟨by rw [HE.out]; first | done | rfl, hrel.out.1⟩
      · have HG := Lib.hid (show isOf 1 (l[i].toNat : Int) = true by rw [← HX.out.1]; first | exact isOf1.2 (by omega) | (refine Bool.eq_false_iff.2 fun k => ?_; have := isOf1.1 k; omega))
        subst h
        go_wp2_with fail
        refine ⟨⟨i + 1, by go_num, by omega, ⟨hrel.out.1, fun j h hj => ?_⟩⟩, by simp [intOf]; omega⟩
        rcases Nat.lt_or_ge j i with h' | h'
        · exact hrel.out.2 j h h'
        · obtain rfl : i = j := by omega
          exact HG.out
      · have HG := Lib.hid (show isOf 1 (l[i].toNat : Int) = false by rw [← HX.out.1]; first | exact isOf1.2 (by omega) | (refine Bool.eq_false_iff.2 fun k => ?_; have := isOf1.1 k; omega))
        subst h
        have HE := Lib.hid (show q = false by
          rw [← HQ.out]
          refine Bool.eq_false_iff.2 fun k => ?_
          have := List.all_eq_true.1 (Bool.and_eq_true _ _ ▸ k).1 _ (List.getElem_mem hl)
          rw [HG.out] at this; cases this)
        go_wp2_with fail
        go_ret
        exact ⟨by rw [HE.out]; first | done | rfl, hrel.out.1⟩
      · have HG := Lib.hid (show isOf 1 (l[i].toNat : Int) = true by rw [← HX.out.1]; first | exact isOf1.2 (by omega) | (refine Bool.eq_false_iff.2 fun k => ?_; have := isOf1.1 k; omega))
        have t0 : 97 ≤ x := by omega
        have t1 : 65 ≤ x := by omega
        have t2 : 48 ≤ x := by omega
        have t3 : x ≤ 122 := by omega
        have t4 : ¬ x ≤ 90 := by omega
        have t5 : ¬ x ≤ 57 := by omega
        have t6 : (x == 95) = false := by simp; omega
        have t7 : (x == 46) = false := by simp; omega
        have t8 : (x == 45) = false := by simp; omega
        clear h
        go_wp2_with fail
        refine ⟨⟨i + 1, by go_num, by omega, ⟨hrel.out.1, fun j h hj => ?_⟩⟩, by simp [intOf]; omega⟩
        rcases Nat.lt_or_ge j i with h' | h'
        · exact hrel.out.2 j h h'
        · obtain rfl : i = j := by omega
          exact HG.out
      · have HG := Lib.hid (show isOf 1 (l[i].toNat : Int) = false by rw [← HX.out.1]; first | exact isOf1.2 (by omega) | (refine Bool.eq_false_iff.2 fun k => ?_; have := isOf1.1 k; omega))
        have t0 : 97 ≤ x := by omega
        have t1 : 65 ≤ x := by omega
        have t2 : 48 ≤ x := by omega
        have t3 : ¬ x ≤ 122 := by omega
        have t4 : ¬ x ≤ 90 := by omega
        have t5 : ¬ x ≤ 57 := by omega
        have t6 : (x == 95) = false := by simp; omega
        have t7 : (x == 46) = false := by simp; omega
        have t8 : (x == 45) = false := by simp; omega
        clear h
        have HE := Lib.hid (show q = false by
          rw [← HQ.out]
          refine Bool.eq_false_iff.2 fun k => ?_
          have := List.all_eq_true.1 (Bool.and_eq_true _ _ ▸ k).1 _ (List.getElem_mem hl)
          rw [HG.out] at this; cases this)
        go_wp2_with fail
        go_ret
        exact ⟨by rw [HE.out]; first | done | rfl, hrel.out.1⟩
    · have g1 : ¬ (i : Int) < (s.size : Int) := by omega
      have HE := Lib.hid (show q = decide (1 ≤ l.length ∧ l.length ≤ 200) by
        rw [← HQ.out, List.all_eq_true.2 (fun b hb => ?_), Bool.true_and]
        obtain ⟨j, hj, rfl⟩ := List.mem_iff_getElem.1 hb
        exact hrel.out.2 j hj (by omega))
      rcases (by omega : (s.size : Int) < 1 ∨ (1 ≤ (s.size : Int) ∧ ¬ (s.size : Int) ≤ 200) ∨ (1 ≤ (s.size : Int) ∧ (s.size : Int) ≤ 200)) with h | ⟨h, h2⟩ | ⟨h, h2⟩
      · have HF := Lib.hid (show q = false by rw [HE.out]; exact decide_eq_false (by omega))
        have h' : ¬ 1 ≤ (s.size : Int) := by omega
        go_wp2_with fail
        go_ret
        exact ⟨by rw [HF.out]; first | done | rfl | (simp; omega), hrel.out.1⟩
      · have HF := Lib.hid (show q = false by rw [HE.out]; exact decide_eq_false (by omega))
        go_wp2_with fail
        go_ret
        exact ⟨by rw [HF.out]; first | done | rfl | (simp; omega), hrel.out.1⟩
      · have HF := Lib.hid (show q = true by rw [HE.out]; exact decide_eq_true (by omega))
        go_wp2_with fail
        go_ret
        exact ⟨by rw [HF.out]; first | done | rfl | (simp; omega), hrel.out.1⟩
end Go.Proofs.YtmaiggoinjldpaaGreatDoor

/-
  Layer 7: the document's Rest and Check. No statement of the seat is proved here.
-/
namespace Go.Proofs.YtmaiggoinjldpaaGreatDoor
open Go.RowKit
open Dc (D D0)

section
variable {m : Mt} {ok : Bool}
theorem rest15 (h : nameR m.name = false) : restM m ok = 15 := by unfold restM; rw [if_pos h]
theorem rest16 (h0 : nameR m.name = true) (h : kindR m.kind = false) : restM m ok = 16 := by unfold restM; simp [h0, h]
theorem rest17 (h0 : nameR m.name = true) (h1 : kindR m.kind = true) (h : valsR ok m.vals.length = false) : restM m ok = 17 := by unfold restM; simp [h0, h1, h]
theorem rest18 (h0 : nameR m.name = true) (h1 : kindR m.kind = true) (h2 : valsR ok m.vals.length = true) (h : rateR m.kind m.rate = false) : restM m ok = 18 := by unfold restM; simp [h0, h1, h2, h]
theorem rest19 (h0 : nameR m.name = true) (h1 : kindR m.kind = true) (h2 : valsR ok m.vals.length = true) (h3 : rateR m.kind m.rate = true) (h : tagsR m.tags = false) : restM m ok = 19 := by unfold restM; simp [h0, h1, h2, h3, h]
theorem rest20 (h0 : nameR m.name = true) (h1 : kindR m.kind = true) (h2 : valsR ok m.vals.length = true) (h3 : rateR m.kind m.rate = true) (h4 : tagsR m.tags = true) (h : timeR m.time = false) : restM m ok = 20 := by unfold restM; simp [h0, h1, h2, h3, h4, h]
theorem rest0 (h0 : nameR m.name = true) (h1 : kindR m.kind = true) (h2 : valsR ok m.vals.length = true) (h3 : rateR m.kind m.rate = true) (h4 : tagsR m.tags = true) (h : timeR m.time = true) : restM m ok = 0 := by unfold restM; simp [h0, h1, h2, h3, h4, h]
end

section
variable {w : World} {s : ByteArray} {A B : Option Addr} {n k ca cb : Nat} {m : Mt}
set_option maxRecDepth 100000 in
set_option maxHeartbeats 8000000 in
theorem rest_calls (h : MIs w s A n B k m) (hz : Small m) (ok : Bool) : Calls Tryz.prog 29 #[mV s m.kind A n ca m.rate B k cb m.time, .bool ok] w fun e w' => e = .returned (.int .i64 (restM m ok)) ∧ Below w.heap.size w w' := by
  obtain ⟨q, hq⟩ : ∃ q, restM m ok = q := ⟨_, rfl⟩
  rw [hq]
  have HQ := Lib.hid hq
  have hN := fun W => rname_calls h.name (by have := hz.name; omega) W
  obtain ⟨qn, hqn⟩ : ∃ q, nameR m.name = q := ⟨_, rfl⟩
  rw [hqn] at hN
  have HN := Lib.hid hN
  have HH := Lib.hid (And.intro h (And.intro hz hqn))
  obtain ⟨kd, hkd⟩ : ∃ x, x = m.kind := ⟨_, rfl⟩
  obtain ⟨rt, hrt⟩ : ∃ x, x = m.rate := ⟨_, rfl⟩
  obtain ⟨tm, htm⟩ : ∃ x, x = m.time := ⟨_, rfl⟩
  rw [← hkd, ← hrt, ← htm]
  have HK := Lib.hid (And.intro hkd (And.intro hrt (And.intro htm (And.intro h.vlen h.tlen))))
  have b0 := (Kb.start w).push 25 (mC s kd A n ca rt B k cb tm)
  unfold mC at b0
  have HB := Lib.hid b0
  have hk200 : k ≤ 200 := by have := h.tlen; have := hz.tags; omega
  unfold mV
  clear hq hN hqn hkd hrt htm b0 h hz
  go_enter Tryz.func29, Tryz.ntmps29
  go_wp2_with fail
  refine (HN.out _).mono ?_
  rintro e w1 ⟨rfl, hb⟩
  have HB1 := Lib.hid (HB.out.next hb)
  have c1 : w1.cell? ⟨w.heap.size, 1, none⟩ = some (.int .i64 kd) := HB1.out.cell (.head _) rfl
  have c2 : w1.cell? ⟨w.heap.size, 2, none⟩ = some (.slice A n ca) := HB1.out.cell (.head _) rfl
  have c3 : w1.cell? ⟨w.heap.size, 3, none⟩ = some (.int .i64 rt) := HB1.out.cell (.head _) rfl
  have c4 : w1.cell? ⟨w.heap.size, 4, none⟩ = some (.slice B k cb) := HB1.out.cell (.head _) rfl
  have c5 : w1.cell? ⟨w.heap.size, 5, none⟩ = some (.int .i64 tm) := HB1.out.cell (.head _) rfl
  clear hb HB HN
  cases qn
  · have HE := Lib.hid (show q = 15 by rw [← HQ.out]; exact rest15 HH.out.2.2)
    go_wp2_with fail
    go_ret
    exact ⟨by rw [HE.out]; rfl, HB1.out.kept⟩
  have H0 := Lib.hid HH.out.2.2
  rcases (by omega : kd < 1 ∨ (¬ kd < 1 ∧ 5 < kd) ∨ (¬ kd < 1 ∧ ¬ 5 < kd)) with k1 | ⟨k1, k2⟩ | ⟨k1, k2⟩
  · have HE := Lib.hid (show q = 16 by rw [← HQ.out]; refine rest16 H0.out ?_; rw [← HK.out.1]; exact decide_eq_false (by omega))
    go_wp2_with fail
    go_ret
    exact ⟨by rw [HE.out]; rfl, HB1.out.kept⟩
  · have HE := Lib.hid (show q = 16 by rw [← HQ.out]; refine rest16 H0.out ?_; rw [← HK.out.1]; exact decide_eq_false (by omega))
    go_wp2_with fail
    go_ret
    exact ⟨by rw [HE.out]; rfl, HB1.out.kept⟩
  have H1 := Lib.hid (show kindR m.kind = true by rw [← HK.out.1]; exact decide_eq_true (by omega))
  rcases (by cases ok <;> simp <;> omega : ok = false ∨ (ok = true ∧ (n : Int) < 1) ∨ (ok = true ∧ ¬ (n : Int) < 1 ∧ 64 < (n : Int)) ∨ (ok = true ∧ ¬ (n : Int) < 1 ∧ ¬ 64 < (n : Int))) with rfl | ⟨rfl, v1⟩ | ⟨rfl, v1, v2⟩ | ⟨rfl, v1, v2⟩
  · have HE := Lib.hid (show q = 17 by rw [← HQ.out]; exact rest17 H0.out H1.out rfl)
    go_wp2_with fail
    go_ret
    exact ⟨by rw [HE.out]; rfl, HB1.out.kept⟩
  · have HE := Lib.hid (show q = 17 by rw [← HQ.out]; refine rest17 H0.out H1.out ?_; rw [HK.out.2.2.2.1]; unfold valsR; rw [decide_eq_false (by omega)]; rfl)
    go_wp2_with fail
    go_ret
    exact ⟨by rw [HE.out]; rfl, HB1.out.kept⟩
  · have HE := Lib.hid (show q = 17 by rw [← HQ.out]; refine rest17 H0.out H1.out ?_; rw [HK.out.2.2.2.1]; unfold valsR; rw [decide_eq_false (by omega)]; rfl)
    go_wp2_with fail
    go_ret
    exact ⟨by rw [HE.out]; rfl, HB1.out.kept⟩
  have H2 := Lib.hid (show valsR true m.vals.length = true by rw [HK.out.2.2.2.1]; unfold valsR; rw [decide_eq_true (by omega)]; rfl)
  rcases (by omega : rt < 1 ∨ (¬ rt < 1 ∧ 1000000 < rt) ∨ (¬ rt < 1 ∧ ¬ 1000000 < rt ∧ kd = 2 ∧ rt ≠ 1000000) ∨ (¬ rt < 1 ∧ ¬ 1000000 < rt ∧ (kd ≠ 2 ∨ rt = 1000000))) with r1 | ⟨r1, r2⟩ | ⟨r1, r2, r3, r4⟩ | ⟨r1, r2, r3⟩
  · have HE := Lib.hid (show q = 18 by rw [← HQ.out]; refine rest18 H0.out H1.out H2.out ?_; rw [← HK.out.1, ← HK.out.2.1]; exact decide_eq_false (by omega))
    go_wp2_with fail
    go_ret
    exact ⟨by rw [HE.out]; rfl, HB1.out.kept⟩
  · have HE := Lib.hid (show q = 18 by rw [← HQ.out]; refine rest18 H0.out H1.out H2.out ?_; rw [← HK.out.1, ← HK.out.2.1]; exact decide_eq_false (by omega))
    go_wp2_with fail
    go_ret
    exact ⟨by rw [HE.out]; rfl, HB1.out.kept⟩
  · have HE := Lib.hid (show q = 18 by rw [← HQ.out]; refine rest18 H0.out H1.out H2.out ?_; rw [← HK.out.1, ← HK.out.2.1]; exact decide_eq_false (by omega))
    subst r3
    have r5 : (rt != 1000000) = true := by simpa using r4
    go_wp2_with fail
    go_ret
    exact ⟨by rw [HE.out]; rfl, HB1.out.kept⟩
  have H3 := Lib.hid (show rateR m.kind m.rate = true by rw [← HK.out.1, ← HK.out.2.1]; exact decide_eq_true (by omega))
  have hrate : ((kd == 2) = false) ∨ (kd = 2 ∧ rt = 1000000) := by
    by_cases h : kd = 2
    · exact .inr ⟨h, by omega⟩
    · exact .inl (by simpa using h)
  clear r3
  by_cases t1 : 32 < (k : Int)
  · have HE := Lib.hid (show q = 19 by rw [← HQ.out]; refine rest19 H0.out H1.out H2.out H3.out ?_; unfold tagsR; rw [HK.out.2.2.2.2, decide_eq_false (by omega)]; rfl)
    rcases hrate with h | ⟨rfl, rfl⟩
    all_goals
      go_wp2_with fail
      go_ret
      exact ⟨by rw [HE.out]; rfl, HB1.out.kept⟩
  rcases hrate with hr | ⟨rfl, rfl⟩
  all_goals
    go_wp2_with fail
    go_loopw [5] (fun v wr => ∃ i : Nat, v = .int .i64 i ∧ i ≤ k ∧ Hid (Kb w [(w.heap.size, 25, [.string s, .int .i64 _, .slice A n ca, .int .i64 _, .slice B k cb, .int .i64 tm])] [] wr ∧ ∀ j (h : j < m.tags.length), j < i → rightT m.tags[j] = true)) (fun v _ => k - (intOf v).toNat)
    case atStart => exact ⟨0, rfl, by omega, ⟨HB1.out, fun j _ hj => absurd hj (by omega)⟩⟩
    case round =>
      obtain ⟨i, rfl, hin, hrel⟩ := hrel
      clear HB1 c1 c2 c3 c4 c5
      have c4 : wr.cell? ⟨w.heap.size, 4, none⟩ = some (.slice B k cb) := hrel.out.1.cell (.head _) rfl
      have c5 : wr.cell? ⟨w.heap.size, 5, none⟩ = some (.int .i64 tm) := hrel.out.1.cell (.head _) rfl
      by_cases hlt : i < k
      · have g1 : (i : Int) < (k : Int) := by omega
        have g2 : (0 : Int) ≤ (i : Int) := by omega
        obtain ⟨hm, hz, _⟩ := HH.out
        have l0 : i < m.tags.length := by rw [hm.tlen]; exact hlt
        obtain ⟨b, off, s1, u1, e1, d0, d1, hs, hu⟩ := (hm.tags.keep hrel.out.1.kept).get l0
        subst e1
        have hl := hz.lens _ (List.getElem_mem l0)
        have n1 := hs.size
        have n2 := hu.size
        have hC := fun W => rcheckT_calls hs hu (by omega) (by omega) W
        obtain ⟨r, hr2⟩ : ∃ r, rightT m.tags[i] = r := ⟨_, rfl⟩
        have hr3 : chkT m.tags[i] = if r = true then 0 else 19 := by unfold chkT; rw [hr2]
        rw [hr3] at hC
        have HC := Lib.hid hC
        have HR := Lib.hid hr2
        clear hm hz hs hu hl n1 n2 hC hr2 hr3
        go_wp2_with fail
        refine (HC.out _).mono ?_
        rintro e w2 ⟨rfl, hb⟩
        have HB2 := Lib.hid (hrel.out.1.next hb)
        clear hb HC d0 d1 c4 c5
        cases r
        · have HE := Lib.hid (show q = 19 by
            rw [← HQ.out]; refine rest19 H0.out H1.out H2.out H3.out ?_
            unfold tagsR
            rw [Bool.and_eq_false_iff]; right
            refine Bool.eq_false_iff.2 fun h => ?_
            have := List.all_eq_true.1 h _ (List.getElem_mem l0)
            rw [HR.out] at this; cases this)
          go_wp2_with fail
          go_ret
          exact ⟨by rw [HE.out]; rfl, HB2.out.kept⟩
        · go_wp2_with fail
          refine ⟨⟨i + 1, by go_num, by omega, ⟨HB2.out, fun j h hj => ?_⟩⟩, by simp [intOf]; omega⟩
          rcases Nat.lt_or_ge j i with h' | h'
          · exact hrel.out.2 j h h'
          · obtain rfl : i = j := by omega
            exact HR.out
      · have g1 : ¬ (i : Int) < (k : Int) := by omega
        have H4 := Lib.hid (show tagsR m.tags = true by
          unfold tagsR
          rw [HK.out.2.2.2.2, decide_eq_true (by omega), Bool.true_and]
          refine List.all_eq_true.2 fun t ht => ?_
          obtain ⟨j, hj, rfl⟩ := List.mem_iff_getElem.1 ht
          exact hrel.out.2 j hj (by have := HK.out.2.2.2.2; omega))
        rcases (by omega : tm < 0 ∨ (¬ tm < 0 ∧ 1099511627776 < tm) ∨ (¬ tm < 0 ∧ ¬ 1099511627776 < tm)) with k1 | ⟨k1, k2⟩ | ⟨k1, k2⟩
        · have HE := Lib.hid (show q = 20 by rw [← HQ.out]; refine rest20 H0.out H1.out H2.out H3.out H4.out ?_; rw [← HK.out.2.2.1]; exact decide_eq_false (by omega))
          go_wp2_with fail
          go_ret
          exact ⟨by rw [HE.out]; rfl, hrel.out.1.kept⟩
        · have HE := Lib.hid (show q = 20 by rw [← HQ.out]; refine rest20 H0.out H1.out H2.out H3.out H4.out ?_; rw [← HK.out.2.2.1]; exact decide_eq_false (by omega))
          go_wp2_with fail
          go_ret
          exact ⟨by rw [HE.out]; rfl, hrel.out.1.kept⟩
        · have HE := Lib.hid (show q = 0 by rw [← HQ.out]; refine rest0 H0.out H1.out H2.out H3.out H4.out ?_; rw [← HK.out.2.2.1]; exact decide_eq_true (by omega))
          go_wp2_with fail
          go_ret
          exact ⟨by rw [HE.out]; rfl, hrel.out.1.kept⟩
end
end Go.Proofs.YtmaiggoinjldpaaGreatDoor

/-
  Layer 7: the document's Check and Normal. No statement of the seat is proved here.
-/
namespace Go.Proofs.YtmaiggoinjldpaaGreatDoor
open Go.RowKit
open Dc (D D0)

theorem okV_step {ds : List D} {i : Nat} (h : i < ds.length) : okV (ds.take (i + 1)) = (okV (ds.take i) && decide (Dc.check ds[i] = 0)) := by
  unfold okV; rw [List.take_add_one, List.getElem?_eq_getElem h, List.all_append]; simp only [Option.toList, List.all_cons, List.all_nil, Bool.and_true]
theorem hasN_step {ds : List D} {i : Nat} (h : i < ds.length) : hasN (ds.take (i + 1)) = (hasN (ds.take i) && (Dc.normal ds[i]).isSome) := by
  unfold hasN; rw [List.take_add_one, List.getElem?_eq_getElem h, List.all_append]; simp only [Option.toList, List.all_cons, List.all_nil, Bool.and_true]
theorem nVal_map {ds : List D} (h : hasN ds = true) : ds.map Dc.nVal = ds.map form :=
  List.map_congr_left fun d hd => form_nVal (List.all_eq_true.1 h d hd)
theorem nVal_step {ds : List D} {i : Nat} (h : i < ds.length) : (ds.take (i + 1)).map Dc.nVal = (ds.take i).map Dc.nVal ++ [Dc.nVal ds[i]] := by
  rw [List.take_add_one, List.getElem?_eq_getElem h]; simp only [Option.toList, List.map_append, List.map_cons, List.map_nil]
theorem grown_at {W w8 : World} {B : Nat} {el : TypeId} {size n : Nat} {v : Value} {xs : List Value} (hown : W.ownsRow B el size v n xs) (hg : W.grownBy w8 v.ownBlock) (hB : B ≤ W.heap.size) : Below B W w8 :=
  (Below.refl B W).grown hg hB fun k hk => by
    rcases hown.2 with ⟨rfl, _⟩ | ⟨g, cap, cur, rfl, h, _⟩
    · cases hk
    · injection hk with hk; subst hk; exact h

section
variable {w : World} {s : ByteArray} {A B : Option Addr} {n k ca cb : Nat} {m : Mt}
set_option maxRecDepth 100000 in
set_option maxHeartbeats 8000000 in
theorem rmcheck_calls (h : MIs w s A n B k m) (hz : Small m) : Calls Tryz.prog 13 #[mV s m.kind A n ca m.rate B k cb m.time] w fun e w' => e = .returned (.int .i64 (checkM m)) ∧ Below w.heap.size w w' := by
  obtain ⟨q, hq⟩ : ∃ q, checkM m = q := ⟨_, rfl⟩
  have hR := fun W (b : Below w.heap.size w W) => rest_calls (ca := ca) (cb := cb) (h.keep b) hz (okV m.vals)
  rw [show restM m (okV m.vals) = q from hq] at hR
  rw [hq]
  have hn1000 : n ≤ 1000 := by have := h.vlen; have := hz.vals; omega
  unfold mV at hR ⊢
  generalize m.kind = kd at *
  generalize m.rate = rt at *
  generalize m.time = tm at *
  have HR := Lib.hid hR
  have HH := Lib.hid (And.intro h hz)
  have b0 := (Kb.start w).push 25 (mC s kd A n ca rt B k cb tm)
  unfold mC at b0
  have HB := Lib.hid b0
  clear hR hq b0 h hz
  go_enter Tryz.func13, Tryz.ntmps13
  go_wp2_with fail
  go_loopw [3, 4] (fun v3 v4 wr => ∃ (i : Nat) (r : Bool), v3 = .bool r ∧ v4 = .int .i64 i ∧ i ≤ n ∧ Hid (Kb w [(w.heap.size, 25, [.string s, .int .i64 kd, .slice A n ca, .int .i64 rt, .slice B k cb, .int .i64 tm])] [] wr ∧ okV (m.vals.take i) = r)) (fun _ v4 _ => n - (intOf v4).toNat)
  case atStart => exact ⟨0, true, rfl, rfl, by omega, ⟨HB.out, by simp [okV]⟩⟩
  case round =>
    obtain ⟨i, r, rfl, rfl, hi, hrel⟩ := hrel
    clear HB
    have c2 : wr.cell? ⟨w.heap.size, 2, none⟩ = some (.slice A n ca) := hrel.out.1.cell (.head _) rfl
    by_cases hlt : i < n
    · have g1 : (i : Int) < (n : Int) := by omega
      have g2 : (0 : Int) ≤ (i : Int) := by omega
      obtain ⟨hm, hz⟩ := HH.out
      have l0 : i < m.vals.length := by rw [hm.vlen]; exact hlt
      cases r
      · have HE := Lib.hid (show okV (m.vals.take (i + 1)) = false by rw [okV_step l0, hrel.out.2]; rfl)
        clear hm hz
        go_wp2_with fail
        exact ⟨⟨i + 1, false, rfl, by go_num, by omega, ⟨hrel.out.1, HE.out⟩⟩, by simp [intOf]; omega⟩
      · obtain ⟨b, off, p, x, y, e1, d0, d1, d2, hd⟩ := (hm.vals.keep hrel.out.1.kept).get l0
        subst e1
        have hC := fun W => Dc.rcheck_calls m.vals[i] (hz.fits _ (List.getElem_mem l0)) W
        unfold Dc.dV at hC
        simp only [← hd.neg, ← hd.c, ← hd.e] at hC
        obtain ⟨z, hzz⟩ : ∃ z, Dc.check m.vals[i] = z := ⟨_, rfl⟩
        rw [hzz] at hC
        have HC := Lib.hid hC
        have HZ := Lib.hid hzz
        clear hm hz hC hzz hd
        go_wp2_with fail
        refine (HC.out _).mono ?_
        rintro e w2 ⟨rfl, hb⟩
        have HB2 := Lib.hid (hrel.out.1.next hb)
        clear hb HC d0 d1 d2 c2
        by_cases hz0 : z = 0
        · have HE := Lib.hid (show okV (m.vals.take (i + 1)) = true by rw [okV_step l0, hrel.out.2, HZ.out, hz0]; rfl)
          subst hz0
          go_wp2_with fail
          exact ⟨⟨i + 1, true, rfl, by go_num, by omega, ⟨HB2.out, HE.out⟩⟩, by simp [intOf]; omega⟩
        · have HE := Lib.hid (show okV (m.vals.take (i + 1)) = false by rw [okV_step l0, hrel.out.2, HZ.out, decide_eq_false hz0]; rfl)
          have h1 : (z == 0) = false := by simpa using hz0
          go_wp2_with fail
          exact ⟨⟨i + 1, false, rfl, by go_num, by omega, ⟨HB2.out, HE.out⟩⟩, by simp [intOf]; omega⟩
    · have g1 : ¬ (i : Int) < (n : Int) := by omega
      have hr : r = okV m.vals := by
        rw [← hrel.out.2, List.take_of_length_le (by have := HH.out.1.vlen; omega)]
      have c0 : wr.cell? ⟨w.heap.size, 0, none⟩ = some (.string s) := hrel.out.1.cell (.head _) rfl
      have c1 : wr.cell? ⟨w.heap.size, 1, none⟩ = some (.int .i64 kd) := hrel.out.1.cell (.head _) rfl
      have c3 : wr.cell? ⟨w.heap.size, 3, none⟩ = some (.int .i64 rt) := hrel.out.1.cell (.head _) rfl
      have c4 : wr.cell? ⟨w.heap.size, 4, none⟩ = some (.slice B k cb) := hrel.out.1.cell (.head _) rfl
      have c5 : wr.cell? ⟨w.heap.size, 5, none⟩ = some (.int .i64 tm) := hrel.out.1.cell (.head _) rfl
      have HR2 := Lib.hid (HR.out wr hrel.out.1.kept)
      rw [← hr] at HR2
      clear hr HR
      go_wp2_with fail
      refine HR2.out.mono ?_
      rintro e w2 ⟨rfl, hb⟩
      have HB2 := Lib.hid (hrel.out.1.next hb)
      clear hb c0 c1 c2 c3 c4 c5
      go_wp2_with fail
      go_ret
      exact ⟨rfl, HB2.out.kept⟩

/-- Where the document's Normal stands. -/
structure RNm (w : World) (s : ByteArray) (kd : Int) (A : Option Addr) (n ca : Nat) (rt : Int) (B : Option Addr) (k cb : Nat) (tm : Int) (v : Value) (i : Nat) (ds : List D) (w' : World) : Prop where
  kept : Below w.heap.size w w'
  one : Box w' w.heap.size 25 (mC s kd A n ca rt B k cb tm)
  two : Box w' (w.heap.size + 1) 25 (mC ⟨#[]⟩ 0 none 0 0 0 none 0 0 0)
  own : w'.ownsRow (w.heap.size + 1 + 1) 41 3 v i (flatD ds)
section
variable {w1 w2 : World} {kd rt tm : Int} {v : Value} {i : Nat} {ds : List D}
theorem RNm.next (h : RNm w s kd A n ca rt B k cb tm v i ds w1) (b : Below w1.heap.size w1 w2) : RNm w s kd A n ca rt B k cb tm v i ds w2 :=
  ⟨below_then h.kept b, h.one.keep b, h.two.keep b, own_keep h.own b⟩
theorem RNm.size (h : RNm w s kd A n ca rt B k cb tm v i ds w1) : w.heap.size + 1 + 1 ≤ w1.heap.size := h.two.lt
theorem RNm.push (h : RNm w s kd A n ca rt B k cb tm v i ds w1) {v' : Value} {i' : Nat} {ds' : List D} (hg : w1.grownBy w2 v.ownBlock) (ho : w2.ownsRow (w.heap.size + 1 + 1) 41 3 v' i' (flatD ds')) : RNm w s kd A n ca rt B k cb tm v' i' ds' w2 :=
  have hb := grown_at h.own hg h.size
  ⟨h.kept.trans (hb.mono (by omega)), h.one.below hb (by omega), h.two.below hb (by omega), ho⟩
end

end
end Go.Proofs.YtmaiggoinjldpaaGreatDoor

/-
  Layer 7: what the laws call, over what is kept: each call with its answer named. No statement of the seat is proved here.
-/
namespace Go.Proofs.YtmaiggoinjldpaaGreatDoor
open Go.RowKit
open Dc (D D0)

section
variable {w W : World} {L : List (Nat × TypeId × List Value)} {M : List (ByteArray × Option Addr × Nat × Option Addr × Nat × Mt)}
variable {s : ByteArray} {A B : Option Addr} {n k : Nat} {m : Mt} {s' : ByteArray} {A' B' : Option Addr} {n' k' : Nat} {m' : Mt}
theorem Kb.six (h : Kb w L M W) {g : Nat} {t : TypeId} {a b c d e f : Value} (hm : (g, t, [a, b, c, d, e, f]) ∈ L) :
    W.cell? ⟨g, 0, none⟩ = some a ∧ W.cell? ⟨g, 1, none⟩ = some b ∧ W.cell? ⟨g, 2, none⟩ = some c ∧ W.cell? ⟨g, 3, none⟩ = some d ∧ W.cell? ⟨g, 4, none⟩ = some e ∧ W.cell? ⟨g, 5, none⟩ = some f :=
  ⟨h.cell hm rfl, h.cell hm rfl, h.cell hm rfl, h.cell hm rfl, h.cell hm rfl, h.cell hm rfl⟩
theorem Kb.twelve (h : Kb w L M W) {g g' : Nat} {t t' : TypeId} {a b c d e f a' b' c' d' e' f' : Value} (hm : (g, t, [a, b, c, d, e, f]) ∈ L) (hm' : (g', t', [a', b', c', d', e', f']) ∈ L) :
    W.cell? ⟨g, 0, none⟩ = some a ∧ W.cell? ⟨g, 1, none⟩ = some b ∧ W.cell? ⟨g, 2, none⟩ = some c ∧ W.cell? ⟨g, 3, none⟩ = some d ∧ W.cell? ⟨g, 4, none⟩ = some e ∧ W.cell? ⟨g, 5, none⟩ = some f ∧
      W.cell? ⟨g', 0, none⟩ = some a' ∧ W.cell? ⟨g', 1, none⟩ = some b' ∧ W.cell? ⟨g', 2, none⟩ = some c' ∧ W.cell? ⟨g', 3, none⟩ = some d' ∧ W.cell? ⟨g', 4, none⟩ = some e' ∧ W.cell? ⟨g', 5, none⟩ = some f' ∧ Kb w L M W :=
  ⟨h.cell hm rfl, h.cell hm rfl, h.cell hm rfl, h.cell hm rfl, h.cell hm rfl, h.cell hm rfl, h.cell hm' rfl, h.cell hm' rfl, h.cell hm' rfl, h.cell hm' rfl, h.cell hm' rfl, h.cell hm' rfl, h⟩
theorem Kb.of12 {P1 P2 P3 P4 P5 P6 Q1 Q2 Q3 Q4 Q5 Q6 : Prop} (h : P1 ∧ P2 ∧ P3 ∧ P4 ∧ P5 ∧ P6 ∧ Q1 ∧ Q2 ∧ Q3 ∧ Q4 ∧ Q5 ∧ Q6 ∧ Kb w L M W) : Kb w L M W := h.2.2.2.2.2.2.2.2.2.2.2.2
theorem Kb.eighteen (h : Kb w L M W) {g g' g2 : Nat} {t t' t2 : TypeId} {a b c d e f a' b' c' d' e' f' a2 b2 c2 d2 e2 f2 : Value} (hm : (g, t, [a, b, c, d, e, f]) ∈ L) (hm' : (g', t', [a', b', c', d', e', f']) ∈ L) (hm2 : (g2, t2, [a2, b2, c2, d2, e2, f2]) ∈ L) :
    W.cell? ⟨g, 0, none⟩ = some a ∧ W.cell? ⟨g, 1, none⟩ = some b ∧ W.cell? ⟨g, 2, none⟩ = some c ∧ W.cell? ⟨g, 3, none⟩ = some d ∧ W.cell? ⟨g, 4, none⟩ = some e ∧ W.cell? ⟨g, 5, none⟩ = some f ∧
      W.cell? ⟨g', 0, none⟩ = some a' ∧ W.cell? ⟨g', 1, none⟩ = some b' ∧ W.cell? ⟨g', 2, none⟩ = some c' ∧ W.cell? ⟨g', 3, none⟩ = some d' ∧ W.cell? ⟨g', 4, none⟩ = some e' ∧ W.cell? ⟨g', 5, none⟩ = some f' ∧
      W.cell? ⟨g2, 0, none⟩ = some a2 ∧ W.cell? ⟨g2, 1, none⟩ = some b2 ∧ W.cell? ⟨g2, 2, none⟩ = some c2 ∧ W.cell? ⟨g2, 3, none⟩ = some d2 ∧ W.cell? ⟨g2, 4, none⟩ = some e2 ∧ W.cell? ⟨g2, 5, none⟩ = some f2 ∧ Kb w L M W :=
  ⟨h.cell hm rfl, h.cell hm rfl, h.cell hm rfl, h.cell hm rfl, h.cell hm rfl, h.cell hm rfl, h.cell hm' rfl, h.cell hm' rfl, h.cell hm' rfl, h.cell hm' rfl, h.cell hm' rfl, h.cell hm' rfl, h.cell hm2 rfl, h.cell hm2 rfl, h.cell hm2 rfl, h.cell hm2 rfl, h.cell hm2 rfl, h.cell hm2 rfl, h⟩
theorem Kb.of18 {P1 P2 P3 P4 P5 P6 Q1 Q2 Q3 Q4 Q5 Q6 R1 R2 R3 R4 R5 R6 : Prop} (h : P1 ∧ P2 ∧ P3 ∧ P4 ∧ P5 ∧ P6 ∧ Q1 ∧ Q2 ∧ Q3 ∧ Q4 ∧ Q5 ∧ Q6 ∧ R1 ∧ R2 ∧ R3 ∧ R4 ∧ R5 ∧ R6 ∧ Kb w L M W) : Kb w L M W := h.2.2.2.2.2.2.2.2.2.2.2.2.2.2.2.2.2.2
theorem Kb.lt (h : Kb w L M W) {g : Nat} {t : TypeId} {cs : List Value} (hm : (g, t, cs) ∈ L) : g < W.heap.size := (h.box _ hm).lt
theorem Kb.check_ {x : Int} (h : Kb w L M W) (hm : (s, A, n, B, k, m) ∈ M) (z : Small m) (hx : checkM m = x) (ca cb : Nat) :
    Calls Tryz.prog 22 #[.agg #[.string s, .int .i64 m.kind, .slice A n ca, .int .i64 m.rate, .slice B k cb, .int .i64 m.time]] W fun e w' => e = .returned (.int .i64 x) ∧ Kb w L M w' := by
  have := mcheck_calls (ca := ca) (cb := cb) (h.m hm) z
  rw [hx] at this
  exact this.mono fun e w' k => ⟨k.1, h.next k.2⟩
theorem Kb.rcheck_ {x : Int} (h : Kb w L M W) (hm : (s, A, n, B, k, m) ∈ M) (z : Small m) (hx : checkM m = x) (ca cb : Nat) :
    Calls Tryz.prog 13 #[.agg #[.string s, .int .i64 m.kind, .slice A n ca, .int .i64 m.rate, .slice B k cb, .int .i64 m.time]] W fun e w' => e = .returned (.int .i64 x) ∧ Kb w L M w' := by
  have := rmcheck_calls (ca := ca) (cb := cb) (h.m hm) z
  rw [hx] at this
  exact this.mono fun e w' k => ⟨k.1, h.next k.2⟩
/-- What a call of Normal leaves. -/
def NKb (w : World) (L : List (Nat × TypeId × List Value)) (M : List (ByteArray × Option Addr × Nat × Option Addr × Nat × Mt)) (m' : Mt) (x : Int) (e : Ending) (w' : World) : Prop :=
  ∃ s1 A1 n1 ca1 B1 k1 cb1, e = .returned (.tuple #[.agg #[.string s1, .int .i64 m'.kind, .slice A1 n1 ca1, .int .i64 m'.rate, .slice B1 k1 cb1, .int .i64 m'.time], .int .i64 x]) ∧ Kb w L ((s1, A1, n1, B1, k1, m') :: M) w'
end
theorem isM_no {m : Mt} (h : codeM m ≠ 0) : isM m = false := by
  unfold isM
  rw [decide_eq_false fun k => h (check_code k)]; rfl
theorem check_no {m : Mt} (h : codeM m ≠ 0) : checkM m ≠ 0 := fun k => h (check_code k)
theorem nM_nM {m : Mt} (h : codeM m = 0) : nM (nM m) = nM m := by rw [nM_ok h, nM_ok (formM_code h), formM_formM]
theorem codeM_nM {m : Mt} (h : codeM m = 0) : codeM (nM m) = 0 := by rw [nM_ok h]; exact formM_code h
theorem checkM_nM {m : Mt} (h : codeM m = 0) : checkM (nM m) = 0 := by rw [nM_ok h]; exact formM_check h
theorem isM_nM {m : Mt} (h : codeM m = 0) : isM (nM m) = true := by rw [nM_ok h]; exact isM_form h
theorem sameM_nM {m : Mt} (h : codeM m = 0) : sameM m (nM m) = true := by rw [nM_ok h]; exact sameM_form h
theorem isM_of {m : Mt} (h : checkM m = 0) : isM m = decide (m = nM m) := by rw [isM_iff, decide_eq_true h, Bool.true_and, nM_ok (check_code h)]
theorem tags_nM {m : Mt} (h : codeM m = 0) : (nM m).tags = norm (nM m).tags := by rw [nM_ok h]; exact (norm_norm m.tags).symm

/-- A law's first state: the metric lies, and is known. -/
theorem Kb.enter {w : World} {s : ByteArray} {A B : Option Addr} {n k ca cb : Nat} {m : Mt} (h : MIs w s A n B k m) :
    Kb w [(w.heap.size, 25, [.string s, .int .i64 m.kind, .slice A n ca, .int .i64 m.rate, .slice B k cb, .int .i64 m.time])] [(s, A, n, B, k, m)] (w.alloc (.cells #[.string s, .int .i64 m.kind, .slice A n ca, .int .i64 m.rate, .slice B k cb, .int .i64 m.time] 25)) :=
  ((Kb.start w).mAdd h).push _ _
/-- The world behind a metric that was laid in a block of its own. -/
theorem Kb.lay {w W : World} {L : List (Nat × TypeId × List Value)} {M : List (ByteArray × Option Addr × Nat × Option Addr × Nat × Mt)} (h : Kb w L M W) (a b c d e f : Value) :
    Kb w ((W.heap.size, 25, [a, b, c, d, e, f]) :: L) M (W.alloc (.cells #[a, b, c, d, e, f] 25)) := h.push _ _
/-! The same in a region that draws its order: in whatever world behind. -/
section
open Go.Sort
variable {w W : World} {L : List (Nat × TypeId × List Value)} {M : List (ByteArray × Option Addr × Nat × Option Addr × Nat × Mt)}
variable {s : ByteArray} {A B : Option Addr} {n k : Nat} {m : Mt} {s' : ByteArray} {A' B' : Option Addr} {n' k' : Nat} {m' : Mt}
/-- A call that answers v, in every world behind W. -/
def Qt (W : World) (f : FuncId) (args : Array Value) (v : Value) : Prop := ∀ d os, Calls Tryz.prog f args (grow (redrawn W d) os) fun e w'' => e = .returned v ∧ ∃ p : Regrown, w'' = grow (redrawn W p.d) p.os
theorem Kb.quiet {f : FuncId} {args : Array Value} {v : Value} (h : Kb w L M W) (c : ∀ W', Kb w L M W' → Calls Tryz.prog f args W' fun e w' => e = .returned v ∧ Below W'.heap.size W' w') : Qt W f args v :=
  fun d os => Calls.regrown_of (c _ (h.next (below_regrown W d os)))
theorem Kb.checkq {x : Int} (h : Kb w L M W) (hm : (s, A, n, B, k, m) ∈ M) (z : Small m) (hx : checkM m = x) (ca cb : Nat) :
    Qt W 22 #[.agg #[.string s, .int .i64 m.kind, .slice A n ca, .int .i64 m.rate, .slice B k cb, .int .i64 m.time]] (.int .i64 x) := h.quiet fun W' h' => by
  have := mcheck_calls (ca := ca) (cb := cb) (h'.m hm) z
  rw [hx] at this; exact this
/-- Six cells, in every world behind. -/
theorem Kb.sixq (h : Kb w L M W) {g : Nat} {t : TypeId} {a b c d e f : Value} (hm : (g, t, [a, b, c, d, e, f]) ∈ L) :
    (∀ x os, (grow (redrawn W x) os).cell? ⟨g, 0, none⟩ = some a) ∧ (∀ x os, (grow (redrawn W x) os).cell? ⟨g, 1, none⟩ = some b) ∧ (∀ x os, (grow (redrawn W x) os).cell? ⟨g, 2, none⟩ = some c) ∧ (∀ x os, (grow (redrawn W x) os).cell? ⟨g, 3, none⟩ = some d) ∧ (∀ x os, (grow (redrawn W x) os).cell? ⟨g, 4, none⟩ = some e) ∧ (∀ x os, (grow (redrawn W x) os).cell? ⟨g, 5, none⟩ = some f) :=
  ⟨cell_regrown (h.cell hm rfl), cell_regrown (h.cell hm rfl), cell_regrown (h.cell hm rfl), cell_regrown (h.cell hm rfl), cell_regrown (h.cell hm rfl), cell_regrown (h.cell hm rfl)⟩
end
end Go.Proofs.YtmaiggoinjldpaaGreatDoor

/-
  A metric and a Fault are returned. No statement of the seat is proved here.
-/
namespace Go.Proofs.YtmaiggoinjldpaaGreatDoor
open Go.RowKit
open Dc (D D0)

theorem results_cell_cell {fn : Func} {p u : Tmp} {tp tu : TypeId} (h : fn.results = #[.cell p tp, .cell u tu]) (tmps : Array Value) (w : World) :
    (results fn tmps).run Tryz.prog w = ((asAddr (tmps.getD p undef)).run Tryz.prog w).andThen fun a w1 => ((loadVar tp a).run Tryz.prog w1).andThen fun v w2 => ((asAddr (tmps.getD u undef)).run Tryz.prog w2).andThen fun b w3 => ((loadVar tu b).run Tryz.prog w3).andThen fun x w4 => .ok (.tuple #[v, x]) w4 := by
  simp only [results, h]
  simp [Sem.run_bind, Result.andThen]
/-- A metric and a Fault are returned. -/
theorem ret_mf {fn : Func} {p u : Tmp} (hres : fn.results = #[.cell p 25, .cell u 36]) {R : Ending → World → Prop} {A : Act} {w : World} {g g' : Nat} {a b c d e f x y : Value}
    (hp : A.tmps.getD p undef = .pointer (some ⟨g, 0, none⟩)) (hu : A.tmps.getD u undef = .pointer (some ⟨g', 0, none⟩)) (hd : A.defers = [])
    (hb : Box w g 25 [a, b, c, d, e, f]) (hf : Box w g' 36 [x, y]) (hR : R (.returned (.tuple #[.agg #[a, b, c, d, e, f], .agg #[x, y]])) w) : bodyPost Tryz.prog fn R .ret A w := by
  refine bodyPost_ret ?_ hd hR
  rw [results_cell_cell hres, hp, addr_is]
  simp only [Result.andThen]
  rw [load_met hb]
  simp only []
  rw [hu, addr_is]
  simp only []
  rw [load_fault hf]
/-- The metric and the Fault, as they are stored into the two blocks of what is returned. -/
theorem putMF_is {w : World} {g g' : Nat} {s s' : ByteArray} {kd kd' rt rt' tm tm' : Int} {A0 B0 A1 B1 : Option Addr} {n0 ca0 k0 cb0 n1 ca1 k1 cb1 : Nat} {x0 y0 : Value} (hne : g ≠ g') (hb : Box w g 25 (mC s kd A0 n0 ca0 rt B0 k0 cb0 tm)) (hf : Box w g' 36 [x0, y0]) (x y : Value) :
    Box (((putM w g s' kd' A1 n1 ca1 rt' B1 k1 cb1 tm').setCell ⟨g', 0, none⟩ x).setCell ⟨g', 1, none⟩ y) g 25 (mC s' kd' A1 n1 ca1 rt' B1 k1 cb1 tm') ∧
      Box (((putM w g s' kd' A1 n1 ca1 rt' B1 k1 cb1 tm').setCell ⟨g', 0, none⟩ x).setCell ⟨g', 1, none⟩ y) g' 36 [x, y] := by
  have hm := putM_is (s' := s') (kd' := kd') (rt' := rt') (tm' := tm') (A1 := A1) (B1 := B1) (n1 := n1) (ca1 := ca1) (k1 := k1) (cb1 := cb1) hb
  have hf2 : Box (putM w g s' kd' A1 n1 ca1 rt' B1 k1 cb1 tm') g' 36 [x0, y0] := by
    unfold putM
    exact (((((hf.far (q := ⟨g, 0, none⟩) hne.symm _).far (q := ⟨g, 1, none⟩) hne.symm _).far (q := ⟨g, 2, none⟩) hne.symm _).far (q := ⟨g, 3, none⟩) hne.symm _).far (q := ⟨g, 4, none⟩) hne.symm _).far (q := ⟨g, 5, none⟩) hne.symm _
  exact ⟨(hm.far (q := ⟨g', 0, none⟩) hne _).far (q := ⟨g', 1, none⟩) hne _, (hf2.set 0 x).set 1 y⟩
end Go.Proofs.YtmaiggoinjldpaaGreatDoor
