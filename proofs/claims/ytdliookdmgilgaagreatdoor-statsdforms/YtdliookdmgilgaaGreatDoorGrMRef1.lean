/-
  MRef1, MRef2, TRefNorm, MRef3. No statement of the seat is proved here.
-/
import Derived.Test.YtdliookdmgilgaaGreatDoorGrMNormal
import Derived.Test.YtdliookdmgilgaaGreatDoorTRefLess
import Derived.Test.YtdliookdmgilgaaGreatDoorGrDRefNorm
/-
  Layer 7: the document's Name, Rest and Check. No statement of the seat is proved here.
-/
namespace Go.Proofs.YtdliookdmgilgaaGreatDoor
open Go.RowKit
open Dc (D D0)

set_option maxRecDepth 100000 in
set_option maxHeartbeats 2000000 in
theorem rcheckT_calls {s t : ByteArray} {a : Tg} (hs : Str s a.1) (ht : Str t a.2) (hz : (s.size : Int) ≤ 100000) (hz2 : (t.size : Int) ≤ 100000) (w : World) :
    Calls Tryz.prog 95 #[.agg #[.string s, .string t]] w fun e w' => e = .returned (.int .i64 (chkT a)) ∧ Below w.heap.size w w' := by
  obtain ⟨q, hq⟩ : ∃ q, rightT a = q := ⟨_, rfl⟩
  have hR := fun W => right_calls hs ht hz hz2 W
  rw [hq] at hR
  have hc : chkT a = if q = true then 0 else 19 := by unfold chkT; rw [hq]
  rw [hc]
  have HR := Lib.hid hR
  have HB := Lib.hid (m_below w (.cells #[.string s, .string t] 54))
  clear hR hc hq hs ht
  go_enter Tryz.func95, Tryz.ntmps95
  go_wp2_with fail
  refine (HR.out _).mono ?_
  rintro e w1 ⟨rfl, hb⟩
  have HB1 := Lib.hid (below_then HB.out hb)
  clear hb HB HR
  cases q
  all_goals
    go_wp2_with fail
    go_ret
    exact ⟨rfl, HB1.out⟩


theorem nameR_iff (l : List UInt8) : nameR l = (l.all (fun b => isOf 1 (b.toNat : Int)) && decide (1 ≤ l.length ∧ l.length ≤ 200)) := by
  rw [Bool.eq_iff_iff, Bool.and_eq_true, decide_eq_true_eq]
  unfold nameR
  rw [decide_eq_true_eq]
  constructor
  · intro h
    obtain ⟨h1, h2, h3⟩ := fault_zero h
    exact ⟨List.all_eq_true.2 h3, by omega, by omega⟩
  · rintro ⟨h1, h2, h3⟩
    have hb : bad 1 l = -1 := bad_none fun i hi => List.all_eq_true.1 h1 _ (List.getElem_mem hi)
    unfold faultOf
    rw [if_neg (by simp [isCls]), if_neg (by omega), if_neg (by omega), hb, if_neg (by omega)]

set_option maxRecDepth 100000 in
set_option maxHeartbeats 8000000 in
theorem rname_calls {s : ByteArray} {l : List UInt8} (hs : Str s l) (hz : l.length ≤ 1000) (w : World) :
    Calls Tryz.prog 94 #[.string s] w fun e w' => e = .returned (.bool (nameR l)) ∧ Below w.heap.size w w' := by
  have n1 := hs.size
  obtain ⟨q, hq⟩ : ∃ q, nameR l = q := ⟨_, rfl⟩
  rw [hq]
  rw [nameR_iff] at hq
  have HQ := Lib.hid hq
  have HS := Lib.hid hs
  clear hq hs
  go_enter Tryz.func94, Tryz.ntmps94
  go_wp2_with fail
  go_loopw [3] (fun v wr => ∃ i : Nat, v = .int .i64 i ∧ i ≤ s.size ∧ Hid (Below w.heap.size w wr ∧ ∀ j (h : j < l.length), j < i → isOf 1 (l[j].toNat : Int) = true)) (fun v _ => s.size - (intOf v).toNat)
  case atStart => exact ⟨0, rfl, by omega, ⟨Below.refl _ _, fun j _ hj => absurd hj (by omega)⟩⟩
  case round =>
    obtain ⟨i, rfl, hin, hrel⟩ := hrel
    by_cases hlt : i < s.size
    · have g1 : (i : Int) < (s.size : Int) := by omega
      have hl : i < l.length := by omega
      have hidx := HS.out.index (i := (i : Int)) i rfl hl
      obtain ⟨x, hx⟩ : ∃ x : Int, x = (l[i].toNat : Int) := ⟨_, rfl⟩
      rw [← hx] at hidx
      have hx0 : 0 ≤ x ∧ x < 256 := by have := l[i].toNat_lt; omega
      have HX := Lib.hid (And.intro hx hx0)
      clear hx hx0 n1
      rcases (by omega : (x < 45) ∨ (x = 45) ∨ (x = 46) ∨ (x = 47) ∨ (48 ≤ x ∧ x ≤ 57) ∨ (58 ≤ x ∧ x ≤ 64) ∨ (65 ≤ x ∧ x ≤ 90) ∨ (91 ≤ x ∧ x ≤ 94) ∨ (x = 95) ∨ (x = 96) ∨ (97 ≤ x ∧ x ≤ 122) ∨ (123 ≤ x)) with h | h | h | h | h | h | h | h | h | h | h | h
      · have HG := Lib.hid (show isOf 1 (l[i].toNat : Int) = false by rw [← HX.out.1]; first | exact isOf1.2 (by omega) | (refine Bool.eq_false_iff.2 fun k => ?_; have := isOf1.1 k; omega))
        have t0 : ¬ 97 ≤ x := by omega
        have t1 : ¬ 65 ≤ x := by omega
        have t2 : ¬ 48 ≤ x := by omega
        have t3 : x ≤ 122 := by omega
        have t4 : x ≤ 90 := by omega
        have t5 : x ≤ 57 := by omega
        have t6 : (x == 95) = false := by simp; omega
        have t7 : (x == 46) = false := by simp; omega
        have t8 : (x == 45) = false := by simp; omega
        clear h
        have HE := Lib.hid (show q = false by
          rw [← HQ.out]
          refine Bool.eq_false_iff.2 fun k => ?_
          have := List.all_eq_true.1 (Bool.and_eq_true _ _ ▸ k).1 _ (List.getElem_mem hl)
          rw [HG.out] at this; cases this)
        go_wp2_with fail
        go_ret
        exact ⟨by rw [HE.out]; first | done | rfl, hrel.out.1⟩
      · have HG := Lib.hid (show isOf 1 (l[i].toNat : Int) = true by rw [← HX.out.1]; first | exact isOf1.2 (by omega) | (refine Bool.eq_false_iff.2 fun k => ?_; have := isOf1.1 k; omega))
        subst h
        go_wp2_with fail
        refine ⟨⟨i + 1, by go_num, by omega, ⟨hrel.out.1, fun j h hj => ?_⟩⟩, by simp [intOf]; omega⟩
        rcases Nat.lt_or_ge j i with h' | h'
        · exact hrel.out.2 j h h'
        · obtain rfl : i = j := by omega
          exact HG.out
      · have HG := Lib.hid (show isOf 1 (l[i].toNat : Int) = true by rw [← HX.out.1]; first | exact isOf1.2 (by omega) | (refine Bool.eq_false_iff.2 fun k => ?_; have := isOf1.1 k; omega))
        subst h
        go_wp2_with fail
        refine ⟨⟨i + 1, by go_num, by omega, ⟨hrel.out.1, fun j h hj => ?_⟩⟩, by simp [intOf]; omega⟩
        rcases Nat.lt_or_ge j i with h' | h'
        · exact hrel.out.2 j h h'
        · obtain rfl : i = j := by omega
          exact HG.out
      · have HG := Lib.hid (show isOf 1 (l[i].toNat : Int) = false by rw [← HX.out.1]; first | exact isOf1.2 (by omega) | (refine Bool.eq_false_iff.2 fun k => ?_; have := isOf1.1 k; omega))
        subst h
        have HE := Lib.hid (show q = false by
          rw [← HQ.out]
          refine Bool.eq_false_iff.2 fun k => ?_
          have := List.all_eq_true.1 (Bool.and_eq_true _ _ ▸ k).1 _ (List.getElem_mem hl)
          rw [HG.out] at this; cases this)
        go_wp2_with fail
        go_ret
        exact ⟨by rw [HE.out]; first | done | rfl, hrel.out.1⟩
      · have HG := Lib.hid (show isOf 1 (l[i].toNat : Int) = true by rw [← HX.out.1]; first | exact isOf1.2 (by omega) | (refine Bool.eq_false_iff.2 fun k => ?_; have := isOf1.1 k; omega))
        have t0 : ¬ 97 ≤ x := by omega
        have t1 : ¬ 65 ≤ x := by omega
        have t2 : 48 ≤ x := by omega
        have t3 : x ≤ 122 := by omega
        have t4 : x ≤ 90 := by omega
        have t5 : x ≤ 57 := by omega
        have t6 : (x == 95) = false := by simp; omega
        have t7 : (x == 46) = false := by simp; omega
        have t8 : (x == 45) = false := by simp; omega
        clear h
        go_wp2_with fail
        refine ⟨⟨i + 1, by go_num, by omega, ⟨hrel.out.1, fun j h hj => ?_⟩⟩, by simp [intOf]; omega⟩
        rcases Nat.lt_or_ge j i with h' | h'
        · exact hrel.out.2 j h h'
        · obtain rfl : i = j := by omega
          exact HG.out
      · have HG := Lib.hid (show isOf 1 (l[i].toNat : Int) = false by rw [← HX.out.1]; first | exact isOf1.2 (by omega) | (refine Bool.eq_false_iff.2 fun k => ?_; have := isOf1.1 k; omega))
        have t0 : ¬ 97 ≤ x := by omega
        have t1 : ¬ 65 ≤ x := by omega
        have t2 : 48 ≤ x := by omega
        have t3 : x ≤ 122 := by omega
        have t4 : x ≤ 90 := by omega
        have t5 : ¬ x ≤ 57 := by omega
        have t6 : (x == 95) = false := by simp; omega
        have t7 : (x == 46) = false := by simp; omega
        have t8 : (x == 45) = false := by simp; omega
        clear h
        have HE := Lib.hid (show q = false by
          rw [← HQ.out]
          refine Bool.eq_false_iff.2 fun k => ?_
          have := List.all_eq_true.1 (Bool.and_eq_true _ _ ▸ k).1 _ (List.getElem_mem hl)
          rw [HG.out] at this; cases this)
        go_wp2_with fail
        go_ret
        exact ⟨by rw [HE.out]; first | done | rfl, hrel.out.1⟩
      · have HG := Lib.hid (show isOf 1 (l[i].toNat : Int) = true by rw [← HX.out.1]; first | exact isOf1.2 (by omega) | (refine Bool.eq_false_iff.2 fun k => ?_; have := isOf1.1 k; omega))
        have t0 : ¬ 97 ≤ x := by omega
        have t1 : 65 ≤ x := by omega
        have t2 : 48 ≤ x := by omega
        have t3 : x ≤ 122 := by omega
        have t4 : x ≤ 90 := by omega
        have t5 : ¬ x ≤ 57 := by omega
        have t6 : (x == 95) = false := by simp; omega
        have t7 : (x == 46) = false := by simp; omega
        have t8 : (x == 45) = false := by simp; omega
        clear h
        go_wp2_with fail
        refine ⟨⟨i + 1, by go_num, by omega, ⟨hrel.out.1, fun j h hj => ?_⟩⟩, by simp [intOf]; omega⟩
        rcases Nat.lt_or_ge j i with h' | h'
        · exact hrel.out.2 j h h'
        · obtain rfl : i = j := by omega
          exact HG.out
      · have HG := Lib.hid (show isOf 1 (l[i].toNat : Int) = false by rw [← HX.out.1]; first | exact isOf1.2 (by omega) | (refine Bool.eq_false_iff.2 fun k => ?_; have := isOf1.1 k; omega))
        have t0 : ¬ 97 ≤ x := by omega
        have t1 : 65 ≤ x := by omega
        have t2 : 48 ≤ x := by omega
        have t3 : x ≤ 122 := by omega
        have t4 : ¬ x ≤ 90 := by omega
        have t5 : ¬ x ≤ 57 := by omega
        have t6 : (x == 95) = false := by simp; omega
        have t7 : (x == 46) = false := by simp; omega
        have t8 : (x == 45) = false := by simp; omega
        clear h
        have HE := Lib.hid (show q = false by
          rw [← HQ.out]
          refine Bool.eq_false_iff.2 fun k => ?_
          have := List.all_eq_true.1 (Bool.and_eq_true _ _ ▸ k).1 _ (List.getElem_mem hl)
          rw [HG.out] at this; cases this)
        go_wp2_with fail
        go_ret
        exact ⟨by rw [HE.out]; first | done | rfl, hrel.out.1⟩
      · have HG := Lib.hid (show isOf 1 (l[i].toNat : Int) = true by rw [← HX.out.1]; first | exact isOf1.2 (by omega) | (refine Bool.eq_false_iff.2 fun k => ?_; have := isOf1.1 k; omega))
        subst h
        go_wp2_with fail
        refine ⟨⟨i + 1, by go_num, by omega, ⟨hrel.out.1, fun j h hj => ?_⟩⟩, by simp [intOf]; omega⟩
        rcases Nat.lt_or_ge j i with h' | h'
        · exact hrel.out.2 j h h'
        · obtain rfl : i = j := by omega
          exact HG.out
      · have HG := Lib.hid (show isOf 1 (l[i].toNat : Int) = false by rw [← HX.out.1]; first | exact isOf1.2 (by omega) | (refine Bool.eq_false_iff.2 fun k => ?_; have := isOf1.1 k; omega))
        subst h
        have HE := Lib.hid (show q = false by
          rw [← HQ.out]
          refine Bool.eq_false_iff.2 fun k => ?_
          have := List.all_eq_true.1 (Bool.and_eq_true _ _ ▸ k).1 _ (List.getElem_mem hl)
          rw [HG.out] at this; cases this)
        go_wp2_with fail
        go_ret
        exact ⟨by rw [HE.out]; first | done | rfl, hrel.out.1⟩
      · have HG := Lib.hid (show isOf 1 (l[i].toNat : Int) = true by rw [← HX.out.1]; first | exact isOf1.2 (by omega) | (refine Bool.eq_false_iff.2 fun k => ?_; have := isOf1.1 k; omega))
        have t0 : 97 ≤ x := by omega
        have t1 : 65 ≤ x := by omega
        have t2 : 48 ≤ x := by omega
        have t3 : x ≤ 122 := by omega
        have t4 : ¬ x ≤ 90 := by omega
        have t5 : ¬ x ≤ 57 := by omega
        have t6 : (x == 95) = false := by simp; omega
        have t7 : (x == 46) = false := by simp; omega
        have t8 : (x == 45) = false := by simp; omega
        clear h
        go_wp2_with fail
        refine ⟨⟨i + 1, by go_num, by omega, ⟨hrel.out.1, fun j h hj => ?_⟩⟩, by simp [intOf]; omega⟩
        rcases Nat.lt_or_ge j i with h' | h'
        · exact hrel.out.2 j h h'
        · obtain rfl : i = j := by omega
          exact HG.out
      · have HG := Lib.hid (show isOf 1 (l[i].toNat : Int) = false by rw [← HX.out.1]; first | exact isOf1.2 (by omega) | (refine Bool.eq_false_iff.2 fun k => ?_; have := isOf1.1 k; omega))
        have t0 : 97 ≤ x := by omega
        have t1 : 65 ≤ x := by omega
        have t2 : 48 ≤ x := by omega
        have t3 : ¬ x ≤ 122 := by omega
        have t4 : ¬ x ≤ 90 := by omega
        have t5 : ¬ x ≤ 57 := by omega
        have t6 : (x == 95) = false := by simp; omega
        have t7 : (x == 46) = false := by simp; omega
        have t8 : (x == 45) = false := by simp; omega
        clear h
        have HE := Lib.hid (show q = false by
          rw [← HQ.out]
          refine Bool.eq_false_iff.2 fun k => ?_
          have := List.all_eq_true.1 (Bool.and_eq_true _ _ ▸ k).1 _ (List.getElem_mem hl)
          rw [HG.out] at this; cases this)
        go_wp2_with fail
        go_ret
        exact ⟨by rw [HE.out]; first | done | rfl, hrel.out.1⟩
    · have g1 : ¬ (i : Int) < (s.size : Int) := by omega
      have HE := Lib.hid (show q = decide (1 ≤ l.length ∧ l.length ≤ 200) by
        rw [← HQ.out, List.all_eq_true.2 (fun b hb => ?_), Bool.true_and]
        obtain ⟨j, hj, rfl⟩ := List.mem_iff_getElem.1 hb
        exact hrel.out.2 j hj (by omega))
      rcases (by omega : (s.size : Int) < 1 ∨ (1 ≤ (s.size : Int) ∧ ¬ (s.size : Int) ≤ 200) ∨ (1 ≤ (s.size : Int) ∧ (s.size : Int) ≤ 200)) with h | ⟨h, h2⟩ | ⟨h, h2⟩
      · have HF := Lib.hid (show q = false by rw [HE.out]; exact decide_eq_false (by omega))
        have h' : ¬ 1 ≤ (s.size : Int) := by omega
        go_wp2_with fail
        go_ret
        exact ⟨by rw [HF.out]; first | done | rfl | (simp; omega), hrel.out.1⟩
      · have HF := Lib.hid (show q = false by rw [HE.out]; exact decide_eq_false (by omega))
        go_wp2_with fail
        go_ret
        exact ⟨by rw [HF.out]; first | done | rfl | (simp; omega), hrel.out.1⟩
      · have HF := Lib.hid (show q = true by rw [HE.out]; exact decide_eq_true (by omega))
        go_wp2_with fail
        go_ret
        exact ⟨by rw [HF.out]; first | done | rfl | (simp; omega), hrel.out.1⟩
end Go.Proofs.YtdliookdmgilgaaGreatDoor

/-
  Layer 7: the document's Rest and Check. No statement of the seat is proved here.
-/
namespace Go.Proofs.YtdliookdmgilgaaGreatDoor
open Go.RowKit
open Dc (D D0)

section
variable {m : Mt} {ok : Bool}
theorem rest15 (h : nameR m.name = false) : restM m ok = 15 := by unfold restM; rw [if_pos h]
theorem rest16 (h0 : nameR m.name = true) (h : kindR m.kind = false) : restM m ok = 16 := by unfold restM; simp [h0, h]
theorem rest17 (h0 : nameR m.name = true) (h1 : kindR m.kind = true) (h : valsR ok m.vals.length = false) : restM m ok = 17 := by unfold restM; simp [h0, h1, h]
theorem rest18 (h0 : nameR m.name = true) (h1 : kindR m.kind = true) (h2 : valsR ok m.vals.length = true) (h : rateR m.kind m.rate = false) : restM m ok = 18 := by unfold restM; simp [h0, h1, h2, h]
theorem rest19 (h0 : nameR m.name = true) (h1 : kindR m.kind = true) (h2 : valsR ok m.vals.length = true) (h3 : rateR m.kind m.rate = true) (h : tagsR m.tags = false) : restM m ok = 19 := by unfold restM; simp [h0, h1, h2, h3, h]
theorem rest20 (h0 : nameR m.name = true) (h1 : kindR m.kind = true) (h2 : valsR ok m.vals.length = true) (h3 : rateR m.kind m.rate = true) (h4 : tagsR m.tags = true) (h : timeR m.time = false) : restM m ok = 20 := by unfold restM; simp [h0, h1, h2, h3, h4, h]
theorem rest0 (h0 : nameR m.name = true) (h1 : kindR m.kind = true) (h2 : valsR ok m.vals.length = true) (h3 : rateR m.kind m.rate = true) (h4 : tagsR m.tags = true) (h : timeR m.time = true) : restM m ok = 0 := by unfold restM; simp [h0, h1, h2, h3, h4, h]
end

section
variable {w : World} {s : ByteArray} {A B : Option Addr} {n k ca cb : Nat} {m : Mt}
set_option maxRecDepth 100000 in
set_option maxHeartbeats 8000000 in
theorem rest_calls (h : MIs w s A n B k m) (hz : Small m) (ok : Bool) : Calls Tryz.prog 55 #[mV s m.kind A n ca m.rate B k cb m.time, .bool ok] w fun e w' => e = .returned (.int .i64 (restM m ok)) ∧ Below w.heap.size w w' := by
  obtain ⟨q, hq⟩ : ∃ q, restM m ok = q := ⟨_, rfl⟩
  rw [hq]
  have HQ := Lib.hid hq
  have hN := fun W => rname_calls h.name hz.name W
  obtain ⟨qn, hqn⟩ : ∃ q, nameR m.name = q := ⟨_, rfl⟩
  rw [hqn] at hN
  have HN := Lib.hid hN
  have HH := Lib.hid (And.intro h (And.intro hz hqn))
  obtain ⟨kd, hkd⟩ : ∃ x, x = m.kind := ⟨_, rfl⟩
  obtain ⟨rt, hrt⟩ : ∃ x, x = m.rate := ⟨_, rfl⟩
  obtain ⟨tm, htm⟩ : ∃ x, x = m.time := ⟨_, rfl⟩
  rw [← hkd, ← hrt, ← htm]
  have HK := Lib.hid (And.intro hkd (And.intro hrt (And.intro htm (And.intro h.vlen h.tlen))))
  have b0 := (Kb.start w).push 25 (mC s kd A n ca rt B k cb tm)
  unfold mC at b0
  have HB := Lib.hid b0
  have hk200 : k ≤ 200 := by have := h.tlen; have := hz.tags; omega
  unfold mV
  clear hq hN hqn hkd hrt htm b0 h hz
  go_enter Tryz.func55, Tryz.ntmps55
  go_wp2_with fail
  refine (HN.out _).mono ?_
  rintro e w1 ⟨rfl, hb⟩
  have HB1 := Lib.hid (HB.out.next hb)
  have c1 : w1.cell? ⟨w.heap.size, 1, none⟩ = some (.int .i64 kd) := HB1.out.cell (.head _) rfl
  have c2 : w1.cell? ⟨w.heap.size, 2, none⟩ = some (.slice A n ca) := HB1.out.cell (.head _) rfl
  have c3 : w1.cell? ⟨w.heap.size, 3, none⟩ = some (.int .i64 rt) := HB1.out.cell (.head _) rfl
  have c4 : w1.cell? ⟨w.heap.size, 4, none⟩ = some (.slice B k cb) := HB1.out.cell (.head _) rfl
  have c5 : w1.cell? ⟨w.heap.size, 5, none⟩ = some (.int .i64 tm) := HB1.out.cell (.head _) rfl
  clear hb HB HN
  cases qn
  · have HE := Lib.hid (show q = 15 by rw [← HQ.out]; exact rest15 HH.out.2.2)
    go_wp2_with fail
    go_ret
    exact ⟨by rw [HE.out]; rfl, HB1.out.kept⟩
  have H0 := Lib.hid HH.out.2.2
  rcases (by omega : kd < 1 ∨ (¬ kd < 1 ∧ 5 < kd) ∨ (¬ kd < 1 ∧ ¬ 5 < kd)) with k1 | ⟨k1, k2⟩ | ⟨k1, k2⟩
  · have HE := Lib.hid (show q = 16 by rw [← HQ.out]; refine rest16 H0.out ?_; rw [← HK.out.1]; exact decide_eq_false (by omega))
    go_wp2_with fail
    go_ret
    exact ⟨by rw [HE.out]; rfl, HB1.out.kept⟩
  · have HE := Lib.hid (show q = 16 by rw [← HQ.out]; refine rest16 H0.out ?_; rw [← HK.out.1]; exact decide_eq_false (by omega))
    go_wp2_with fail
    go_ret
    exact ⟨by rw [HE.out]; rfl, HB1.out.kept⟩
  have H1 := Lib.hid (show kindR m.kind = true by rw [← HK.out.1]; exact decide_eq_true (by omega))
  rcases (by cases ok <;> simp <;> omega : ok = false ∨ (ok = true ∧ (n : Int) < 1) ∨ (ok = true ∧ ¬ (n : Int) < 1 ∧ 64 < (n : Int)) ∨ (ok = true ∧ ¬ (n : Int) < 1 ∧ ¬ 64 < (n : Int))) with rfl | ⟨rfl, v1⟩ | ⟨rfl, v1, v2⟩ | ⟨rfl, v1, v2⟩
  · have HE := Lib.hid (show q = 17 by rw [← HQ.out]; exact rest17 H0.out H1.out rfl)
    go_wp2_with fail
    go_ret
    exact ⟨by rw [HE.out]; rfl, HB1.out.kept⟩
  · have HE := Lib.hid (show q = 17 by rw [← HQ.out]; refine rest17 H0.out H1.out ?_; rw [HK.out.2.2.2.1]; unfold valsR; rw [decide_eq_false (by omega)]; rfl)
    go_wp2_with fail
    go_ret
    exact ⟨by rw [HE.out]; rfl, HB1.out.kept⟩
  · have HE := Lib.hid (show q = 17 by rw [← HQ.out]; refine rest17 H0.out H1.out ?_; rw [HK.out.2.2.2.1]; unfold valsR; rw [decide_eq_false (by omega)]; rfl)
    go_wp2_with fail
    go_ret
    exact ⟨by rw [HE.out]; rfl, HB1.out.kept⟩
  have H2 := Lib.hid (show valsR true m.vals.length = true by rw [HK.out.2.2.2.1]; unfold valsR; rw [decide_eq_true (by omega)]; rfl)
  rcases (by omega : rt < 1 ∨ (¬ rt < 1 ∧ 1000000 < rt) ∨ (¬ rt < 1 ∧ ¬ 1000000 < rt ∧ kd = 2 ∧ rt ≠ 1000000) ∨ (¬ rt < 1 ∧ ¬ 1000000 < rt ∧ (kd ≠ 2 ∨ rt = 1000000))) with r1 | ⟨r1, r2⟩ | ⟨r1, r2, r3, r4⟩ | ⟨r1, r2, r3⟩
  · have HE := Lib.hid (show q = 18 by rw [← HQ.out]; refine rest18 H0.out H1.out H2.out ?_; rw [← HK.out.1, ← HK.out.2.1]; exact decide_eq_false (by omega))
    go_wp2_with fail
    go_ret
    exact ⟨by rw [HE.out]; rfl, HB1.out.kept⟩
  · have HE := Lib.hid (show q = 18 by rw [← HQ.out]; refine rest18 H0.out H1.out H2.out ?_; rw [← HK.out.1, ← HK.out.2.1]; exact decide_eq_false (by omega))
    go_wp2_with fail
    go_ret
    exact ⟨by rw [HE.out]; rfl, HB1.out.kept⟩
  · have HE := Lib.hid (show q = 18 by rw [← HQ.out]; refine rest18 H0.out H1.out H2.out ?_; rw [← HK.out.1, ← HK.out.2.1]; exact decide_eq_false (by omega))
    subst r3
    have r5 : (rt != 1000000) = true := by simpa using r4
    go_wp2_with fail
    go_ret
    exact ⟨by rw [HE.out]; rfl, HB1.out.kept⟩
  have H3 := Lib.hid (show rateR m.kind m.rate = true by rw [← HK.out.1, ← HK.out.2.1]; exact decide_eq_true (by omega))
  have hrate : ((kd == 2) = false) ∨ (kd = 2 ∧ rt = 1000000) := by
    by_cases h : kd = 2
    · exact .inr ⟨h, by omega⟩
    · exact .inl (by simpa using h)
  clear r3
  by_cases t1 : 32 < (k : Int)
  · have HE := Lib.hid (show q = 19 by rw [← HQ.out]; refine rest19 H0.out H1.out H2.out H3.out ?_; unfold tagsR; rw [HK.out.2.2.2.2, decide_eq_false (by omega)]; rfl)
    rcases hrate with h | ⟨rfl, rfl⟩
    all_goals
      go_wp2_with fail
      go_ret
      exact ⟨by rw [HE.out]; rfl, HB1.out.kept⟩
  rcases hrate with hr | ⟨rfl, rfl⟩
  all_goals
    go_wp2_with fail
    go_loopw [5] (fun v wr => ∃ i : Nat, v = .int .i64 i ∧ i ≤ k ∧ Hid (Kb w [(w.heap.size, 25, [.string s, .int .i64 _, .slice A n ca, .int .i64 _, .slice B k cb, .int .i64 tm])] [] wr ∧ ∀ j (h : j < m.tags.length), j < i → rightT m.tags[j] = true)) (fun v _ => k - (intOf v).toNat)
    case atStart => exact ⟨0, rfl, by omega, ⟨HB1.out, fun j _ hj => absurd hj (by omega)⟩⟩
    case round =>
      obtain ⟨i, rfl, hin, hrel⟩ := hrel
      clear HB1 c1 c2 c3 c4 c5
      have c4 : wr.cell? ⟨w.heap.size, 4, none⟩ = some (.slice B k cb) := hrel.out.1.cell (.head _) rfl
      have c5 : wr.cell? ⟨w.heap.size, 5, none⟩ = some (.int .i64 tm) := hrel.out.1.cell (.head _) rfl
      by_cases hlt : i < k
      · have g1 : (i : Int) < (k : Int) := by omega
        have g2 : (0 : Int) ≤ (i : Int) := by omega
        obtain ⟨hm, hz, _⟩ := HH.out
        have l0 : i < m.tags.length := by rw [hm.tlen]; exact hlt
        obtain ⟨b, off, s1, u1, e1, d0, d1, hs, hu⟩ := (hm.tags.keep hrel.out.1.kept).get l0
        subst e1
        have hl := hz.lens _ (List.getElem_mem l0)
        have n1 := hs.size
        have n2 := hu.size
        have hC := fun W => rcheckT_calls hs hu (by omega) (by omega) W
        obtain ⟨r, hr2⟩ : ∃ r, rightT m.tags[i] = r := ⟨_, rfl⟩
        have hr3 : chkT m.tags[i] = if r = true then 0 else 19 := by unfold chkT; rw [hr2]
        rw [hr3] at hC
        have HC := Lib.hid hC
        have HR := Lib.hid hr2
        clear hm hz hs hu hl n1 n2 hC hr2 hr3
        go_wp2_with fail
        refine (HC.out _).mono ?_
        rintro e w2 ⟨rfl, hb⟩
        have HB2 := Lib.hid (hrel.out.1.next hb)
        clear hb HC d0 d1 c4 c5
        cases r
        · have HE := Lib.hid (show q = 19 by
            rw [← HQ.out]; refine rest19 H0.out H1.out H2.out H3.out ?_
            unfold tagsR
            rw [Bool.and_eq_false_iff]; right
            refine Bool.eq_false_iff.2 fun h => ?_
            have := List.all_eq_true.1 h _ (List.getElem_mem l0)
            rw [HR.out] at this; cases this)
          go_wp2_with fail
          go_ret
          exact ⟨by rw [HE.out]; rfl, HB2.out.kept⟩
        · go_wp2_with fail
          refine ⟨⟨i + 1, by go_num, by omega, ⟨HB2.out, fun j h hj => ?_⟩⟩, by simp [intOf]; omega⟩
          rcases Nat.lt_or_ge j i with h' | h'
          · exact hrel.out.2 j h h'
          · obtain rfl : i = j := by omega
            exact HR.out
      · have g1 : ¬ (i : Int) < (k : Int) := by omega
        have H4 := Lib.hid (show tagsR m.tags = true by
          unfold tagsR
          rw [HK.out.2.2.2.2, decide_eq_true (by omega), Bool.true_and]
          refine List.all_eq_true.2 fun t ht => ?_
          obtain ⟨j, hj, rfl⟩ := List.mem_iff_getElem.1 ht
          exact hrel.out.2 j hj (by have := HK.out.2.2.2.2; omega))
        rcases (by omega : tm < 0 ∨ (¬ tm < 0 ∧ 1099511627776 < tm) ∨ (¬ tm < 0 ∧ ¬ 1099511627776 < tm)) with k1 | ⟨k1, k2⟩ | ⟨k1, k2⟩
        · have HE := Lib.hid (show q = 20 by rw [← HQ.out]; refine rest20 H0.out H1.out H2.out H3.out H4.out ?_; rw [← HK.out.2.2.1]; exact decide_eq_false (by omega))
          go_wp2_with fail
          go_ret
          exact ⟨by rw [HE.out]; rfl, hrel.out.1.kept⟩
        · have HE := Lib.hid (show q = 20 by rw [← HQ.out]; refine rest20 H0.out H1.out H2.out H3.out H4.out ?_; rw [← HK.out.2.2.1]; exact decide_eq_false (by omega))
          go_wp2_with fail
          go_ret
          exact ⟨by rw [HE.out]; rfl, hrel.out.1.kept⟩
        · have HE := Lib.hid (show q = 0 by rw [← HQ.out]; refine rest0 H0.out H1.out H2.out H3.out H4.out ?_; rw [← HK.out.2.2.1]; exact decide_eq_true (by omega))
          go_wp2_with fail
          go_ret
          exact ⟨by rw [HE.out]; rfl, hrel.out.1.kept⟩
end
end Go.Proofs.YtdliookdmgilgaaGreatDoor

/-
  Layer 6: the document's Normal. No statement of the seat is proved here.
-/
namespace Go.Proofs.YtdliookdmgilgaaGreatDoor
open Go.RowKit

theorem own_below {w w' : World} {base size n B : Nat} {e : TypeId} {v : Value} {xs : List Value} (h : w.ownsRow base e size v n xs) (hb : Below B w w') (hv : ∀ k, v.ownBlock = some k → k < B) : w'.ownsRow base e size v n xs := by
  refine ⟨h.1, ?_⟩
  rcases h.2 with h2 | ⟨g, cap, cur, rfl, hg, hh, r⟩
  · exact .inl h2
  · exact .inr ⟨g, cap, cur, rfl, hg, (hb.block g (hv g rfl)).trans hh, r⟩

/-- Where the document's Normal stands: the tags so far, and the tags that come to be. -/
structure RN (w : World) (B : Nat) (vo : Value) (no : Nat) (o : List Tg) (vm : Value) (nm : Nat) (more : List Tg) (w' : World) : Prop where
  kept : Below w.heap.size w w'
  out : w'.ownsRow w.heap.size 54 2 vo no (flat o)
  lim : ∀ k, vo.ownBlock = some k → k < B
  low : w.heap.size ≤ B
  high : B ≤ w'.heap.size
  row : w'.ownsRow B 54 2 vm nm (flat more)
section
variable {w w1 w2 : World} {B no nm : Nat} {vo vm : Value} {o more : List Tg}
theorem RN.next (h : RN w B vo no o vm nm more w1) (k : Below w1.heap.size w1 w2) : RN w B vo no o vm nm more w2 :=
  ⟨below_then h.kept k, own_keep h.out k, h.lim, h.low, Nat.le_trans h.high k.size, own_keep h.row k⟩
theorem RN.alloc (h : RN w B vo no o vm nm more w1) (ob : Obj) : RN w B vo no o vm nm more (w1.alloc ob) := h.next ((Below.refl _ _).alloc (Nat.le_refl _) ob)
theorem RN.drewN (h : RN w B vo no o vm nm more w1) (n : Nat) : RN w B vo no o vm nm more (w1.drewN n) := h.next (Same.below (Same.drewN _ _))
theorem RN.push (h : RN w B vo no o vm nm more w1) {vm' : Value} {nm' : Nat} {more' : List Tg} (hg : w1.grownBy w2 vm.ownBlock) (ho : w2.ownsRow B 54 2 vm' nm' (flat more')) : RN w B vo no o vm' nm' more' w2 := by
  have hB : ∀ k, vm.ownBlock = some k → B ≤ k := by
    intro k hk
    rcases h.row.2 with ⟨rfl, _⟩ | ⟨g, cap, cur, rfl, hg, _⟩
    · cases hk
    · injection hk with hk; subst hk; exact hg
  have hb : Below B w1 w2 := (Below.refl B w1).grown hg h.high hB
  exact ⟨h.kept.trans (hb.mono h.low), own_below h.out hb h.lim, h.lim, h.low, Nat.le_trans h.high hb.size, ho⟩
end

/-- .. and these cells lie so. -/
structure RNS (w : World) (L : List (Addr × Value)) (B : Nat) (vo : Value) (no : Nat) (o : List Tg) (vm : Value) (nm : Nat) (more : List Tg) (w' : World) : Prop where
  cs : Cs w L w'
  rn : RN w B vo no o vm nm more w'
section
variable {w w1 w2 : World} {L : List (Addr × Value)} {B no nm : Nat} {vo vm : Value} {o more : List Tg}
theorem RNS.next (h : RNS w L B vo no o vm nm more w1) (k : Below w1.heap.size w1 w2) : RNS w L B vo no o vm nm more w2 := ⟨h.cs.next k, h.rn.next k⟩
theorem RNS.four {a b c d : Addr} {p q r s : Value} (h : RNS w [(a, p), (b, q), (c, r), (d, s)] B vo no o vm nm more w1) : w1.cell? a = some p ∧ w1.cell? b = some q ∧ w1.cell? c = some r ∧ w1.cell? d = some s ∧ RNS w [(a, p), (b, q), (c, r), (d, s)] B vo no o vm nm more w1 := by
  obtain ⟨h1, h2, h3, h4, _⟩ := h.cs.four
  exact ⟨h1, h2, h3, h4, h⟩
theorem RNS.of {P1 P2 P3 P4 : Prop} (h : P1 ∧ P2 ∧ P3 ∧ P4 ∧ RNS w L B vo no o vm nm more w1) : RNS w L B vo no o vm nm more w1 := h.2.2.2.2
end

/-- How far the insertion is. -/
def InsAt (t : Tg) (o : List Tg) (put : Bool) (more : List Tg) (k : Nat) : Prop :=
  (put = false ∧ more = o.take k ∧ o.take k ++ ins t (o.drop k) = ins t o) ∨ (put = true ∧ more ++ o.drop k = ins t o)
section
variable {t : Tg} {o more : List Tg} {k : Nat}
theorem InsAt.start : InsAt t o false [] 0 := .inl ⟨rfl, rfl, rfl⟩
theorem take_one {α : Type} {l : List α} {k : Nat} (h : k < l.length) : l.take (k + 1) = l.take k ++ [l[k]] := by rw [List.take_add_one, List.getElem?_eq_getElem h]; rfl
theorem InsAt.less (h : InsAt t o false more k) (hk : k < o.length) (hl : ltT o[k] t = true) : InsAt t o false (more ++ [o[k]]) (k + 1) := by
  rcases h with ⟨_, rfl, h⟩ | ⟨h, _⟩
  · refine .inl ⟨rfl, (take_one hk).symm, ?_⟩
    rw [← h, take_one hk, ← List.getElem_cons_drop hk, ins, if_pos hl, List.append_assoc]
    rfl
  · cases h
theorem InsAt.same (h : InsAt t o false more k) (hk : k < o.length) (hl : ltT o[k] t = false) (he : o[k] = t) : InsAt t o true (more ++ [o[k]]) (k + 1) := by
  rcases h with ⟨_, rfl, h⟩ | ⟨h, _⟩
  · refine .inr ⟨rfl, ?_⟩
    rw [← h, ← List.getElem_cons_drop hk, ins, if_neg (by rw [hl]; simp), if_pos he, List.append_assoc]
    rfl
  · cases h
theorem InsAt.both (h : InsAt t o false more k) (hk : k < o.length) (hl : ltT o[k] t = false) (he : o[k] ≠ t) : InsAt t o true (more ++ [t] ++ [o[k]]) (k + 1) := by
  rcases h with ⟨_, rfl, h⟩ | ⟨h, _⟩
  · refine .inr ⟨rfl, ?_⟩
    rw [← h, ← List.getElem_cons_drop hk, ins, if_neg (by rw [hl]; simp), if_neg he, List.append_assoc, List.append_assoc]
    rfl
  · cases h
theorem InsAt.go (h : InsAt t o true more k) (hk : k < o.length) : InsAt t o true (more ++ [o[k]]) (k + 1) := by
  rcases h with ⟨h, _⟩ | ⟨_, h⟩
  · cases h
  · refine .inr ⟨rfl, ?_⟩
    rw [← h, ← List.getElem_cons_drop hk, List.append_assoc]
    rfl
theorem InsAt.end_ (h : InsAt t o false more k) (hk : k = o.length) : more ++ [t] = ins t o := by
  subst hk
  rcases h with ⟨_, rfl, h⟩ | ⟨h, _⟩
  · rw [← h, List.drop_length]; rfl
  · cases h
theorem InsAt.end' (h : InsAt t o true more k) (hk : k = o.length) : more = ins t o := by
  subst hk
  rcases h with ⟨h, _⟩ | ⟨_, h⟩
  · cases h
  · rw [← h, List.drop_length, List.append_nil]
end

end Go.Proofs.YtdliookdmgilgaaGreatDoor

/-
  Layer 7: the document's Check and Normal. No statement of the seat is proved here.
-/
namespace Go.Proofs.YtdliookdmgilgaaGreatDoor
open Go.RowKit
open Dc (D D0)

theorem okV_step {ds : List D} {i : Nat} (h : i < ds.length) : okV (ds.take (i + 1)) = (okV (ds.take i) && decide (Dc.check ds[i] = 0)) := by
  unfold okV; rw [List.take_add_one, List.getElem?_eq_getElem h, List.all_append]; simp only [Option.toList, List.all_cons, List.all_nil, Bool.and_true]
theorem hasN_step {ds : List D} {i : Nat} (h : i < ds.length) : hasN (ds.take (i + 1)) = (hasN (ds.take i) && (Dc.normal ds[i]).isSome) := by
  unfold hasN; rw [List.take_add_one, List.getElem?_eq_getElem h, List.all_append]; simp only [Option.toList, List.all_cons, List.all_nil, Bool.and_true]
theorem nVal_map {ds : List D} (h : hasN ds = true) : ds.map Dc.nVal = ds.map form :=
  List.map_congr_left fun d hd => form_nVal (List.all_eq_true.1 h d hd)
theorem nVal_step {ds : List D} {i : Nat} (h : i < ds.length) : (ds.take (i + 1)).map Dc.nVal = (ds.take i).map Dc.nVal ++ [Dc.nVal ds[i]] := by
  rw [List.take_add_one, List.getElem?_eq_getElem h]; simp only [Option.toList, List.map_append, List.map_cons, List.map_nil]
theorem grown_at {W w8 : World} {B : Nat} {el : TypeId} {size n : Nat} {v : Value} {xs : List Value} (hown : W.ownsRow B el size v n xs) (hg : W.grownBy w8 v.ownBlock) (hB : B ≤ W.heap.size) : Below B W w8 :=
  (Below.refl B W).grown hg hB fun k hk => by
    rcases hown.2 with ⟨rfl, _⟩ | ⟨g, cap, cur, rfl, h, _⟩
    · cases hk
    · injection hk with hk; subst hk; exact h

section
variable {w : World} {s : ByteArray} {A B : Option Addr} {n k ca cb : Nat} {m : Mt}
set_option maxRecDepth 100000 in
set_option maxHeartbeats 8000000 in
theorem rmcheck_calls (h : MIs w s A n B k m) (hz : Small m) : Calls Tryz.prog 27 #[mV s m.kind A n ca m.rate B k cb m.time] w fun e w' => e = .returned (.int .i64 (checkM m)) ∧ Below w.heap.size w w' := by
  obtain ⟨q, hq⟩ : ∃ q, checkM m = q := ⟨_, rfl⟩
  have hR := fun W (b : Below w.heap.size w W) => rest_calls (ca := ca) (cb := cb) (h.keep b) hz (okV m.vals)
  rw [show restM m (okV m.vals) = q from hq] at hR
  rw [hq]
  have hn1000 : n ≤ 1000 := by have := h.vlen; have := hz.vals; omega
  unfold mV at hR ⊢
  generalize m.kind = kd at *
  generalize m.rate = rt at *
  generalize m.time = tm at *
  have HR := Lib.hid hR
  have HH := Lib.hid (And.intro h hz)
  have b0 := (Kb.start w).push 25 (mC s kd A n ca rt B k cb tm)
  unfold mC at b0
  have HB := Lib.hid b0
  clear hR hq b0 h hz
  go_enter Tryz.func27, Tryz.ntmps27
  go_wp2_with fail
  go_loopw [3, 4] (fun v3 v4 wr => ∃ (i : Nat) (r : Bool), v3 = .bool r ∧ v4 = .int .i64 i ∧ i ≤ n ∧ Hid (Kb w [(w.heap.size, 25, [.string s, .int .i64 kd, .slice A n ca, .int .i64 rt, .slice B k cb, .int .i64 tm])] [] wr ∧ okV (m.vals.take i) = r)) (fun _ v4 _ => n - (intOf v4).toNat)
  case atStart => exact ⟨0, true, rfl, rfl, by omega, ⟨HB.out, by simp [okV]⟩⟩
  case round =>
    obtain ⟨i, r, rfl, rfl, hi, hrel⟩ := hrel
    clear HB
    have c2 : wr.cell? ⟨w.heap.size, 2, none⟩ = some (.slice A n ca) := hrel.out.1.cell (.head _) rfl
    by_cases hlt : i < n
    · have g1 : (i : Int) < (n : Int) := by omega
      have g2 : (0 : Int) ≤ (i : Int) := by omega
      obtain ⟨hm, hz⟩ := HH.out
      have l0 : i < m.vals.length := by rw [hm.vlen]; exact hlt
      cases r
      · have HE := Lib.hid (show okV (m.vals.take (i + 1)) = false by rw [okV_step l0, hrel.out.2]; rfl)
        clear hm hz
        go_wp2_with fail
        exact ⟨⟨i + 1, false, rfl, by go_num, by omega, ⟨hrel.out.1, HE.out⟩⟩, by simp [intOf]; omega⟩
      · obtain ⟨b, off, p, x, y, e1, d0, d1, d2, hd⟩ := (hm.vals.keep hrel.out.1.kept).get l0
        subst e1
        have hC := fun W => Dc.rcheck_calls m.vals[i] (hz.fits _ (List.getElem_mem l0)) W
        unfold Dc.dV at hC
        simp only [← hd.neg, ← hd.c, ← hd.e] at hC
        obtain ⟨z, hzz⟩ : ∃ z, Dc.check m.vals[i] = z := ⟨_, rfl⟩
        rw [hzz] at hC
        have HC := Lib.hid hC
        have HZ := Lib.hid hzz
        clear hm hz hC hzz hd
        go_wp2_with fail
        refine (HC.out _).mono ?_
        rintro e w2 ⟨rfl, hb⟩
        have HB2 := Lib.hid (hrel.out.1.next hb)
        clear hb HC d0 d1 d2 c2
        by_cases hz0 : z = 0
        · have HE := Lib.hid (show okV (m.vals.take (i + 1)) = true by rw [okV_step l0, hrel.out.2, HZ.out, hz0]; rfl)
          subst hz0
          go_wp2_with fail
          exact ⟨⟨i + 1, true, rfl, by go_num, by omega, ⟨HB2.out, HE.out⟩⟩, by simp [intOf]; omega⟩
        · have HE := Lib.hid (show okV (m.vals.take (i + 1)) = false by rw [okV_step l0, hrel.out.2, HZ.out, decide_eq_false hz0]; rfl)
          have h1 : (z == 0) = false := by simpa using hz0
          go_wp2_with fail
          exact ⟨⟨i + 1, false, rfl, by go_num, by omega, ⟨HB2.out, HE.out⟩⟩, by simp [intOf]; omega⟩
    · have g1 : ¬ (i : Int) < (n : Int) := by omega
      have hr : r = okV m.vals := by
        rw [← hrel.out.2, List.take_of_length_le (by have := HH.out.1.vlen; omega)]
      have c0 : wr.cell? ⟨w.heap.size, 0, none⟩ = some (.string s) := hrel.out.1.cell (.head _) rfl
      have c1 : wr.cell? ⟨w.heap.size, 1, none⟩ = some (.int .i64 kd) := hrel.out.1.cell (.head _) rfl
      have c3 : wr.cell? ⟨w.heap.size, 3, none⟩ = some (.int .i64 rt) := hrel.out.1.cell (.head _) rfl
      have c4 : wr.cell? ⟨w.heap.size, 4, none⟩ = some (.slice B k cb) := hrel.out.1.cell (.head _) rfl
      have c5 : wr.cell? ⟨w.heap.size, 5, none⟩ = some (.int .i64 tm) := hrel.out.1.cell (.head _) rfl
      have HR2 := Lib.hid (HR.out wr hrel.out.1.kept)
      rw [← hr] at HR2
      clear hr HR
      go_wp2_with fail
      refine HR2.out.mono ?_
      rintro e w2 ⟨rfl, hb⟩
      have HB2 := Lib.hid (hrel.out.1.next hb)
      clear hb c0 c1 c2 c3 c4 c5
      go_wp2_with fail
      go_ret
      exact ⟨rfl, HB2.out.kept⟩

/-- Where the document's Normal stands. -/
structure RNm (w : World) (s : ByteArray) (kd : Int) (A : Option Addr) (n ca : Nat) (rt : Int) (B : Option Addr) (k cb : Nat) (tm : Int) (v : Value) (i : Nat) (ds : List D) (w' : World) : Prop where
  kept : Below w.heap.size w w'
  one : Box w' w.heap.size 25 (mC s kd A n ca rt B k cb tm)
  two : Box w' (w.heap.size + 1) 25 (mC ⟨#[]⟩ 0 none 0 0 0 none 0 0 0)
  own : w'.ownsRow (w.heap.size + 1 + 1) 50 3 v i (flatD ds)
section
variable {w1 w2 : World} {kd rt tm : Int} {v : Value} {i : Nat} {ds : List D}
theorem RNm.next (h : RNm w s kd A n ca rt B k cb tm v i ds w1) (b : Below w1.heap.size w1 w2) : RNm w s kd A n ca rt B k cb tm v i ds w2 :=
  ⟨below_then h.kept b, h.one.keep b, h.two.keep b, own_keep h.own b⟩
theorem RNm.size (h : RNm w s kd A n ca rt B k cb tm v i ds w1) : w.heap.size + 1 + 1 ≤ w1.heap.size := h.two.lt
theorem RNm.push (h : RNm w s kd A n ca rt B k cb tm v i ds w1) {v' : Value} {i' : Nat} {ds' : List D} (hg : w1.grownBy w2 v.ownBlock) (ho : w2.ownsRow (w.heap.size + 1 + 1) 50 3 v' i' (flatD ds')) : RNm w s kd A n ca rt B k cb tm v' i' ds' w2 :=
  have hb := grown_at h.own hg h.size
  ⟨h.kept.trans (hb.mono (by omega)), h.one.below hb (by omega), h.two.below hb (by omega), ho⟩
end

end
end Go.Proofs.YtdliookdmgilgaaGreatDoor
