/-
  The walk of NumOrders. No statement of the seat is proved here.
-/
import Derived.Test.YtgcacbkoilmofaaDoorNAwake
import Derived.Test.YtgcacbkoilmofaaDoorNRMath
namespace Go.Proofs.YtgcacbkoilmofaaDoor
open Go.RowKit

/-- Two pairs of numbers lie in blocks of their own. -/
structure TwoP (w : World) (x y u v : Int) (w' : World) : Prop where
  kept : Below w.heap.size w w'
  one : Box w' w.heap.size 38 [.int .i64 x, .int .i64 y]
  two : Box w' (w.heap.size + 1) 38 [.int .i64 u, .int .i64 v]
theorem TwoP.next {w w1 w2 : World} {x y u v : Int} (h : TwoP w x y u v w1) (hb : Below w1.heap.size w1 w2) : TwoP w x y u v w2 := ⟨below_then h.kept hb, h.one.keep hb, h.two.keep hb⟩
theorem TwoP.cells {w w1 : World} {x y u v : Int} (h : TwoP w x y u v w1) : w1.cell? ⟨w.heap.size, 0, none⟩ = some (.int .i64 x) ∧ w1.cell? ⟨w.heap.size, 1, none⟩ = some (.int .i64 y) ∧ w1.cell? ⟨w.heap.size + 1, 0, none⟩ = some (.int .i64 u) ∧ w1.cell? ⟨w.heap.size + 1, 1, none⟩ = some (.int .i64 v) :=
  ⟨h.one.cell 0, h.one.cell 1, h.two.cell 0, h.two.cell 1⟩

theorem textR_is {n : Int} (h : isRate n = true) : textR n = rateText n.toNat ∧ errR n = 0 := by
  unfold textR errR; rw [h]; exact ⟨rfl, rfl⟩
theorem textR_no {n : Int} (h : isRate n = false) : textR n = [] ∧ errR n = 10 := by
  unfold textR errR; rw [h]; exact ⟨rfl, rfl⟩
theorem errN_no {n : Int} (h : n < 0) : errN n = 10 := by unfold errN; rw [if_pos h]
theorem textN_is {n : Int} (h : ¬ n < 0) : textN n = Lib.decDigits n.toNat ∧ errN n = 0 := by
  unfold textN errN; rw [if_neg h, if_neg h]; exact ⟨rfl, rfl⟩

/-- Of two rates' texts: what is asked of them. -/
theorem rates_stand {x y : Int} {A B : ByteArray} (hx : isRate x = true) (hy : isRate y = true) (hA : Str A (rateText x.toNat)) (hB : Str B (rateText y.toNat)) :
    Op.bytesLess A.toList B.toList = decide (x < y) ∧ (A.toList == B.toList) = (x == y) := by
  obtain ⟨x1, x2⟩ := (isRate_iff x).1 hx
  obtain ⟨y1, y2⟩ := (isRate_iff y).1 hy
  rw [hA.toList, hB.toList, rate_less ⟨by omega, by omega⟩ ⟨by omega, by omega⟩, rate_same ⟨by omega, by omega⟩ ⟨by omega, by omega⟩]
  constructor
  · rw [decide_eq_decide]; omega
  · rw [Bool.eq_iff_iff, decide_eq_true_eq, beq_iff_eq]; omega
/-- Of two numbers' texts. -/
theorem numbers_stand {u v : Int} {C D : ByteArray} (hu : ¬ u < 0) (hv : ¬ v < 0) (hC : Str C (Lib.decDigits u.toNat)) (hD : Str D (Lib.decDigits v.toNat)) :
    (C.toList == D.toList) = (u == v) ∧ ((u < v ∧ (C.size : Int) < (D.size : Int)) ∨ (u < v ∧ ¬ (C.size : Int) < (D.size : Int) ∧ ((C.size : Int) == (D.size : Int)) = true ∧ Op.bytesLess C.toList D.toList = true) ∨ (¬ u < v ∧ ¬ (C.size : Int) < (D.size : Int) ∧ ((C.size : Int) == (D.size : Int)) = true ∧ Op.bytesLess C.toList D.toList = false) ∨ (¬ u < v ∧ ¬ (C.size : Int) < (D.size : Int) ∧ ((C.size : Int) == (D.size : Int)) = false)) := by
  rw [hC.toList, hD.toList, digits_same]
  refine ⟨by rw [Bool.eq_iff_iff, decide_eq_true_eq, beq_iff_eq]; omega, ?_⟩
  have h := digits_less u.toNat v.toNat
  rw [← hC.size, ← hD.size] at h
  by_cases h1 : C.size < D.size
  · rw [decide_eq_true h1, Bool.true_or] at h
    have := of_decide_eq_true h.symm
    exact .inl ⟨by omega, by omega⟩
  · rw [decide_eq_false h1, Bool.false_or] at h
    by_cases h2 : C.size = D.size
    · rw [decide_eq_true h2, Bool.true_and] at h
      have e2 : ((C.size : Int) == (D.size : Int)) = true := by simp; omega
      by_cases h3 : u < v
      · right; left; exact ⟨h3, by omega, e2, by rw [h, decide_eq_true_eq]; omega⟩
      · right; right; left; exact ⟨h3, by omega, e2, by rw [h, decide_eq_false_iff_not]; omega⟩
    · rw [decide_eq_false h2, Bool.false_and] at h
      have := of_decide_eq_false h.symm
      right; right; right; exact ⟨by omega, by omega, by simp; omega⟩

set_option maxRecDepth 100000 in
set_option maxHeartbeats 8000000 in
theorem norders_walk (x y u v : Int) (hu : -9223372036854775808 ≤ u ∧ u ≤ 9223372036854775807) (hv : -9223372036854775808 ≤ v ∧ v ≤ 9223372036854775807) (w : World) (ht : Tab w) :
    Calls Tryd.prog 7 #[.agg #[.int .i64 x, .int .i64 y], .agg #[.int .i64 u, .int .i64 v]] w fun e w' => e = .returned (.bool true) ∧ Below w.heap.size w w' := by
  have HT := Lib.hid ht
  clear ht
  have b1 := (Box.new w 38 [.int .i64 x, .int .i64 y]).alloc (.cells #[.int .i64 u, .int .i64 v] 38)
  have b2 := Box.new (w.alloc (.cells #[.int .i64 x, .int .i64 y] 38)) 38 [.int .i64 u, .int .i64 v]
  rw [size_alloc] at b2
  have hk2 := ((Below.refl w.heap.size w).alloc (Nat.le_refl _) (.cells #[.int .i64 x, .int .i64 y] 38)).alloc (by rw [size_alloc]; omega) (.cells #[.int .i64 u, .int .i64 v] 38)
  have HP := Lib.hid (show TwoP w x y u v ((w.alloc (.cells #[.int .i64 x, .int .i64 y] 38)).alloc (.cells #[.int .i64 u, .int .i64 v] 38)) from ⟨hk2, b1, b2⟩)
  clear b1 b2 hk2
  obtain ⟨A, eA, hA⟩ : ∃ A eA, (∀ W, Tab W → Calls Tryd.prog 13 #[.int .i64 x] W fun e w' => e = .returned (.tuple #[.string A, .int .i64 eA]) ∧ Below W.heap.size W w') ∧ ((isRate x = true ∧ eA = 0 ∧ Str A (rateText x.toNat)) ∨ eA = 10) := by
    cases h : isRate x with
    | true => exact ⟨_, 0, fun W hW => ratetext_says (textR_is h).1 (textR_is h).2 W hW, .inl ⟨rfl, rfl, Str.mk _⟩⟩
    | false => exact ⟨_, 10, fun W hW => ratetext_says (textR_no h).1 (textR_no h).2 W hW, .inr rfl⟩
  obtain ⟨B, eB, hB⟩ : ∃ A eA, (∀ W, Tab W → Calls Tryd.prog 13 #[.int .i64 y] W fun e w' => e = .returned (.tuple #[.string A, .int .i64 eA]) ∧ Below W.heap.size W w') ∧ ((isRate y = true ∧ eA = 0 ∧ Str A (rateText y.toNat)) ∨ eA = 10) := by
    cases h : isRate y with
    | true => exact ⟨_, 0, fun W hW => ratetext_says (textR_is h).1 (textR_is h).2 W hW, .inl ⟨rfl, rfl, Str.mk _⟩⟩
    | false => exact ⟨_, 10, fun W hW => ratetext_says (textR_no h).1 (textR_no h).2 W hW, .inr rfl⟩
  obtain ⟨C, eC, hC⟩ : ∃ A eA, (∀ W, Tab W → Calls Tryd.prog 12 #[.int .i64 u] W fun e w' => e = .returned (.tuple #[.string A, .int .i64 eA]) ∧ Below W.heap.size W w') ∧ ((¬ u < 0 ∧ eA = 0 ∧ Str A (Lib.decDigits u.toNat)) ∨ (u < 0 ∧ eA = 10)) := by
    by_cases h : u < 0
    · exact ⟨_, 10, fun W hW => ntext_says hu.2 rfl (errN_no h) W hW, .inr ⟨h, rfl⟩⟩
    · exact ⟨_, 0, fun W hW => ntext_says hu.2 (textN_is h).1 (textN_is h).2 W hW, .inl ⟨h, rfl, Str.mk _⟩⟩
  obtain ⟨D, eD, hD⟩ : ∃ A eA, (∀ W, Tab W → Calls Tryd.prog 12 #[.int .i64 v] W fun e w' => e = .returned (.tuple #[.string A, .int .i64 eA]) ∧ Below W.heap.size W w') ∧ ((¬ v < 0 ∧ eA = 0 ∧ Str A (Lib.decDigits v.toNat)) ∨ (v < 0 ∧ eA = 10)) := by
    by_cases h : v < 0
    · exact ⟨_, 10, fun W hW => ntext_says hv.2 rfl (errN_no h) W hW, .inr ⟨h, rfl⟩⟩
    · exact ⟨_, 0, fun W hW => ntext_says hv.2 (textN_is h).1 (textN_is h).2 W hW, .inl ⟨h, rfl, Str.mk _⟩⟩
  have HA := Lib.hid hA.1
  have HB := Lib.hid hB.1
  have HC := Lib.hid hC.1
  have HD := Lib.hid hD.1
  -- how the rates stand
  have hR : eA = 10 ∨ (eA = 0 ∧ eB = 10) ∨ (eA = 0 ∧ eB = 0 ∧ Op.bytesLess A.toList B.toList = decide (x < y) ∧ (A.toList == B.toList) = (x == y)) := by
    rcases hA.2 with ⟨a1, a2, a3⟩ | a1
    · rcases hB.2 with ⟨b1, b2, b3⟩ | b1
      · exact .inr (.inr ⟨a2, b2, rates_stand a1 b1 a3 b3⟩)
      · exact .inr (.inl ⟨a2, b1⟩)
    · exact .inl a1
  have hN : (eC = 10 ∧ u < 0) ∨ (eC = 0 ∧ eD = 10 ∧ ¬ u < 0 ∧ v < 0) ∨ (eC = 0 ∧ eD = 0 ∧ (C.toList == D.toList) = (u == v) ∧ ((u < v ∧ (C.size : Int) < (D.size : Int)) ∨ (u < v ∧ ¬ (C.size : Int) < (D.size : Int) ∧ ((C.size : Int) == (D.size : Int)) = true ∧ Op.bytesLess C.toList D.toList = true) ∨ (¬ u < v ∧ ¬ (C.size : Int) < (D.size : Int) ∧ ((C.size : Int) == (D.size : Int)) = true ∧ Op.bytesLess C.toList D.toList = false) ∨ (¬ u < v ∧ ¬ (C.size : Int) < (D.size : Int) ∧ ((C.size : Int) == (D.size : Int)) = false))) := by
    rcases hC.2 with ⟨a1, a2, a3⟩ | ⟨a1, a2⟩
    · rcases hD.2 with ⟨b1, b2, b3⟩ | ⟨b1, b2⟩
      · exact .inr (.inr ⟨a2, b2, numbers_stand a1 b1 a3 b3⟩)
      · exact .inr (.inl ⟨a2, b2, a1, b1⟩)
    · exact .inl ⟨a2, a1⟩
  clear hA hB hC hD hu hv
  go_enter Tryd.func7, Tryd.ntmps7
  go_wp2_with fail
  refine (HA.out _ (HT.out.keep HP.out.kept)).mono ?_
  rintro e w1 ⟨rfl, hb⟩
  have HP1 := Lib.hid (HP.out.next hb)
  clear hb HA HP
  obtain ⟨c1, c2, c3, c4⟩ := HP1.out.cells
  go_wp2_with fail
  refine (HB.out _ (HT.out.keep HP1.out.kept)).mono ?_
  rintro e w2 ⟨rfl, hb⟩
  have HP2 := Lib.hid (HP1.out.next hb)
  clear hb HB HP1 c1 c2 c3 c4
  obtain ⟨c1, c2, c3, c4⟩ := HP2.out.cells
  have HN := Lib.hid hN
  clear hN
  rcases hR with rfl | ⟨rfl, rfl⟩ | ⟨rfl, rfl, r3, r4⟩
  · go_wp2_with fail
    refine (HC.out _ (HT.out.keep HP2.out.kept)).mono ?_
    rintro e w3 ⟨rfl, hb⟩
    have HP3 := Lib.hid (HP2.out.next hb)
    clear hb HC HP2 c1 c2 c3 c4
    obtain ⟨c1, c2, c3, c4⟩ := HP3.out.cells
    go_wp2_with fail
    refine (HD.out _ (HT.out.keep HP3.out.kept)).mono ?_
    rintro e w4 ⟨rfl, hb⟩
    have HP4 := Lib.hid (HP3.out.next hb)
    clear hb HD HP3 c1 c2 c3 c4
    obtain ⟨c1, c2, c3, c4⟩ := HP4.out.cells
    rcases HN.out with ⟨rfl, n2⟩ | ⟨rfl, rfl, n3, n4⟩ | ⟨rfl, rfl, n3, n4⟩
    · clear HN
      go_wp2_with fail
      refine (awake5_calls _ (HT.out.keep HP4.out.kept)).mono ?_
      rintro e w5 ⟨rfl, hb⟩
      have HB5 := Lib.hid (below_then HP4.out.kept hb)
      clear hb
      go_wp2_with fail
      go_ret
      exact ⟨rfl, HB5.out⟩
    · clear HN
      go_wp2_with fail
      refine (awake5_calls _ (HT.out.keep HP4.out.kept)).mono ?_
      rintro e w5 ⟨rfl, hb⟩
      have HB5 := Lib.hid (below_then HP4.out.kept hb)
      clear hb
      go_wp2_with fail
      go_ret
      exact ⟨rfl, HB5.out⟩
    · clear HN
      rcases n4 with ⟨m1, m2⟩ | ⟨m1, m2, m3, m4⟩ | ⟨m1, m2, m3, m4⟩ | ⟨m1, m2, m3⟩
      all_goals
        go_wp2_with fail
        refine (awake5_calls _ (HT.out.keep HP4.out.kept)).mono ?_
        rintro e w5 ⟨rfl, hb⟩
        have HB5 := Lib.hid (below_then HP4.out.kept hb)
        clear hb
        go_wp2_with fail
        go_ret
        exact ⟨rfl, HB5.out⟩
  · go_wp2_with fail
    refine (HC.out _ (HT.out.keep HP2.out.kept)).mono ?_
    rintro e w3 ⟨rfl, hb⟩
    have HP3 := Lib.hid (HP2.out.next hb)
    clear hb HC HP2 c1 c2 c3 c4
    obtain ⟨c1, c2, c3, c4⟩ := HP3.out.cells
    go_wp2_with fail
    refine (HD.out _ (HT.out.keep HP3.out.kept)).mono ?_
    rintro e w4 ⟨rfl, hb⟩
    have HP4 := Lib.hid (HP3.out.next hb)
    clear hb HD HP3 c1 c2 c3 c4
    obtain ⟨c1, c2, c3, c4⟩ := HP4.out.cells
    rcases HN.out with ⟨rfl, n2⟩ | ⟨rfl, rfl, n3, n4⟩ | ⟨rfl, rfl, n3, n4⟩
    · clear HN
      go_wp2_with fail
      refine (awake5_calls _ (HT.out.keep HP4.out.kept)).mono ?_
      rintro e w5 ⟨rfl, hb⟩
      have HB5 := Lib.hid (below_then HP4.out.kept hb)
      clear hb
      go_wp2_with fail
      go_ret
      exact ⟨rfl, HB5.out⟩
    · clear HN
      go_wp2_with fail
      refine (awake5_calls _ (HT.out.keep HP4.out.kept)).mono ?_
      rintro e w5 ⟨rfl, hb⟩
      have HB5 := Lib.hid (below_then HP4.out.kept hb)
      clear hb
      go_wp2_with fail
      go_ret
      exact ⟨rfl, HB5.out⟩
    · clear HN
      rcases n4 with ⟨m1, m2⟩ | ⟨m1, m2, m3, m4⟩ | ⟨m1, m2, m3, m4⟩ | ⟨m1, m2, m3⟩
      all_goals
        go_wp2_with fail
        refine (awake5_calls _ (HT.out.keep HP4.out.kept)).mono ?_
        rintro e w5 ⟨rfl, hb⟩
        have HB5 := Lib.hid (below_then HP4.out.kept hb)
        clear hb
        go_wp2_with fail
        go_ret
        exact ⟨rfl, HB5.out⟩
  · rcases (by omega : (x < y ∧ ¬ x = y) ∨ (¬ x < y ∧ x = y) ∨ (¬ x < y ∧ ¬ x = y)) with ⟨s1, s2⟩ | ⟨s1, s2⟩ | ⟨s1, s2⟩
    · rw [decide_eq_true s1] at r3
      have s2' : (x == y) = false := by simpa using s2
      rw [s2'] at r4
      clear s2
      go_wp2_with fail
      refine (HC.out _ (HT.out.keep HP2.out.kept)).mono ?_
      rintro e w3 ⟨rfl, hb⟩
      have HP3 := Lib.hid (HP2.out.next hb)
      clear hb HC HP2 c1 c2 c3 c4
      obtain ⟨c1, c2, c3, c4⟩ := HP3.out.cells
      go_wp2_with fail
      refine (HD.out _ (HT.out.keep HP3.out.kept)).mono ?_
      rintro e w4 ⟨rfl, hb⟩
      have HP4 := Lib.hid (HP3.out.next hb)
      clear hb HD HP3 c1 c2 c3 c4
      obtain ⟨c1, c2, c3, c4⟩ := HP4.out.cells
      rcases HN.out with ⟨rfl, n2⟩ | ⟨rfl, rfl, n3, n4⟩ | ⟨rfl, rfl, n3, n4⟩
      · clear HN
        go_wp2_with fail
        refine (awake5_calls _ (HT.out.keep HP4.out.kept)).mono ?_
        rintro e w5 ⟨rfl, hb⟩
        have HB5 := Lib.hid (below_then HP4.out.kept hb)
        clear hb
        go_wp2_with fail
        go_ret
        exact ⟨rfl, HB5.out⟩
      · clear HN
        go_wp2_with fail
        refine (awake5_calls _ (HT.out.keep HP4.out.kept)).mono ?_
        rintro e w5 ⟨rfl, hb⟩
        have HB5 := Lib.hid (below_then HP4.out.kept hb)
        clear hb
        go_wp2_with fail
        go_ret
        exact ⟨rfl, HB5.out⟩
      · clear HN
        rcases n4 with ⟨m1, m2⟩ | ⟨m1, m2, m3, m4⟩ | ⟨m1, m2, m3, m4⟩ | ⟨m1, m2, m3⟩
        all_goals
          go_wp2_with fail
          refine (awake5_calls _ (HT.out.keep HP4.out.kept)).mono ?_
          rintro e w5 ⟨rfl, hb⟩
          have HB5 := Lib.hid (below_then HP4.out.kept hb)
          clear hb
          go_wp2_with fail
          go_ret
          exact ⟨rfl, HB5.out⟩
    · rw [decide_eq_false s1] at r3
      have s2' : (x == y) = true := by simpa using s2
      rw [s2'] at r4
      clear s2
      go_wp2_with fail
      refine (HC.out _ (HT.out.keep HP2.out.kept)).mono ?_
      rintro e w3 ⟨rfl, hb⟩
      have HP3 := Lib.hid (HP2.out.next hb)
      clear hb HC HP2 c1 c2 c3 c4
      obtain ⟨c1, c2, c3, c4⟩ := HP3.out.cells
      go_wp2_with fail
      refine (HD.out _ (HT.out.keep HP3.out.kept)).mono ?_
      rintro e w4 ⟨rfl, hb⟩
      have HP4 := Lib.hid (HP3.out.next hb)
      clear hb HD HP3 c1 c2 c3 c4
      obtain ⟨c1, c2, c3, c4⟩ := HP4.out.cells
      rcases HN.out with ⟨rfl, n2⟩ | ⟨rfl, rfl, n3, n4⟩ | ⟨rfl, rfl, n3, n4⟩
      · clear HN
        go_wp2_with fail
        refine (awake5_calls _ (HT.out.keep HP4.out.kept)).mono ?_
        rintro e w5 ⟨rfl, hb⟩
        have HB5 := Lib.hid (below_then HP4.out.kept hb)
        clear hb
        go_wp2_with fail
        go_ret
        exact ⟨rfl, HB5.out⟩
      · clear HN
        go_wp2_with fail
        refine (awake5_calls _ (HT.out.keep HP4.out.kept)).mono ?_
        rintro e w5 ⟨rfl, hb⟩
        have HB5 := Lib.hid (below_then HP4.out.kept hb)
        clear hb
        go_wp2_with fail
        go_ret
        exact ⟨rfl, HB5.out⟩
      · clear HN
        rcases n4 with ⟨m1, m2⟩ | ⟨m1, m2, m3, m4⟩ | ⟨m1, m2, m3, m4⟩ | ⟨m1, m2, m3⟩
        all_goals
          go_wp2_with fail
          refine (awake5_calls _ (HT.out.keep HP4.out.kept)).mono ?_
          rintro e w5 ⟨rfl, hb⟩
          have HB5 := Lib.hid (below_then HP4.out.kept hb)
          clear hb
          go_wp2_with fail
          go_ret
          exact ⟨rfl, HB5.out⟩
    · rw [decide_eq_false s1] at r3
      have s2' : (x == y) = false := by simpa using s2
      rw [s2'] at r4
      clear s2
      go_wp2_with fail
      refine (HC.out _ (HT.out.keep HP2.out.kept)).mono ?_
      rintro e w3 ⟨rfl, hb⟩
      have HP3 := Lib.hid (HP2.out.next hb)
      clear hb HC HP2 c1 c2 c3 c4
      obtain ⟨c1, c2, c3, c4⟩ := HP3.out.cells
      go_wp2_with fail
      refine (HD.out _ (HT.out.keep HP3.out.kept)).mono ?_
      rintro e w4 ⟨rfl, hb⟩
      have HP4 := Lib.hid (HP3.out.next hb)
      clear hb HD HP3 c1 c2 c3 c4
      obtain ⟨c1, c2, c3, c4⟩ := HP4.out.cells
      rcases HN.out with ⟨rfl, n2⟩ | ⟨rfl, rfl, n3, n4⟩ | ⟨rfl, rfl, n3, n4⟩
      · clear HN
        go_wp2_with fail
        refine (awake5_calls _ (HT.out.keep HP4.out.kept)).mono ?_
        rintro e w5 ⟨rfl, hb⟩
        have HB5 := Lib.hid (below_then HP4.out.kept hb)
        clear hb
        go_wp2_with fail
        go_ret
        exact ⟨rfl, HB5.out⟩
      · clear HN
        go_wp2_with fail
        refine (awake5_calls _ (HT.out.keep HP4.out.kept)).mono ?_
        rintro e w5 ⟨rfl, hb⟩
        have HB5 := Lib.hid (below_then HP4.out.kept hb)
        clear hb
        go_wp2_with fail
        go_ret
        exact ⟨rfl, HB5.out⟩
      · clear HN
        rcases n4 with ⟨m1, m2⟩ | ⟨m1, m2, m3, m4⟩ | ⟨m1, m2, m3, m4⟩ | ⟨m1, m2, m3⟩
        all_goals
          go_wp2_with fail
          refine (awake5_calls _ (HT.out.keep HP4.out.kept)).mono ?_
          rintro e w5 ⟨rfl, hb⟩
          have HB5 := Lib.hid (below_then HP4.out.kept hb)
          clear hb
          go_wp2_with fail
          go_ret
          exact ⟨rfl, HB5.out⟩
end Go.Proofs.YtgcacbkoilmofaaDoor
