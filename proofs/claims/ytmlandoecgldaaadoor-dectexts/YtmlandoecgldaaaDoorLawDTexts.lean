/-
  The walk of DecTexts. No statement of the seat is proved here.
-/
import Derived.Test.YtmlandoecgldaaaDoorDAwake
import Derived.Test.YtmlandoecgldaaaDoorDOf
import Derived.Test.YtmlandoecgldaaaDoorDRefNorm
import Derived.Test.YtmlandoecgldaaaDoorDRefCompare2
namespace Go.Proofs.YtmlandoecgldaaaDoor
open Go.RowKit

/-- Where the statement stands: both numbers lie. -/
structure XAt (w : World) (n : Bool) (x y : Int) (n' : Bool) (x' y' : Int) (w' : World) : Prop where
  kept : Below w.heap.size w w'
  one : Box w' w.heap.size 24 [.bool n, .int .u64 x, .int .i64 y]
  two : Box w' (w.heap.size + 1) 24 [.bool n', .int .u64 x', .int .i64 y']
  tab : Tab w'
section
variable {w w1 w2 : World} {n n' : Bool} {x y x' y' : Int}
theorem XAt.next (h : XAt w n x y n' x' y' w1) (k : Below w1.heap.size w1 w2) : XAt w n x y n' x' y' w2 :=
  ⟨below_then h.kept k, h.one.keep k, h.two.keep k, h.tab.keep k⟩
theorem XAt.cells (h : XAt w n x y n' x' y' w1) : w1.cell? ⟨w.heap.size, 0, none⟩ = some (.bool n) ∧ w1.cell? ⟨w.heap.size, 1, none⟩ = some (.int .u64 x) ∧ w1.cell? ⟨w.heap.size, 2, none⟩ = some (.int .i64 y)
    ∧ w1.cell? ⟨w.heap.size + 1, 0, none⟩ = some (.bool n') ∧ w1.cell? ⟨w.heap.size + 1, 1, none⟩ = some (.int .u64 x') ∧ w1.cell? ⟨w.heap.size + 1, 2, none⟩ = some (.int .i64 y') :=
  ⟨h.one.cell 0, h.one.cell 1, h.one.cell 2, h.two.cell 0, h.two.cell 1, h.two.cell 2⟩
end
theorem Str.same {s t : ByteArray} {l : List UInt8} (h : Str s l) (k : Str t l) : s = t := by rw [h.eq, k.eq]

set_option maxRecDepth 100000 in
set_option maxHeartbeats 8000000 in
theorem texts_walk (a b : D) (ha : a.Fits) (hb : b.Fits) (w : World) (ht : Tab w) : Calls Tryd.prog 5 #[dV a, dV b] w fun e w' => e = .returned (.bool true) ∧ Below w.heap.size w w' := by
  have hT := fun W (h : Tab W) => text_calls a ha W h
  have hC := fun W => compare_calls a b ha hb W
  have hKA := fun W => rcheck_calls a ha W
  have hKB := fun W => rcheck_calls b hb W
  have hRT : check a = 0 → ∀ W, Calls Tryd.prog 19 #[dV a] W (Says W (text a)) := fun h W => rtext_calls a (check_ok.1 h) W
  have hRC : check a = 0 → check b = 0 → ∀ W, Calls Tryd.prog 20 #[dV a, dV b] W fun e w' => e = .returned (.int .i64 (cmpI (wholeOf a) (wholeOf b))) ∧ Below W.heap.size W w' := fun h h' W => rcompare_calls a b (check_ok.1 h) (check_ok.1 h') W
  obtain ⟨q, hq⟩ : ∃ q : Int, q = check a := ⟨_, rfl⟩
  obtain ⟨q', hq'⟩ : ∃ q : Int, q = check b := ⟨_, rfl⟩
  obtain ⟨c, hc⟩ : ∃ c : Int, c = cmpI (wholeOf a) (wholeOf b) := ⟨_, rfl⟩
  have hcm : cmpd a b = if q ≠ 0 then (0, q) else if q' ≠ 0 then (0, q') else (c, 0) := by unfold cmpd; rw [hq, hq', hc]
  obtain ⟨L, hL⟩ : ∃ L, L = text a := ⟨_, rfl⟩
  obtain ⟨x, hx⟩ : ∃ x : Int, x = (a.c : Int) := ⟨_, rfl⟩
  obtain ⟨y, hy⟩ : ∃ y : Int, y = a.e := ⟨_, rfl⟩
  obtain ⟨n, hn⟩ : ∃ n : Bool, n = a.neg := ⟨_, rfl⟩
  obtain ⟨x', hx'⟩ : ∃ x : Int, x = (b.c : Int) := ⟨_, rfl⟩
  obtain ⟨y', hy'⟩ : ∃ y : Int, y = b.e := ⟨_, rfl⟩
  obtain ⟨n', hn'⟩ : ∃ n : Bool, n = b.neg := ⟨_, rfl⟩
  unfold dV at hT hC hKA hKB hRT hRC ⊢
  rw [← hx, ← hy, ← hn, ← hx', ← hy', ← hn']
  simp only [← hx, ← hy, ← hn, ← hx', ← hy', ← hn', ← hq, ← hq', ← hc, ← hL] at hT hC hKA hKB hRT hRC
  rw [hcm] at hC
  have HT := Lib.hid hT
  have HC := Lib.hid hC
  have HKA := Lib.hid hKA
  have HKB := Lib.hid hKB
  have HRT := Lib.hid hRT
  have HRC := Lib.hid hRC
  have k0 := (Box.new w 24 [.bool n, .int .u64 x, .int .i64 y]).alloc (.cells #[.bool n', .int .u64 x', .int .i64 y'] 24)
  have k1 := Box.new (w.alloc (.cells #[.bool n, .int .u64 x, .int .i64 y] 24)) 24 [.bool n', .int .u64 x', .int .i64 y']
  rw [size_alloc] at k1
  have kb : Below w.heap.size w ((w.alloc (.cells #[.bool n, .int .u64 x, .int .i64 y] 24)).alloc (.cells #[.bool n', .int .u64 x', .int .i64 y'] 24)) := ((Below.refl _ _).alloc (Nat.le_refl _) _).alloc (by simp) _
  have H0 := Lib.hid (show XAt w n x y n' x' y' _ from ⟨kb, k0, k1, ht.keep kb⟩)
  clear hT hC hKA hKB hRT hRC hq hq' hc hcm hL hx hy hn hx' hy' hn' ha hb k0 k1 kb ht
  go_enter Tryd.func5, Tryd.ntmps5
  go_wp2_with fail
  refine (HT.out _ H0.out.tab).mono ?_
  rintro e w1 ⟨s, rfl, hs, hb⟩
  have H1 := Lib.hid (H0.out.next hb)
  have HS := Lib.hid hs
  clear hb hs H0 HT
  obtain ⟨a0, a1, a2, b0, b1, b2⟩ := H1.out.cells
  go_wp2_with fail
  refine (HC.out _).mono ?_
  rintro e w2 ⟨rfl, hb⟩
  have H2 := Lib.hid (H1.out.next hb)
  clear hb H1 HC a0 a1 a2 b0 b1 b2
  obtain ⟨a0, a1, a2, b0, b1, b2⟩ := H2.out.cells
  by_cases h0 : q = 0
  · subst h0
    have hs := HS.out
    rw [if_pos rfl] at hs
    have HSS := Lib.hid hs
    clear hs HS
    by_cases h1 : q' = 0
    · subst h1
      simp only [ne_eq, not_true_eq_false, if_false]
      go_wp2_with fail
      refine (HKA.out _).mono ?_
      rintro e w3 ⟨rfl, hb⟩
      have H3 := Lib.hid (H2.out.next hb)
      clear hb H2 HKA a0 a1 a2 b0 b1 b2
      obtain ⟨a0, a1, a2, b0, b1, b2⟩ := H3.out.cells
      go_wp2_with fail
      refine (HRT.out (by trivial) _).mono ?_
      rintro e w4 ⟨t, rfl, ht, hb⟩
      obtain rfl : s = t := HSS.out.same ht
      have H4 := Lib.hid (H3.out.next hb)
      clear hb ht H3 HRT HSS a0 a1 a2 b0 b1 b2
      obtain ⟨a0, a1, a2, b0, b1, b2⟩ := H4.out.cells
      go_wp2_with fail
      refine (HKB.out _).mono ?_
      rintro e w5 ⟨rfl, hb⟩
      have H5 := Lib.hid (H4.out.next hb)
      clear hb H4 HKB a0 a1 a2 b0 b1 b2
      obtain ⟨a0, a1, a2, b0, b1, b2⟩ := H5.out.cells
      go_wp2_with fail
      refine (HRC.out (by trivial) (by trivial) _).mono ?_
      rintro e w6 ⟨rfl, hb⟩
      have H6 := Lib.hid (H5.out.next hb)
      clear hb H5 HRC a0 a1 a2 b0 b1 b2
      go_wp2_with fail
      refine (awake_calls _ H6.out.tab).mono ?_
      rintro e w7 ⟨rfl, hb⟩
      have H7 := Lib.hid (H6.out.next hb).kept
      clear hb H6
      go_wp2_with fail
      go_ret
      exact ⟨rfl, H7.out⟩
    · simp only [ne_eq, not_true_eq_false, if_false, h1, not_false_eq_true, if_true]
      have hne : (q' == 0) = false := by rw [beq_eq_false_iff_ne]; exact h1
      clear h1
      go_wp2_with fail
      refine (HKA.out _).mono ?_
      rintro e w3 ⟨rfl, hb⟩
      have H3 := Lib.hid (H2.out.next hb)
      clear hb H2 HKA a0 a1 a2 b0 b1 b2
      obtain ⟨a0, a1, a2, b0, b1, b2⟩ := H3.out.cells
      go_wp2_with fail
      refine (HRT.out (by trivial) _).mono ?_
      rintro e w4 ⟨t, rfl, ht, hb⟩
      obtain rfl : s = t := HSS.out.same ht
      have H4 := Lib.hid (H3.out.next hb)
      clear hb ht H3 HRT HSS a0 a1 a2 b0 b1 b2
      obtain ⟨a0, a1, a2, b0, b1, b2⟩ := H4.out.cells
      go_wp2_with fail
      refine (HKB.out _).mono ?_
      rintro e w5 ⟨rfl, hb⟩
      have H5 := Lib.hid (H4.out.next hb)
      clear hb H4 a0 a1 a2 b0 b1 b2
      obtain ⟨a0, a1, a2, b0, b1, b2⟩ := H5.out.cells
      go_wp2_with fail
      refine (HKB.out _).mono ?_
      rintro e w6 ⟨rfl, hb⟩
      have H6 := Lib.hid (H5.out.next hb)
      clear hb H5 HKB a0 a1 a2 b0 b1 b2
      go_wp2_with fail
      refine (awake_calls _ H6.out.tab).mono ?_
      rintro e w7 ⟨rfl, hb⟩
      have H7 := Lib.hid (H6.out.next hb).kept
      clear hb H6
      go_wp2_with fail
      go_ret
      exact ⟨rfl, H7.out⟩
  · have hs := HS.out
    rw [if_neg h0] at hs
    have e := hs.eq
    subst e
    simp only [ne_eq, h0, not_false_eq_true, if_true]
    have hne : (q == 0) = false := by rw [beq_eq_false_iff_ne]; exact h0
    clear hs HS h0
    go_wp2_with fail
    refine (HKA.out _).mono ?_
    rintro e w3 ⟨rfl, hb⟩
    have H3 := Lib.hid (H2.out.next hb)
    clear hb H2 HKA a0 a1 a2 b0 b1 b2
    go_wp2_with fail
    refine (awake_calls _ H3.out.tab).mono ?_
    rintro e w7 ⟨rfl, hb⟩
    have H7 := Lib.hid (H3.out.next hb).kept
    clear hb H3
    go_wp2_with fail
    go_ret
    exact ⟨rfl, H7.out⟩
end Go.Proofs.YtmlandoecgldaaaDoor
