/-
  The chapter's examples come out as it says. No statement of the seat is proved here.
-/
import Derived.Test.YtmlandoecgldaaaDoorDParse
import Derived.Test.YtmlandoecgldaaaDoorDPointed
namespace Go.Proofs.YtmlandoecgldaaaDoor
open Go.RowKit

/-- Two variables, one behind the other: a Dec and a Fault. -/
theorem two_boxes (w : World) (x y z a b : Value) :
    Box ((w.alloc (.cells #[x, y, z] 24)).alloc (.cells #[a, b] 32)) w.heap.size 24 [x, y, z] ∧ Box ((w.alloc (.cells #[x, y, z] 24)).alloc (.cells #[a, b] 32)) (w.heap.size + 1) 32 [a, b] ∧ Below w.heap.size w ((w.alloc (.cells #[x, y, z] 24)).alloc (.cells #[a, b] 32)) := by
  refine ⟨(Box.new w 24 [x, y, z]).alloc _, ?_, ((Below.refl _ _).alloc (Nat.le_refl _) _).alloc (by simp) _⟩
  have := Box.new (w.alloc (.cells #[x, y, z] 24)) 32 [a, b]
  rw [size_alloc] at this
  exact this

theorem one15 : One 15 (-1) := Or.inr ⟨by omega, by omega, by omega, by omega, by decide⟩
theorem ex1 : parse [45, 48, 49, 46, 53, 48] = (⟨true, 15, -1⟩, 0, 0) := by
  have h : scan 0 false false true 0 0 [45, 48, 49, 46, 53, 48] = .ok true 150 2 := by simp [scan]
  have hn : norm 150 (-((2 : Nat) : Int)) = some (15, -1) := by
    rw [show (150 : Nat) = 15 * 10 from rfl, norm_ten]
    exact norm_fix one15
  unfold parse
  rw [h, told_ok, hn]
  rfl
theorem ex2 : parse [49, 46] = (D0, 11, 2) := by
  have h : scan 0 false false true 0 0 [49, 46] = .bad 11 2 := by simp [scan]
  unfold parse; rw [h]; rfl
theorem ex3 : parse [43, 49] = (D0, 14, 0) := by
  have h : scan 0 false false true 0 0 [43, 49] = .bad 14 0 := by simp [scan]
  unfold parse; rw [h]; rfl
theorem ex4 : parse [49, 48, 48, 48] = (⟨false, 1, 3⟩, 0, 0) := by
  have h : scan 0 false false true 0 0 [49, 48, 48, 48] = .ok false 1000 0 := by simp [scan]
  have hn : norm 1000 (-((0 : Nat) : Int)) = some (1, 3) := by
    rw [show (1000 : Nat) = 1 * 10 ^ 3 from rfl, norm_pow]
    exact norm_fix (show One 1 3 from Or.inr ⟨by omega, by omega, by omega, by omega, by decide⟩)
  unfold parse
  rw [h, told_ok, hn]
  rfl
theorem ex5 : parse [57, 57, 57, 57, 57, 57, 57, 57, 57, 57, 57, 57, 57, 57, 57, 57, 57, 57, 57, 57] = (D0, 10, 0) := by
  have h : scan 0 false false true 0 0 [57, 57, 57, 57, 57, 57, 57, 57, 57, 57, 57, 57, 57, 57, 57, 57, 57, 57, 57, 57] = .ok false 99999999999999999999 0 := by simp [scan]
  unfold parse
  rw [h, told_ok, norm_big (by omega) (by unfold Two64; omega)]
theorem ex6 : check ⟨true, 15, -1⟩ = 0 ∧ text ⟨true, 15, -1⟩ = [45, 49, 46, 53] := by
  refine ⟨check_ok.2 ⟨one15, fun h => absurd (show (15 : Nat) = 0 from h) (by omega)⟩, ?_⟩
  unfold text sized
  simp only [ite_true]
  rw [if_pos (by omega), Lib.decDigits_two (by omega) (by omega)]
  rfl

set_option maxRecDepth 100000 in
set_option maxHeartbeats 8000000 in
theorem awake_calls (w : World) (ht : Tab w) : Calls Tryd.prog 14 #[] w fun e w' => e = .returned (.bool true) ∧ Below w.heap.size w w' := by
  have HT := Lib.hid ht
  clear ht
  go_enter Tryd.func14, Tryd.ntmps14
  go_wp2_with fail
  refine (parse_calls _ [45, 48, 49, 46, 53, 48] (Str.mk _) (by simp) w).mono ?_
  rintro e w1 ⟨rfl, hb⟩
  rw [ex1]
  have B1 := two_boxes w1 (.bool true) (.int .u64 15) (.int .i64 (-1)) (.int .i64 0) (.int .i64 0)
  have HB := Lib.hid (And.intro (below_then hb B1.2.2) (And.intro B1.1 B1.2.1))
  clear hb B1
  simp only [dV, fV]
  go_wp2_with fail
  have hc := text_calls ⟨true, 15, -1⟩ ⟨by decide, by decide, by decide⟩ _ (HT.out.keep HB.out.1)
  rw [ex6.1, ex6.2] at hc
  refine hc.mono ?_
  rintro e w2 ⟨s, rfl, hs, hb⟩
  rw [if_pos rfl] at hs
  have HS := Lib.hid hs.toList
  have HB2 := Lib.hid (And.intro (below_then HB.out.1 hb) (And.intro (HB.out.2.1.keep hb) (HB.out.2.2.keep hb)))
  clear hb HB hc hs
  go_wp2_with fail
  refine (parse_calls _ [49, 46] (Str.mk _) (by simp) w2).mono ?_
  rintro e w3 ⟨rfl, hb⟩
  rw [ex2]
  have B3 := two_boxes w3 (.bool false) (.int .u64 0) (.int .i64 0) (.int .i64 11) (.int .i64 2)
  have hb3 := below_then hb B3.2.2
  have HB3 := Lib.hid (And.intro (below_then HB2.out.1 hb3) (And.intro (HB2.out.2.1.keep hb3) (And.intro (HB2.out.2.2.keep hb3) B3.2.1)))
  clear hb hb3 B3 HB2
  simp only [dV, fV, D0]
  go_wp2_with fail
  refine (parse_calls _ [43, 49] (Str.mk _) (by simp) _).mono ?_
  rintro e w4 ⟨rfl, hb⟩
  rw [ex3]
  have B4 := two_boxes w4 (.bool false) (.int .u64 0) (.int .i64 0) (.int .i64 14) (.int .i64 0)
  have hb4 := below_then hb B4.2.2
  have HB4 := Lib.hid (And.intro (below_then HB3.out.1 hb4) (And.intro (HB3.out.2.1.keep hb4) (And.intro (HB3.out.2.2.1.keep hb4) (And.intro (HB3.out.2.2.2.keep hb4) B4.2.1))))
  clear hb hb4 B4 HB3
  simp only [dV, fV, D0]
  go_wp2_with fail
  refine (parse_calls _ [49, 48, 48, 48] (Str.mk _) (by simp) _).mono ?_
  rintro e w5 ⟨rfl, hb⟩
  rw [ex4]
  have B5 := two_boxes w5 (.bool false) (.int .u64 1) (.int .i64 3) (.int .i64 0) (.int .i64 0)
  have hb5 := below_then hb B5.2.2
  have HB5 := Lib.hid (And.intro (below_then HB4.out.1 hb5) (And.intro (HB4.out.2.1.keep hb5) (And.intro (HB4.out.2.2.1.keep hb5) (And.intro (HB4.out.2.2.2.1.keep hb5) (And.intro (HB4.out.2.2.2.2.keep hb5) (And.intro B5.1 B5.2.1))))))
  clear hb hb5 B5 HB4
  simp only [dV, fV]
  go_wp2_with fail
  refine (parse_calls _ [57, 57, 57, 57, 57, 57, 57, 57, 57, 57, 57, 57, 57, 57, 57, 57, 57, 57, 57, 57] (Str.mk _) (by simp) _).mono ?_
  rintro e w6 ⟨rfl, hb⟩
  rw [ex5]
  have B6 := two_boxes w6 (.bool false) (.int .u64 0) (.int .i64 0) (.int .i64 10) (.int .i64 0)
  have hb6 := below_then hb B6.2.2
  obtain ⟨k0, k1, k2, k3, k4, k5, k6⟩ := HB5.out
  have HB6 := Lib.hid (below_then k0 hb6)
  have b1 := k1.keep hb6
  have b2 := k2.keep hb6
  have b3 := k3.keep hb6
  have b4 := k4.keep hb6
  have b5 := k5.keep hb6
  have b6 := k6.keep hb6
  have b7 := B6.2.1
  clear k0 k1 k2 k3 k4 k5 k6 hb hb6 B6 HB5
  simp only [dV, fV, D0]
  have x10 := b1.cell 0
  have x11 := b1.cell 1
  have x12 := b1.cell 2
  have x20 := b2.cell 0
  have x21 := b2.cell 1
  have x30 := b3.cell 0
  have x31 := b3.cell 1
  have x40 := b4.cell 0
  have x41 := b4.cell 1
  have x50 := b5.cell 0
  have x51 := b5.cell 1
  have x52 := b5.cell 2
  have x60 := b6.cell 0
  have x61 := b6.cell 1
  have x70 := b7.cell 0
  have x71 := b7.cell 1
  simp only [List.getElem?_cons_zero, List.getElem?_cons_succ] at x10 x11 x12 x20 x21 x30 x31 x40 x41 x50 x51 x52 x60 x61 x70 x71
  clear b1 b2 b3 b4 b5 b6 b7 HT
  have hs := HS.out
  go_wp2_with fail
  go_ret
  exact ⟨by first | rfl | simp_all, HB6.out⟩
end Go.Proofs.YtmlandoecgldaaaDoor
