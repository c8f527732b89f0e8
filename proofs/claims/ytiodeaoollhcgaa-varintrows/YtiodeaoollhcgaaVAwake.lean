/-
  The laws' own look at the chapter's examples is true. No statement of the seat is proved here.
-/
import Derived.Test.YtiodeaoollhcgaaVGet
import Derived.Test.YtiodeaoollhcgaaVZig
import Derived.Test.YtiodeaoollhcgaaSame1
import Derived.Test.YtiodeaoollhcgaaCurNew
namespace Go.Proofs.Ytiodeaoollhcgaa
open Go.RowKit

theorem got_canon : got [128, 0] = (0, 0, 21) := rfl
theorem got_short : got [128] = (0, 0, 13) := rfl
theorem got_range : got [255, 255, 255, 255, 255, 255, 255, 255, 255, 2] = (0, 0, 10) := rfl
theorem digs_300 : digs 300 = [172, 2] := by rw [digs_ge (by omega), digs_lt (by omega)]; rfl

set_option maxRecDepth 100000 in
theorem awake_calls (w : World) : Calls Try.prog 14 #[] w fun e w' => e = .returned (.bool true) ∧ Below w.heap.size w w' := by
  go_enter Try.func14, Try.ntmps14
  go_wp2_with fail
  have hk1 : Below w.heap.size w (w.alloc (.cells #[.int .u8 128, .int .u8 0] 5)) := (Below.refl _ _).alloc (Nat.le_refl _) _
  refine (get_calls _ _ 2 2 [128, 0] rfl (Lies.new w 5 [.int .u8 128, .int .u8 0]) (by simp) (by unfold maxLen; omega)).mono ?_
  rintro e w1 ⟨rfl, hb1⟩
  rw [got_canon]
  have HW1 := Lib.hid (hk1.trans (hb1.mono (by rw [size_alloc]; omega)))
  clear hk1 hb1
  go_wp2_with fail
  have hk2 := HW1.out.alloc HW1.out.size (.cells #[.int .u8 128] 5)
  refine (get_calls _ _ 1 1 [128] rfl (Lies.new w1 5 [.int .u8 128]) (by simp) (by unfold maxLen; omega)).mono ?_
  rintro e w2 ⟨rfl, hb2⟩
  rw [got_short]
  have HW2 := Lib.hid (hk2.trans (hb2.mono hk2.size))
  clear hk2 hb2 HW1
  go_wp2_with fail
  have hk3 := HW2.out.alloc HW2.out.size (.cells #[.int .u8 255, .int .u8 255, .int .u8 255, .int .u8 255, .int .u8 255, .int .u8 255, .int .u8 255, .int .u8 255, .int .u8 255, .int .u8 2] 5)
  refine (get_calls _ _ 10 10 [255, 255, 255, 255, 255, 255, 255, 255, 255, 2] rfl (Lies.new w2 5 [.int .u8 255, .int .u8 255, .int .u8 255, .int .u8 255, .int .u8 255, .int .u8 255, .int .u8 255, .int .u8 255, .int .u8 255, .int .u8 2]) (by simp) (by unfold maxLen; omega)).mono ?_
  rintro e w3 ⟨rfl, hb3⟩
  rw [got_range]
  have HW3 := Lib.hid (hk3.trans (hb3.mono hk3.size))
  clear hk3 hb3 HW2
  go_wp2_with fail
  refine (put_calls 300 w3 (by unfold U64; omega)).mono ?_
  rintro e w4 ⟨A, cap, rfl, hown, hb4⟩
  rw [digs_300] at hown ⊢
  have hl4 := Lies.of_own hown
  have HW4 := Lib.hid (HW3.out.trans (hb4.mono HW3.out.size))
  clear hb4 HW3 hown
  go_wp2_with fail
  have hk5 : Below w4.heap.size w4 (w4.alloc (.cells #[.int .u8 172, .int .u8 2] 5)) := (Below.refl _ _).alloc (Nat.le_refl _) _
  have hl5 := hl4.keep hk5
  have hl6 := Lies.new w4 5 [.int .u8 172, .int .u8 2]
  have HW5 := Lib.hid (HW4.out.trans (hk5.mono HW4.out.size))
  clear hk5 HW4 hl4
  refine (same_calls _ _ _ 2 2 _ _ [172, 2] [172, 2] rfl rfl hl5 hl6 (by unfold maxLen; omega) (by unfold maxLen; omega)).mono ?_
  rintro e w6 ⟨rfl, hs6⟩
  have HW6 := Lib.hid (HW5.out.trans hs6.below)
  clear hs6 HW5 hl5 hl6
  go_wp2_with fail
  refine (zig_calls (-3) w6 (by omega) (by omega)).mono ?_
  rintro e w7 ⟨rfl, hb7⟩
  have e7 : zig (-3) = 5 := rfl
  rw [e7]
  have HW7 := Lib.hid (HW6.out.trans (hb7.mono HW6.out.size))
  clear hb7 HW6 e7
  go_wp2_with fail
  go_ret
  exact ⟨rfl, HW7.out⟩
end Go.Proofs.Ytiodeaoollhcgaa
