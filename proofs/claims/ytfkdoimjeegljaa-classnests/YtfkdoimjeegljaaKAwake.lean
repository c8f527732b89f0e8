/-
  Layer 4's awake. No statement of the seat is proved here.
-/
import Derived.Test.YtfkdoimjeegljaaKText
import Derived.Test.YtfkdoimjeegljaaKCount
namespace Go.Proofs.Ytfkdoimjeegljaa
open Go.RowKit

theorem aw1 : badC 1 [97, 47, 98] = 1 := by decide +kernel
theorem aw2 : badC 2 [97, 47, 98] = -1 := by decide +kernel
theorem aw3 : faultOf 4 [49, 50, 97] 1 3 = (14, 2) := by decide +kernel
theorem aw4 : faultOf 4 [49, 50, 51, 52] 1 3 = (12, 3) := by decide +kernel
theorem aw5 : faultOf 4 [] 1 3 = (13, 0) := by decide +kernel
theorem er1 : errC 1 = 0 := by decide
theorem er2 : errC 2 = 0 := by decide
theorem er3 : errC 3 = 0 := by decide

theorem bad_says {c : Int} {s : ByteArray} {l : List UInt8} {a b : Int} (h : Str s l) (hz : (s.size : Int) ≤ 1000) (ha : badC c l = a) (hb : errC c = b) (w : World) : Calls Try.prog 14 #[.int .i64 c, .string s] w fun e w' => e = .returned (.tuple #[.int .i64 a, .int .i64 b]) ∧ Below w.heap.size w w' := by
  subst ha hb; exact bad_calls c s l h hz w
theorem count_says {c a b : Int} (ha : cntC c = a) (hb : errC c = b) (w : World) : Calls Try.prog 8 #[.int .i64 c] w fun e w' => e = .returned (.tuple #[.int .i64 a, .int .i64 b]) ∧ Below w.heap.size w w' := by
  subst ha hb; exact count_calls c w
theorem text_says {c lo hi : Int} {s : ByteArray} {l : List UInt8} {a b : Int} (h : Str s l) (hz : (s.size : Int) ≤ 1000) (ha : faultOf c l lo hi = (a, b)) (w : World) : Calls Try.prog 15 #[.int .i64 c, .string s, .int .i64 lo, .int .i64 hi] w fun e w' => e = .returned (.agg #[.int .i64 a, .int .i64 b]) ∧ Below w.heap.size w w' := by
  have := text_calls c s l h hz lo hi w
  rw [ha] at this
  exact this

set_option maxRecDepth 100000 in
set_option maxHeartbeats 2000000 in
theorem awake_calls (w : World) : Calls Try.prog 12 #[] w fun e w' => e = .returned (.bool true) ∧ Below w.heap.size w w' := by
  go_enter Try.func12, Try.ntmps12
  go_wp2_with fail
  refine (bad_says (s := ⟨#[97, 47, 98]⟩) (l := [97, 47, 98]) rfl (by decide) aw1 er1 w).mono ?_
  rintro e w1 ⟨rfl, hb⟩
  have HB1 := Lib.hid hb
  clear hb
  go_wp2_with fail
  refine (bad_says (s := ⟨#[97, 47, 98]⟩) (l := [97, 47, 98]) rfl (by decide) aw2 er2 w1).mono ?_
  rintro e w2 ⟨rfl, hb⟩
  have HB2 := Lib.hid (Below.trans HB1.out (hb.mono HB1.out.size))
  clear hb HB1
  go_wp2_with fail
  refine (count_says cnt1 er1 w2).mono ?_
  rintro e w3 ⟨rfl, hb⟩
  have HB3 := Lib.hid (Below.trans HB2.out (hb.mono HB2.out.size))
  clear hb HB2
  go_wp2_with fail
  refine (count_says cnt3 er3 w3).mono ?_
  rintro e w4 ⟨rfl, hb⟩
  have HB4 := Lib.hid (Below.trans HB3.out (hb.mono HB3.out.size))
  clear hb HB3
  go_wp2_with fail
  refine (text_says (s := ⟨#[49, 50, 97]⟩) (l := [49, 50, 97]) rfl (by decide) aw3 w4).mono ?_
  rintro e w5 ⟨rfl, hb⟩
  have HB5 := Lib.hid (Below.trans HB4.out (hb.mono HB4.out.size))
  clear hb HB4
  go_wp2_with fail
  refine (text_says (s := ⟨#[49, 50, 51, 52]⟩) (l := [49, 50, 51, 52]) rfl (by decide) aw4 w5).mono ?_
  rintro e w6 ⟨rfl, hb⟩
  have HB6 := Lib.hid (Below.trans HB5.out (hb.mono HB5.out.size))
  clear hb HB5
  go_wp2_with fail
  refine (text_says (s := ⟨#[]⟩) (l := []) rfl (by decide) aw5 w6).mono ?_
  rintro e w7 ⟨rfl, hb⟩
  have HB7 := Lib.hid (Below.trans HB6.out (hb.mono HB6.out.size))
  clear hb HB6
  go_wp2_with fail
  go_ret
  exact ⟨rfl, HB7.out⟩
end Go.Proofs.Ytfkdoimjeegljaa
