/-
  The walk through VarintZigs: whatever numbers it is handed, it returns true, and changes nothing that was there. The statement itself is proved in the last text.
-/
import Derived.Test.YtiodeaoollhcgaaVAwake
namespace Go.Proofs.Ytiodeaoollhcgaa
open Go.RowKit

theorem zig_in (n : Int) (h0 : -9223372036854775808 ≤ n) (h1 : n ≤ 9223372036854775807) : 0 ≤ zig n ∧ zig n ≤ 18446744073709551615 := by
  unfold zig
  split <;> omega
theorem zag_in (m : Int) (h0 : 0 ≤ m) (h1 : m ≤ 18446744073709551615) : -9223372036854775808 ≤ zag m ∧ zag m ≤ 9223372036854775807 := by
  unfold zag
  split <;> omega

set_option maxRecDepth 100000 in
theorem zigs_walk (n m : Int) (w : World) (h0 : -9223372036854775808 ≤ n) (h1 : n ≤ 9223372036854775807) (m0 : 0 ≤ m) (m1 : m ≤ 18446744073709551615) :
    Calls Try.prog 6 #[.int .i64 n, .int .u64 m] w fun e w' => e = .returned (.bool true) ∧ Below w.heap.size w w' := by
  have hz := zig_in n h0 h1
  have hg := zag_in m m0 m1
  have HN := Lib.hid (And.intro h0 h1)
  have HM := Lib.hid (And.intro m0 m1)
  have HZ := Lib.hid hz
  have HG := Lib.hid hg
  clear h0 h1 m0 m1 hz hg
  go_enter Try.func6, Try.ntmps6
  go_wp2_with fail
  refine (zig_calls n w HN.out.1 HN.out.2).mono ?_
  rintro e w1 ⟨rfl, hb1⟩
  have HW1 := Lib.hid hb1
  clear hb1
  go_wp2_with fail
  refine (rzig_calls n w1 HN.out.1 HN.out.2).mono ?_
  rintro e w2 ⟨rfl, rfl⟩
  have t1 : (zig n == zig n) = true := by simp
  go_wp2_with fail
  refine (zig_calls n w1 HN.out.1 HN.out.2).mono ?_
  rintro e w2 ⟨rfl, hb2⟩
  have HW2 := Lib.hid (below_then HW1.out hb2)
  clear hb2 HW1
  go_wp2_with fail
  refine (zag_calls (zig n) w2 HZ.out.1 HZ.out.2).mono ?_
  rintro e w3 ⟨rfl, hb3⟩
  have HW3 := Lib.hid (below_then HW2.out hb3)
  clear hb3 HW2
  rw [zag_zig]
  have t2 : (n == n) = true := by simp
  go_wp2_with fail
  refine (zag_calls m w3 HM.out.1 HM.out.2).mono ?_
  rintro e w4 ⟨rfl, hb4⟩
  have HW4 := Lib.hid (below_then HW3.out hb4)
  clear hb4 HW3
  go_wp2_with fail
  refine (zig_calls (zag m) w4 HG.out.1 HG.out.2).mono ?_
  rintro e w5 ⟨rfl, hb5⟩
  have HW5 := Lib.hid (below_then HW4.out hb5)
  clear hb5 HW4
  rw [zig_zag m HM.out.1]
  have t3 : (m == m) = true := by simp
  go_wp2_with fail
  refine (awake_calls w5).mono ?_
  rintro e w6 ⟨rfl, hb6⟩
  have HW6 := Lib.hid (below_then HW5.out hb6)
  clear hb6
  go_wp2_with fail
  go_ret
  exact ⟨rfl, HW6.out⟩
end Go.Proofs.Ytiodeaoollhcgaa
