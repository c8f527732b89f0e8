/-
  The walk through VarintPuts: whatever number it is handed, it returns true, and changes nothing that was there. The statement itself is proved in the last text.
-/
import Derived.Test.YtiodeaoollhcgaaVAwake
import Derived.Test.YtiodeaoollhcgaaVRefPut
import Derived.OpenShut
namespace Go.Proofs.Ytiodeaoollhcgaa
open Go.RowKit

set_option maxRecDepth 100000 in
theorem puts_walk (n : Nat) (w : World) (h : U64 n) : Calls Try.prog 3 #[.int .u64 n] w fun e w' => e = .returned (.bool true) ∧ Below w.heap.size w w' := by
  have H := Lib.hid h
  have hten := digs_ten h
  clear h
  go_enter Try.func3, Try.ntmps3
  go_wp2_with fail
  refine (rput_calls n w H.out).mono ?_
  rintro e w1 ⟨A, cap, rfl, hown, hb1⟩
  rw [by8_length] at hown ⊢
  have hl1 := Lies.of_own hown
  clear hown
  generalize hk : (digs n).length = k at hten
  have HK := Lib.hid hk
  clear hk
  go_wp2_with fail
  refine (put_calls n w1 H.out).mono ?_
  rintro e w2 ⟨B, capB, rfl, hown, hb2⟩
  rw [by8_length, HK.out] at hown
  rw [by8_length, HK.out]
  have hl2 := Lies.of_own hown
  have hl3 := hl1.keep hb2
  have HW := Lib.hid (below_then hb1 hb2)
  clear hown hb1 hb2 hl1
  go_wp2_with fail
  refine (same_calls w2 _ _ k k _ _ (digs n) (digs n) HK.out HK.out hl2 hl3 (by unfold maxLen; omega) (by unfold maxLen; omega)).mono ?_
  rintro e w3 ⟨rfl, hs⟩
  have HW3 := Lib.hid (HW.out.trans hs.below)
  have e1 : decide (digs n = digs n) = true := by simp
  rw [e1]
  clear hs hl2 hl3 HW e1
  go_wp2_with fail
  refine (len_calls n w3 H.out).mono ?_
  rintro e w4 ⟨rfl, rfl⟩
  rw [HK.out]
  have hkk : ((k : Int) == (k : Int)) = true := by simp
  go_wp2_with fail
  refine (awake_calls w3).mono ?_
  rintro e w5 ⟨rfl, hb5⟩
  have HW5 := Lib.hid (HW3.out.trans (hb5.mono HW3.out.size))
  clear hb5
  go_wp2_with fail
  go_ret
  exact ⟨rfl, HW5.out⟩
theorem puts_walk_in (x : Int) (w : World) (h : (Lit.int .u64 x).wf = true) : Calls Try.prog 3 #[.int .u64 x] w fun e w' => e = .returned (.bool true) ∧ Below w.heap.size w w' := by
  have b := bounds_u64 h
  obtain ⟨m, rfl⟩ := Int.eq_ofNat_of_zero_le b.1
  exact puts_walk m w (by unfold U64; omega)
end Go.Proofs.Ytiodeaoollhcgaa
