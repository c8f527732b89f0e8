/-
  The walk through VarintGets: whatever bytes it is handed, it returns true, and changes nothing that was there. The statement itself is proved in the last text.
-/
import Derived.Test.YtiodeaoollhcgaaVAwake
import Derived.Test.YtiodeaoollhcgaaVRefGet
namespace Go.Proofs.Ytiodeaoollhcgaa
open Go.RowKit

set_option maxRecDepth 100000 in
theorem gets_walk (A : Option Addr) (n cap : Nat) (bs : List Int) (w : World) (hl : bs.length = n) (hv : Lies w A (by8 bs)) (hs : ∀ z ∈ bs, 0 ≤ z ∧ z < 256) :
    Calls Try.prog 4 #[.slice A n cap] w fun e w' => e = .returned (.bool true) ∧ Below w.heap.size w w' := by
  have HL := Lib.hid hl
  have HV := Lib.hid hv
  have HS := Lib.hid hs
  clear hl hv hs
  by_cases h300 : 300 < n
  · have h3 : (300 : Int) < (n : Int) := by omega
    go_enter Try.func4, Try.ntmps4
    go_wp2_with fail
    refine (awake_calls _).mono ?_
    rintro e w9 ⟨rfl, hb9⟩
    go_wp2
    go_ret
    exact ⟨rfl, hb9⟩
  have h3 : ¬ (300 : Int) < (n : Int) := by omega
  have hmx : n ≤ maxLen := by unfold maxLen; omega
  have HM := Lib.hid hmx
  clear hmx
  go_enter Try.func4, Try.ntmps4
  go_wp2_with fail
  refine (get_calls w A n cap bs HL.out HV.out HS.out HM.out).mono ?_
  rintro e w1 ⟨rfl, hb1⟩
  have HW1 := Lib.hid hb1
  have HV1 := Lib.hid (HV.out.keep hb1)
  clear hb1
  go_wp2_with fail
  refine (rget_calls w1 A n cap bs HL.out HV1.out HS.out HM.out).mono ?_
  rintro e w2 ⟨rfl, hs2⟩
  have HW2 := Lib.hid (HW1.out.trans hs2.below)
  clear hs2 HW1 HV1
  unfold got
  obtain ⟨x, j, c⟩ := scan 0 0 bs
  simp only
  by_cases hc : c = 0
  · subst hc
    rw [if_pos rfl]
    have t1 : ((x : Int) == (x : Int)) = true := by simp
    have t2 : ((j : Int) == (j : Int)) = true := by simp
    go_wp2_with fail
    refine (awake_calls w2).mono ?_
    rintro e w5 ⟨rfl, hb5⟩
    have HW5 := Lib.hid (HW2.out.trans (hb5.mono HW2.out.size))
    clear hb5
    go_wp2_with fail
    go_ret
    exact ⟨rfl, HW5.out⟩
  · rw [if_neg hc]
    have t1 : (c != 0) = true := by simp [hc]
    have t2 : (c == c) = true := by simp
    clear hc
    go_wp2_with fail
    refine (awake_calls w2).mono ?_
    rintro e w5 ⟨rfl, hb5⟩
    have HW5 := Lib.hid (HW2.out.trans (hb5.mono HW2.out.size))
    clear hb5
    go_wp2_with fail
    go_ret
    exact ⟨rfl, HW5.out⟩
end Go.Proofs.Ytiodeaoollhcgaa
