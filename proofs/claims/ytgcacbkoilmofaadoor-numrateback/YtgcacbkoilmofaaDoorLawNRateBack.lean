/-
  The walk of NumRateBack, whole. No statement of the seat is proved here.
-/
import Derived.Test.YtgcacbkoilmofaaDoorLawNRateBack2
import Derived.Test.YtgcacbkoilmofaaDoorLawNRateBack3
namespace Go.Proofs.YtgcacbkoilmofaaDoor
open Go.RowKit

set_option maxRecDepth 100000 in
theorem nrateback_walk (n z : Int) (s : ByteArray) (w : World) (ht : Tab w) : Calls Tryd.prog 6 #[.int .i64 n, .int .i64 z, .string s] w fun e w' => e = .returned (.bool true) ∧ Below w.heap.size w w' := by
  rcases (by omega : 200 < (s.size : Int) ∨ (¬ 200 < (s.size : Int) ∧ z < 0) ∨ (¬ 200 < (s.size : Int) ∧ ¬ z < 0 ∧ 6 < z) ∨ ((s.size : Int) ≤ 200 ∧ 0 ≤ z ∧ z ≤ 6)) with h | ⟨h, h2⟩ | ⟨h, h2, h3⟩ | ⟨h, h2, h3⟩
  · have HT := Lib.hid ht
    clear ht
    go_enter Tryd.func6, Tryd.ntmps6
    go_wp2_with fail
    refine (awake5_calls _ HT.out).mono ?_
    rintro e w1 ⟨rfl, hb⟩
    have HB := Lib.hid hb
    clear hb
    go_wp2_with fail
    go_ret
    exact ⟨rfl, HB.out⟩
  · have HT := Lib.hid ht
    clear ht
    go_enter Tryd.func6, Tryd.ntmps6
    go_wp2_with fail
    refine (awake5_calls _ HT.out).mono ?_
    rintro e w1 ⟨rfl, hb⟩
    have HB := Lib.hid hb
    clear hb
    go_wp2_with fail
    go_ret
    exact ⟨rfl, HB.out⟩
  · have HT := Lib.hid ht
    clear ht
    go_enter Tryd.func6, Tryd.ntmps6
    go_wp2_with fail
    refine (awake5_calls _ HT.out).mono ?_
    rintro e w1 ⟨rfl, hb⟩
    have HB := Lib.hid hb
    clear hb
    go_wp2_with fail
    go_ret
    exact ⟨rfl, HB.out⟩
  · by_cases hr : isRate n = true
    · obtain ⟨h1, h4⟩ := (isRate_iff n).1 hr
      by_cases hm : n = 1000000
      · subst hm; exact nrate_one z s h ⟨h2, h3⟩ w ht
      · exact nrate_less n z s h ⟨h2, h3⟩ ⟨h1, by omega⟩ w ht
    · exact nrate_none n z s h ⟨h2, h3⟩ (by simpa using hr) w ht
end Go.Proofs.YtgcacbkoilmofaaDoor
