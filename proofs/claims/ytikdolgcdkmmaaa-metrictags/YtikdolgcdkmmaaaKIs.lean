/-
  Package class: isClass, isLetter, Is. No statement of the seat is proved here.
-/
import Derived.Test.YtikdolgcdkmmaaaChecked
import Derived.Test.YtikdolgcdkmmaaaMem
namespace Go.Proofs.Ytikdolgcdkmmaaa
open Go.RowKit

def letter (b : Int) : Bool := decide ((65 ≤ b ∧ b ≤ 90) ∨ (97 ≤ b ∧ b ≤ 122))
def isCls (c : Int) : Bool := decide (1 ≤ c ∧ c ≤ 4)
/-- Is a byte of a class? -/
def isOf (c b : Int) : Bool :=
  decide ((c = 3 ∧ 33 ≤ b ∧ b ≤ 126 ∧ b ≠ 44 ∧ b ≠ 124) ∨ ((c = 3 ∨ c = 2) ∧ b = 47)
    ∨ ((c = 3 ∨ c = 2 ∨ c = 1) ∧ (letter b = true ∨ b = 95 ∨ b = 46 ∨ b = 45)) ∨ ((c = 3 ∨ c = 2 ∨ c = 1 ∨ c = 4) ∧ 48 ≤ b ∧ b ≤ 57))

set_option maxRecDepth 100000 in
theorem isClass_calls (c : Int) (w : World) : Calls Try.prog 70 #[.int .i64 c] w fun e w' => e = .returned (.bool (isCls c)) ∧ Below w.heap.size w w' := by
  rcases (by omega : c < 1 ∨ (1 ≤ c ∧ c ≤ 4) ∨ (1 ≤ c ∧ 4 < c)) with h | ⟨h, k⟩ | ⟨h, k⟩
  · have hc : isCls c = false := by unfold isCls; rw [decide_eq_false_iff_not]; omega
    have h' : ¬ 1 ≤ c := by omega
    rw [hc]
    go_enter Try.func70, Try.ntmps70
    go_wp2_with fail
    go_ret
    exact ⟨rfl, Below.refl _ _⟩
  · have hc : isCls c = true := by unfold isCls; rw [decide_eq_true_eq]; omega
    rw [hc]
    go_enter Try.func70, Try.ntmps70
    go_wp2_with fail
    go_ret
    exact ⟨rfl, Below.refl _ _⟩
  · have hc : isCls c = false := by unfold isCls; rw [decide_eq_false_iff_not]; omega
    have h' : ¬ c ≤ 4 := by omega
    rw [hc]
    go_enter Try.func70, Try.ntmps70
    go_wp2_with fail
    go_ret
    exact ⟨rfl, Below.refl _ _⟩

set_option maxRecDepth 100000 in
theorem isLetter_calls (b : Int) (w : World) : Calls Try.prog 96 #[.int .u8 b] w fun e w' => e = .returned (.bool (letter b)) ∧ Below w.heap.size w w' := by
  rcases (by omega : (¬ 65 ≤ b ∧ ¬ 97 ≤ b) ∨ (65 ≤ b ∧ b ≤ 90) ∨ (65 ≤ b ∧ ¬ b ≤ 90 ∧ ¬ 97 ≤ b) ∨ (65 ≤ b ∧ ¬ b ≤ 90 ∧ 97 ≤ b ∧ b ≤ 122) ∨ (65 ≤ b ∧ ¬ b ≤ 90 ∧ 97 ≤ b ∧ ¬ b ≤ 122)) with ⟨h1, h2⟩ | ⟨h1, h2⟩ | ⟨h1, h2, h3⟩ | ⟨h1, h2, h3, h4⟩ | ⟨h1, h2, h3, h4⟩
  all_goals
    first
    | (have hc : letter b = false := by (unfold letter; rw [decide_eq_false_iff_not]; omega)
       rw [hc]; clear hc)
    | (have hc : letter b = true := by (unfold letter; rw [decide_eq_true_eq]; omega)
       rw [hc]; clear hc)
    go_enter Try.func96, Try.ntmps96
    go_wp2_with fail
    go_ret
    exact ⟨rfl, Below.refl _ _⟩
end Go.Proofs.Ytikdolgcdkmmaaa
