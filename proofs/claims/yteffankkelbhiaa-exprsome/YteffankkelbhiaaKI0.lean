/-
  KIs, KIs2. No statement of the seat is proved here.
-/
import Derived.Test.YteffankkelbhiaaChecked
import Derived.Test.YteffankkelbhiaaMem
/-
  Package class: isClass, isLetter, Is. No statement of the seat is proved here.
-/
namespace Go.Proofs.Yteffankkelbhiaa
open Go.RowKit

def letter (b : Int) : Bool := decide ((65 ≤ b ∧ b ≤ 90) ∨ (97 ≤ b ∧ b ≤ 122))
def isCls (c : Int) : Bool := decide (1 ≤ c ∧ c ≤ 4)
/-- Is a byte of a class? -/
def isOf (c b : Int) : Bool :=
  decide ((c = 3 ∧ 33 ≤ b ∧ b ≤ 126 ∧ b ≠ 44 ∧ b ≠ 124) ∨ ((c = 3 ∨ c = 2) ∧ b = 47)
    ∨ ((c = 3 ∨ c = 2 ∨ c = 1) ∧ (letter b = true ∨ b = 95 ∨ b = 46 ∨ b = 45)) ∨ ((c = 3 ∨ c = 2 ∨ c = 1 ∨ c = 4) ∧ 48 ≤ b ∧ b ≤ 57))

set_option maxRecDepth 100000 in
theorem isClass_calls (c : Int) (w : World) : Calls Try.prog 58 #[.int .i64 c] w fun e w' => e = .returned (.bool (isCls c)) ∧ Below w.heap.size w w' := by
  rcases (by omega : c < 1 ∨ (1 ≤ c ∧ c ≤ 4) ∨ (1 ≤ c ∧ 4 < c)) with h | ⟨h, k⟩ | ⟨h, k⟩
  · have hc : isCls c = false := by unfold isCls; rw [decide_eq_false_iff_not]; omega
    have h' : ¬ 1 ≤ c := by omega
    rw [hc]
    go_enter Try.func58, Try.ntmps58
    go_wp2_with fail
    go_ret
    exact ⟨rfl, Below.refl _ _⟩
  · have hc : isCls c = true := by unfold isCls; rw [decide_eq_true_eq]; omega
    rw [hc]
    go_enter Try.func58, Try.ntmps58
    go_wp2_with fail
    go_ret
    exact ⟨rfl, Below.refl _ _⟩
  · have hc : isCls c = false := by unfold isCls; rw [decide_eq_false_iff_not]; omega
    have h' : ¬ c ≤ 4 := by omega
    rw [hc]
    go_enter Try.func58, Try.ntmps58
    go_wp2_with fail
    go_ret
    exact ⟨rfl, Below.refl _ _⟩

set_option maxRecDepth 100000 in
theorem isLetter_calls (b : Int) (w : World) : Calls Try.prog 68 #[.int .u8 b] w fun e w' => e = .returned (.bool (letter b)) ∧ Below w.heap.size w w' := by
  rcases (by omega : (¬ 65 ≤ b ∧ ¬ 97 ≤ b) ∨ (65 ≤ b ∧ b ≤ 90) ∨ (65 ≤ b ∧ ¬ b ≤ 90 ∧ ¬ 97 ≤ b) ∨ (65 ≤ b ∧ ¬ b ≤ 90 ∧ 97 ≤ b ∧ b ≤ 122) ∨ (65 ≤ b ∧ ¬ b ≤ 90 ∧ 97 ≤ b ∧ ¬ b ≤ 122)) with ⟨h1, h2⟩ | ⟨h1, h2⟩ | ⟨h1, h2, h3⟩ | ⟨h1, h2, h3, h4⟩ | ⟨h1, h2, h3, h4⟩
  all_goals
    first
    | (have hc : letter b = false := by (unfold letter; rw [decide_eq_false_iff_not]; omega)
       rw [hc]; clear hc)
    | (have hc : letter b = true := by (unfold letter; rw [decide_eq_true_eq]; omega)
       rw [hc]; clear hc)
    go_enter Try.func68, Try.ntmps68
    go_wp2_with fail
    go_ret
    exact ⟨rfl, Below.refl _ _⟩
end Go.Proofs.Yteffankkelbhiaa

/-
  Package class: Is. No statement of the seat is proved here.
-/
namespace Go.Proofs.Yteffankkelbhiaa
open Go.RowKit
set_option linter.unusedSimpArgs false

theorem isOf_iff {c b : Int} : isOf c b = true ↔ (c = 3 ∧ 33 ≤ b ∧ b ≤ 126 ∧ b ≠ 44 ∧ b ≠ 124) ∨ ((c = 3 ∨ c = 2) ∧ b = 47)
    ∨ ((c = 3 ∨ c = 2 ∨ c = 1) ∧ (((65 ≤ b ∧ b ≤ 90) ∨ (97 ≤ b ∧ b ≤ 122)) ∨ b = 95 ∨ b = 46 ∨ b = 45)) ∨ ((c = 3 ∨ c = 2 ∨ c = 1 ∨ c = 4) ∧ 48 ≤ b ∧ b ≤ 57) := by
  unfold isOf letter
  simp only [decide_eq_true_eq]

theorem isOf1 {b : Int} : isOf 1 b = true ↔ (65 ≤ b ∧ b ≤ 90) ∨ (97 ≤ b ∧ b ≤ 122) ∨ b = 95 ∨ b = 46 ∨ b = 45 ∨ (48 ≤ b ∧ b ≤ 57) := by rw [isOf_iff]; omega
theorem isOf2 {b : Int} : isOf 2 b = true ↔ b = 47 ∨ (65 ≤ b ∧ b ≤ 90) ∨ (97 ≤ b ∧ b ≤ 122) ∨ b = 95 ∨ b = 46 ∨ b = 45 ∨ (48 ≤ b ∧ b ≤ 57) := by rw [isOf_iff]; omega
theorem isOf3 {b : Int} : isOf 3 b = true ↔ (33 ≤ b ∧ b ≤ 126 ∧ b ≠ 44 ∧ b ≠ 124) ∨ b = 47 ∨ (65 ≤ b ∧ b ≤ 90) ∨ (97 ≤ b ∧ b ≤ 122) ∨ b = 95 ∨ b = 46 ∨ b = 45 ∨ (48 ≤ b ∧ b ≤ 57) := by rw [isOf_iff]; omega
theorem isOf4 {b : Int} : isOf 4 b = true ↔ (48 ≤ b ∧ b ≤ 57) := by rw [isOf_iff]; omega
theorem isOf0 {c b : Int} (h1 : ¬ c = 3) (h2 : ¬ c = 2) (h3 : ¬ c = 1) (h4 : ¬ c = 4) : isOf c b = true ↔ (0 : Int) = 1 := by rw [isOf_iff]; omega

set_option maxRecDepth 100000 in
set_option maxHeartbeats 1000000 in
theorem is1 (b : Int) (w : World) : Calls Try.prog 65 #[.int .i64 1, .int .u8 b] w fun e w' => e = .returned (.bool (isOf 1 b)) ∧ Below w.heap.size w w' := by
  have HL0 := isLetter_calls b w
  have hls : ((65 ≤ b ∧ b ≤ 90) ∨ (97 ≤ b ∧ b ≤ 122)) ∧ letter b = true ∨ ¬ ((65 ≤ b ∧ b ≤ 90) ∨ (97 ≤ b ∧ b ≤ 122)) ∧ letter b = false := by
    by_cases h : (65 ≤ b ∧ b ≤ 90) ∨ (97 ≤ b ∧ b ≤ 122)
    · exact .inl ⟨h, by unfold letter; exact decide_eq_true h⟩
    · exact .inr ⟨h, by unfold letter; exact decide_eq_false h⟩
  rcases hls with ⟨ha, hl⟩ | ⟨ha, hl⟩
  all_goals
    rw [hl] at HL0
    have HL := Lib.hid HL0
    have HA := Lib.hid ha
    clear hl HL0 ha
    go_enter Try.func65, Try.ntmps65
    go_wp2_with fail
    all_goals
      try
        refine HL.out.mono ?_
        rintro e w1 ⟨rfl, hb⟩
        have HB := Lib.hid hb
        clear hb HL
        go_wp2_with fail
    all_goals
      have ha := HA.out
      clear HA
      go_ret
      refine ⟨congrArg (fun z => Ending.returned (Value.bool z)) ?_, ?_⟩
      · rw [Bool.eq_iff_iff, isOf1]
        simp only [decide_eq_true_eq, Bool.or_eq_true, Bool.and_eq_true, bne_iff_ne, beq_iff_eq, true_iff, reduceCtorEq, false_iff]
        omega
      · first | exact Below.refl _ _ | exact HB.out
set_option maxRecDepth 100000 in
set_option maxHeartbeats 1000000 in
theorem is4 (b : Int) (w : World) : Calls Try.prog 65 #[.int .i64 4, .int .u8 b] w fun e w' => e = .returned (.bool (isOf 4 b)) ∧ Below w.heap.size w w' := by
  have HL0 := isLetter_calls b w
  have hls : ((65 ≤ b ∧ b ≤ 90) ∨ (97 ≤ b ∧ b ≤ 122)) ∧ letter b = true ∨ ¬ ((65 ≤ b ∧ b ≤ 90) ∨ (97 ≤ b ∧ b ≤ 122)) ∧ letter b = false := by
    by_cases h : (65 ≤ b ∧ b ≤ 90) ∨ (97 ≤ b ∧ b ≤ 122)
    · exact .inl ⟨h, by unfold letter; exact decide_eq_true h⟩
    · exact .inr ⟨h, by unfold letter; exact decide_eq_false h⟩
  rcases hls with ⟨ha, hl⟩ | ⟨ha, hl⟩
  all_goals
    rw [hl] at HL0
    have HL := Lib.hid HL0
    have HA := Lib.hid ha
    clear hl HL0 ha
    go_enter Try.func65, Try.ntmps65
    go_wp2_with fail
    all_goals
      try
        refine HL.out.mono ?_
        rintro e w1 ⟨rfl, hb⟩
        have HB := Lib.hid hb
        clear hb HL
        go_wp2_with fail
    all_goals
      have ha := HA.out
      clear HA
      go_ret
      refine ⟨congrArg (fun z => Ending.returned (Value.bool z)) ?_, ?_⟩
      · rw [Bool.eq_iff_iff, isOf4]
        simp only [decide_eq_true_eq, Bool.or_eq_true, Bool.and_eq_true, bne_iff_ne, beq_iff_eq, true_iff, reduceCtorEq, false_iff]
        omega
      · first | exact Below.refl _ _ | exact HB.out
set_option maxRecDepth 100000 in
set_option maxHeartbeats 1000000 in
theorem is2 (b : Int) (w : World) : Calls Try.prog 65 #[.int .i64 2, .int .u8 b] w fun e w' => e = .returned (.bool (isOf 2 b)) ∧ Below w.heap.size w w' := by
  have HL0 := isLetter_calls b w
  have hls : ((65 ≤ b ∧ b ≤ 90) ∨ (97 ≤ b ∧ b ≤ 122)) ∧ letter b = true ∨ ¬ ((65 ≤ b ∧ b ≤ 90) ∨ (97 ≤ b ∧ b ≤ 122)) ∧ letter b = false := by
    by_cases h : (65 ≤ b ∧ b ≤ 90) ∨ (97 ≤ b ∧ b ≤ 122)
    · exact .inl ⟨h, by unfold letter; exact decide_eq_true h⟩
    · exact .inr ⟨h, by unfold letter; exact decide_eq_false h⟩
  rcases hls with ⟨ha, hl⟩ | ⟨ha, hl⟩
  all_goals
    rw [hl] at HL0
    have HL := Lib.hid HL0
    have HA := Lib.hid ha
    clear hl HL0 ha
    go_enter Try.func65, Try.ntmps65
    go_wp2_with fail
    all_goals
      try
        refine HL.out.mono ?_
        rintro e w1 ⟨rfl, hb⟩
        have HB := Lib.hid hb
        clear hb HL
        go_wp2_with fail
    all_goals
      have ha := HA.out
      clear HA
      go_ret
      refine ⟨congrArg (fun z => Ending.returned (Value.bool z)) ?_, ?_⟩
      · rw [Bool.eq_iff_iff, isOf2]
        simp only [decide_eq_true_eq, Bool.or_eq_true, Bool.and_eq_true, bne_iff_ne, beq_iff_eq, true_iff, reduceCtorEq, false_iff]
        omega
      · first | exact Below.refl _ _ | exact HB.out
set_option maxRecDepth 100000 in
set_option maxHeartbeats 1000000 in
theorem is3 (b : Int) (w : World) : Calls Try.prog 65 #[.int .i64 3, .int .u8 b] w fun e w' => e = .returned (.bool (isOf 3 b)) ∧ Below w.heap.size w w' := by
  rcases (by omega : (¬ 33 ≤ b ∧ ¬ b = 47 ∧ ¬ b = 95 ∧ ¬ b = 46 ∧ ¬ b = 45 ∧ ¬ 48 ≤ b) ∨ (33 ≤ b ∧ ¬ b ≤ 126 ∧ ¬ b = 47 ∧ ¬ b = 95 ∧ ¬ b = 46 ∧ ¬ b = 45 ∧ 48 ≤ b ∧ ¬ b ≤ 57) ∨ b = 44 ∨ b = 124 ∨ (33 ≤ b ∧ b ≤ 126 ∧ ¬ b = 44 ∧ ¬ b = 124))
    with ⟨h1, h2, h3, h4, h5, h6⟩ | ⟨h1, h2, h3, h4, h5, h6, h7, h8⟩ | rfl | rfl | ⟨h1, h2, h3, h4⟩
  · have ho : isOf 3 b = false := by rw [Bool.eq_false_iff, ne_eq, isOf3]; omega
    have hl : letter b = false := by unfold letter; exact decide_eq_false (by omega)
    have HL := Lib.hid (isLetter_calls b w)
    rw [hl] at HL
    rw [ho]
    clear hl ho
    go_enter Try.func65, Try.ntmps65
    go_wp2_with fail
    refine HL.out.mono ?_
    rintro e w1 ⟨rfl, hb⟩
    have HB := Lib.hid hb
    clear hb HL
    go_wp2_with fail
    go_ret
    refine ⟨congrArg (fun z => Ending.returned (Value.bool z)) ?_, HB.out⟩
    rw [Bool.eq_false_iff, ne_eq]
    simp only [decide_eq_true_eq, Bool.or_eq_true, beq_iff_eq]
    omega
  · have ho : isOf 3 b = false := by rw [Bool.eq_false_iff, ne_eq, isOf3]; omega
    have hl : letter b = false := by unfold letter; exact decide_eq_false (by omega)
    have HL := Lib.hid (isLetter_calls b w)
    rw [hl] at HL
    rw [ho]
    clear hl ho
    go_enter Try.func65, Try.ntmps65
    go_wp2_with fail
    refine HL.out.mono ?_
    rintro e w1 ⟨rfl, hb⟩
    have HB := Lib.hid hb
    clear hb HL
    go_wp2_with fail
    go_ret
    refine ⟨congrArg (fun z => Ending.returned (Value.bool z)) ?_, HB.out⟩
    rw [Bool.eq_false_iff, ne_eq]
    simp only [decide_eq_true_eq, Bool.or_eq_true, beq_iff_eq]
    omega
  · have ho : isOf 3 44 = false := by decide
    have hl : letter 44 = false := by decide
    have HL := Lib.hid (isLetter_calls 44 w)
    rw [hl] at HL
    rw [ho]
    clear hl ho
    go_enter Try.func65, Try.ntmps65
    go_wp2_with fail
    refine HL.out.mono ?_
    rintro e w1 ⟨rfl, hb⟩
    have HB := Lib.hid hb
    clear hb HL
    go_wp2_with fail
    go_ret
    exact ⟨rfl, HB.out⟩
  · have ho : isOf 3 124 = false := by decide
    have hl : letter 124 = false := by decide
    have HL := Lib.hid (isLetter_calls 124 w)
    rw [hl] at HL
    rw [ho]
    clear hl ho
    go_enter Try.func65, Try.ntmps65
    go_wp2_with fail
    refine HL.out.mono ?_
    rintro e w1 ⟨rfl, hb⟩
    have HB := Lib.hid hb
    clear hb HL
    go_wp2_with fail
    go_ret
    exact ⟨rfl, HB.out⟩
  · have ho : isOf 3 b = true := by rw [isOf3]; omega
    rw [ho]
    clear ho
    go_enter Try.func65, Try.ntmps65
    go_wp2_with fail
    go_ret
    exact ⟨rfl, Below.refl _ _⟩
set_option maxRecDepth 100000 in
set_option maxHeartbeats 1000000 in
theorem is0 (c b : Int) (w : World) (h1 : ¬ c = 3) (h2 : ¬ c = 2) (h3 : ¬ c = 1) (h4 : ¬ c = 4) : Calls Try.prog 65 #[.int .i64 c, .int .u8 b] w fun e w' => e = .returned (.bool (isOf c b)) ∧ Below w.heap.size w w' := by
  have HL0 := isLetter_calls b w
  have hls : ((65 ≤ b ∧ b ≤ 90) ∨ (97 ≤ b ∧ b ≤ 122)) ∧ letter b = true ∨ ¬ ((65 ≤ b ∧ b ≤ 90) ∨ (97 ≤ b ∧ b ≤ 122)) ∧ letter b = false := by
    by_cases h : (65 ≤ b ∧ b ≤ 90) ∨ (97 ≤ b ∧ b ≤ 122)
    · exact .inl ⟨h, by unfold letter; exact decide_eq_true h⟩
    · exact .inr ⟨h, by unfold letter; exact decide_eq_false h⟩
  rcases hls with ⟨ha, hl⟩ | ⟨ha, hl⟩
  all_goals
    rw [hl] at HL0
    have HL := Lib.hid HL0
    have HA := Lib.hid ha
    clear hl HL0 ha
    go_enter Try.func65, Try.ntmps65
    go_wp2_with fail
    all_goals
      try
        refine HL.out.mono ?_
        rintro e w1 ⟨rfl, hb⟩
        have HB := Lib.hid hb
        clear hb HL
        go_wp2_with fail
    all_goals
      have ha := HA.out
      clear HA
      go_ret
      refine ⟨congrArg (fun z => Ending.returned (Value.bool z)) ?_, ?_⟩
      · rw [Bool.eq_iff_iff, isOf0 h1 h2 h3 h4]
        simp only [decide_eq_true_eq, Bool.or_eq_true, Bool.and_eq_true, bne_iff_ne, beq_iff_eq, true_iff, reduceCtorEq, false_iff]
        omega
      · first | exact Below.refl _ _ | exact HB.out

theorem is_calls (c b : Int) (w : World) : Calls Try.prog 65 #[.int .i64 c, .int .u8 b] w fun e w' => e = .returned (.bool (isOf c b)) ∧ Below w.heap.size w w' := by
  rcases (by omega : c = 3 ∨ c = 2 ∨ c = 1 ∨ c = 4 ∨ (¬ c = 3 ∧ ¬ c = 2 ∧ ¬ c = 1 ∧ ¬ c = 4)) with rfl | rfl | rfl | rfl | ⟨h1, h2, h3, h4⟩
  · exact is3 b w
  · exact is2 b w
  · exact is1 b w
  · exact is4 b w
  · exact is0 c b w h1 h2 h3 h4
end Go.Proofs.Yteffankkelbhiaa
