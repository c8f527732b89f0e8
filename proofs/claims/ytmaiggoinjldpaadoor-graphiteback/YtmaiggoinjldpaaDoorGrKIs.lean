/-
  KIs, KIs2, KBad, KText, KRefBad, KRefText. No statement of the seat is proved here.
-/
import Derived.Test.YtmaiggoinjldpaaDoorChecked
import Derived.Test.YtmaiggoinjldpaaDoorGrDigs
/-
  Package class: isClass, isLetter, Is. No statement of the seat is proved here.
-/
namespace Go.Proofs.YtmaiggoinjldpaaDoor
open Go.RowKit

def letter (b : Int) : Bool := decide ((65 ≤ b ∧ b ≤ 90) ∨ (97 ≤ b ∧ b ≤ 122))
def isCls (c : Int) : Bool := decide (1 ≤ c ∧ c ≤ 4)
/-- Is a byte of a class? -/
def isOf (c b : Int) : Bool :=
  decide ((c = 3 ∧ 33 ≤ b ∧ b ≤ 126 ∧ b ≠ 44 ∧ b ≠ 124) ∨ ((c = 3 ∨ c = 2) ∧ b = 47)
    ∨ ((c = 3 ∨ c = 2 ∨ c = 1) ∧ (letter b = true ∨ b = 95 ∨ b = 46 ∨ b = 45)) ∨ ((c = 3 ∨ c = 2 ∨ c = 1 ∨ c = 4) ∧ 48 ≤ b ∧ b ≤ 57))

set_option maxRecDepth 100000 in
theorem isClass_calls (c : Int) (w : World) : Calls Tryd.prog 43 #[.int .i64 c] w fun e w' => e = .returned (.bool (isCls c)) ∧ Below w.heap.size w w' := by
  rcases (by omega : c < 1 ∨ (1 ≤ c ∧ c ≤ 4) ∨ (1 ≤ c ∧ 4 < c)) with h | ⟨h, k⟩ | ⟨h, k⟩
  · have hc : isCls c = false := by unfold isCls; rw [decide_eq_false_iff_not]; omega
    have h' : ¬ 1 ≤ c := by omega
    rw [hc]
    go_enter Tryd.func43, Tryd.ntmps43
    go_wp2_with fail
    go_ret
    exact ⟨rfl, Below.refl _ _⟩
  · have hc : isCls c = true := by unfold isCls; rw [decide_eq_true_eq]; omega
    rw [hc]
    go_enter Tryd.func43, Tryd.ntmps43
    go_wp2_with fail
    go_ret
    exact ⟨rfl, Below.refl _ _⟩
  · have hc : isCls c = false := by unfold isCls; rw [decide_eq_false_iff_not]; omega
    have h' : ¬ c ≤ 4 := by omega
    rw [hc]
    go_enter Tryd.func43, Tryd.ntmps43
    go_wp2_with fail
    go_ret
    exact ⟨rfl, Below.refl _ _⟩

set_option maxRecDepth 100000 in
theorem isLetter_calls (b : Int) (w : World) : Calls Tryd.prog 85 #[.int .u8 b] w fun e w' => e = .returned (.bool (letter b)) ∧ Below w.heap.size w w' := by
  rcases (by omega : (¬ 65 ≤ b ∧ ¬ 97 ≤ b) ∨ (65 ≤ b ∧ b ≤ 90) ∨ (65 ≤ b ∧ ¬ b ≤ 90 ∧ ¬ 97 ≤ b) ∨ (65 ≤ b ∧ ¬ b ≤ 90 ∧ 97 ≤ b ∧ b ≤ 122) ∨ (65 ≤ b ∧ ¬ b ≤ 90 ∧ 97 ≤ b ∧ ¬ b ≤ 122)) with ⟨h1, h2⟩ | ⟨h1, h2⟩ | ⟨h1, h2, h3⟩ | ⟨h1, h2, h3, h4⟩ | ⟨h1, h2, h3, h4⟩
  all_goals
    first
    | (have hc : letter b = false := by (unfold letter; rw [decide_eq_false_iff_not]; omega)
       rw [hc]; clear hc)
    | (have hc : letter b = true := by (unfold letter; rw [decide_eq_true_eq]; omega)
       rw [hc]; clear hc)
    go_enter Tryd.func85, Tryd.ntmps85
    go_wp2_with fail
    go_ret
    exact ⟨rfl, Below.refl _ _⟩
end Go.Proofs.YtmaiggoinjldpaaDoor

/-
  Package class: Is. No statement of the seat is proved here.
-/
namespace Go.Proofs.YtmaiggoinjldpaaDoor
open Go.RowKit
set_option linter.unusedSimpArgs false

theorem isOf_iff {c b : Int} : isOf c b = true ↔ (c = 3 ∧ 33 ≤ b ∧ b ≤ 126 ∧ b ≠ 44 ∧ b ≠ 124) ∨ ((c = 3 ∨ c = 2) ∧ b = 47)
    ∨ ((c = 3 ∨ c = 2 ∨ c = 1) ∧ (((65 ≤ b ∧ b ≤ 90) ∨ (97 ≤ b ∧ b ≤ 122)) ∨ b = 95 ∨ b = 46 ∨ b = 45)) ∨ ((c = 3 ∨ c = 2 ∨ c = 1 ∨ c = 4) ∧ 48 ≤ b ∧ b ≤ 57) := by
  unfold isOf letter
  simp only [decide_eq_true_eq]

theorem isOf1 {b : Int} : isOf 1 b = true ↔ (65 ≤ b ∧ b ≤ 90) ∨ (97 ≤ b ∧ b ≤ 122) ∨ b = 95 ∨ b = 46 ∨ b = 45 ∨ (48 ≤ b ∧ b ≤ 57) := by rw [isOf_iff]; omega
theorem isOf2 {b : Int} : isOf 2 b = true ↔ b = 47 ∨ (65 ≤ b ∧ b ≤ 90) ∨ (97 ≤ b ∧ b ≤ 122) ∨ b = 95 ∨ b = 46 ∨ b = 45 ∨ (48 ≤ b ∧ b ≤ 57) := by rw [isOf_iff]; omega
theorem isOf3 {b : Int} : isOf 3 b = true ↔ (33 ≤ b ∧ b ≤ 126 ∧ b ≠ 44 ∧ b ≠ 124) ∨ b = 47 ∨ (65 ≤ b ∧ b ≤ 90) ∨ (97 ≤ b ∧ b ≤ 122) ∨ b = 95 ∨ b = 46 ∨ b = 45 ∨ (48 ≤ b ∧ b ≤ 57) := by rw [isOf_iff]; omega
theorem isOf4 {b : Int} : isOf 4 b = true ↔ (48 ≤ b ∧ b ≤ 57) := by rw [isOf_iff]; omega
theorem isOf0 {c b : Int} (h1 : ¬ c = 3) (h2 : ¬ c = 2) (h3 : ¬ c = 1) (h4 : ¬ c = 4) : isOf c b = true ↔ (0 : Int) = 1 := by rw [isOf_iff]; omega

set_option maxRecDepth 100000 in
set_option maxHeartbeats 1000000 in
theorem is1 (b : Int) (w : World) : Calls Tryd.prog 67 #[.int .i64 1, .int .u8 b] w fun e w' => e = .returned (.bool (isOf 1 b)) ∧ Below w.heap.size w w' := by
  have HL0 := isLetter_calls b w
  have hls : ((65 ≤ b ∧ b ≤ 90) ∨ (97 ≤ b ∧ b ≤ 122)) ∧ letter b = true ∨ ¬ ((65 ≤ b ∧ b ≤ 90) ∨ (97 ≤ b ∧ b ≤ 122)) ∧ letter b = false := by
    by_cases h : (65 ≤ b ∧ b ≤ 90) ∨ (97 ≤ b ∧ b ≤ 122)
    · exact .inl ⟨h, by unfold letter; exact decide_eq_true h⟩
    · exact .inr ⟨h, by unfold letter; exact decide_eq_false h⟩
  rcases hls with ⟨ha, hl⟩ | ⟨ha, hl⟩
  all_goals
    rw [hl] at HL0
    have HL := Lib.hid HL0
    have HA := Lib.hid ha
    clear hl HL0 ha
    go_enter Tryd.func67, Tryd.ntmps67
    go_wp2_with fail
    all_goals
      try
        refine HL.out.mono ?_
        rintro e w1 ⟨rfl, hb⟩
        have HB := Lib.hid hb
        clear hb HL
        go_wp2_with fail
    all_goals
      have ha := HA.out
      clear HA
      go_ret
      refine ⟨congrArg (fun z => Ending.returned (Value.bool z)) ?_, ?_⟩
      · rw [Bool.eq_iff_iff, isOf1]
        simp only [decide_eq_true_eq, Bool.or_eq_true, Bool.and_eq_true, bne_iff_ne, beq_iff_eq, true_iff, reduceCtorEq, false_iff]
        omega
      · first | exact Below.refl _ _ | exact HB.out
set_option maxRecDepth 100000 in
set_option maxHeartbeats 1000000 in
theorem is4 (b : Int) (w : World) : Calls Tryd.prog 67 #[.int .i64 4, .int .u8 b] w fun e w' => e = .returned (.bool (isOf 4 b)) ∧ Below w.heap.size w w' := by
  have HL0 := isLetter_calls b w
  have hls : ((65 ≤ b ∧ b ≤ 90) ∨ (97 ≤ b ∧ b ≤ 122)) ∧ letter b = true ∨ ¬ ((65 ≤ b ∧ b ≤ 90) ∨ (97 ≤ b ∧ b ≤ 122)) ∧ letter b = false := by
    by_cases h : (65 ≤ b ∧ b ≤ 90) ∨ (97 ≤ b ∧ b ≤ 122)
    · exact .inl ⟨h, by unfold letter; exact decide_eq_true h⟩
    · exact .inr ⟨h, by unfold letter; exact decide_eq_false h⟩
  rcases hls with ⟨ha, hl⟩ | ⟨ha, hl⟩
  all_goals
    rw [hl] at HL0
    have HL := Lib.hid HL0
    have HA := Lib.hid ha
    clear hl HL0 ha
    go_enter Tryd.func67, Tryd.ntmps67
    go_wp2_with fail
    all_goals
      try
        refine HL.out.mono ?_
        rintro e w1 ⟨rfl, hb⟩
        have HB := Lib.hid hb
        clear hb HL
        go_wp2_with fail
    all_goals
      have ha := HA.out
      clear HA
      go_ret
      refine ⟨congrArg (fun z => Ending.returned (Value.bool z)) ?_, ?_⟩
      · rw [Bool.eq_iff_iff, isOf4]
        simp only [decide_eq_true_eq, Bool.or_eq_true, Bool.and_eq_true, bne_iff_ne, beq_iff_eq, true_iff, reduceCtorEq, false_iff]
        omega
      · first | exact Below.refl _ _ | exact HB.out
set_option maxRecDepth 100000 in
set_option maxHeartbeats 1000000 in
theorem is2 (b : Int) (w : World) : Calls Tryd.prog 67 #[.int .i64 2, .int .u8 b] w fun e w' => e = .returned (.bool (isOf 2 b)) ∧ Below w.heap.size w w' := by
  have HL0 := isLetter_calls b w
  have hls : ((65 ≤ b ∧ b ≤ 90) ∨ (97 ≤ b ∧ b ≤ 122)) ∧ letter b = true ∨ ¬ ((65 ≤ b ∧ b ≤ 90) ∨ (97 ≤ b ∧ b ≤ 122)) ∧ letter b = false := by
    by_cases h : (65 ≤ b ∧ b ≤ 90) ∨ (97 ≤ b ∧ b ≤ 122)
    · exact .inl ⟨h, by unfold letter; exact decide_eq_true h⟩
    · exact .inr ⟨h, by unfold letter; exact decide_eq_false h⟩
  rcases hls with ⟨ha, hl⟩ | ⟨ha, hl⟩
  all_goals
    rw [hl] at HL0
    have HL := Lib.hid HL0
    have HA := Lib.hid ha
    clear hl HL0 ha
    go_enter Tryd.func67, Tryd.ntmps67
    go_wp2_with fail
    all_goals
      try
        refine HL.out.mono ?_
        rintro e w1 ⟨rfl, hb⟩
        have HB := Lib.hid hb
        clear hb HL
        go_wp2_with fail
    all_goals
      have ha := HA.out
      clear HA
      go_ret
      refine ⟨congrArg (fun z => Ending.returned (Value.bool z)) ?_, ?_⟩
      · rw [Bool.eq_iff_iff, isOf2]
        simp only [decide_eq_true_eq, Bool.or_eq_true, Bool.and_eq_true, bne_iff_ne, beq_iff_eq, true_iff, reduceCtorEq, false_iff]
        omega
      · first | exact Below.refl _ _ | exact HB.out
set_option maxRecDepth 100000 in
set_option maxHeartbeats 1000000 in
theorem is3 (b : Int) (w : World) : Calls Tryd.prog 67 #[.int .i64 3, .int .u8 b] w fun e w' => e = .returned (.bool (isOf 3 b)) ∧ Below w.heap.size w w' := by
  rcases (by omega : (¬ 33 ≤ b ∧ ¬ b = 47 ∧ ¬ b = 95 ∧ ¬ b = 46 ∧ ¬ b = 45 ∧ ¬ 48 ≤ b) ∨ (33 ≤ b ∧ ¬ b ≤ 126 ∧ ¬ b = 47 ∧ ¬ b = 95 ∧ ¬ b = 46 ∧ ¬ b = 45 ∧ 48 ≤ b ∧ ¬ b ≤ 57) ∨ b = 44 ∨ b = 124 ∨ (33 ≤ b ∧ b ≤ 126 ∧ ¬ b = 44 ∧ ¬ b = 124))
    with ⟨h1, h2, h3, h4, h5, h6⟩ | ⟨h1, h2, h3, h4, h5, h6, h7, h8⟩ | rfl | rfl | ⟨h1, h2, h3, h4⟩
  · have ho : isOf 3 b = false := by rw [Bool.eq_false_iff, ne_eq, isOf3]; omega
    have hl : letter b = false := by unfold letter; exact decide_eq_false (by omega)
    have HL := Lib.hid (isLetter_calls b w)
    rw [hl] at HL
    rw [ho]
    clear hl ho
    go_enter Tryd.func67, Tryd.ntmps67
    go_wp2_with fail
    refine HL.out.mono ?_
    rintro e w1 ⟨rfl, hb⟩
    have HB := Lib.hid hb
    clear hb HL
    go_wp2_with fail
    go_ret
    refine ⟨congrArg (fun z => Ending.returned (Value.bool z)) ?_, HB.out⟩
    rw [Bool.eq_false_iff, ne_eq]
    simp only [decide_eq_true_eq, Bool.or_eq_true, beq_iff_eq]
    omega
  · have ho : isOf 3 b = false := by rw [Bool.eq_false_iff, ne_eq, isOf3]; omega
    have hl : letter b = false := by unfold letter; exact decide_eq_false (by omega)
    have HL := Lib.hid (isLetter_calls b w)
    rw [hl] at HL
    rw [ho]
    clear hl ho
    go_enter Tryd.func67, Tryd.ntmps67
    go_wp2_with fail
    refine HL.out.mono ?_
    rintro e w1 ⟨rfl, hb⟩
    have HB := Lib.hid hb
    clear hb HL
    go_wp2_with fail
    go_ret
    refine ⟨congrArg (fun z => Ending.returned (Value.bool z)) ?_, HB.out⟩
    rw [Bool.eq_false_iff, ne_eq]
    simp only [decide_eq_true_eq, Bool.or_eq_true, beq_iff_eq]
    omega
  · have ho : isOf 3 44 = false := by decide
    have hl : letter 44 = false := by decide
    have HL := Lib.hid (isLetter_calls 44 w)
    rw [hl] at HL
    rw [ho]
    clear hl ho
    go_enter Tryd.func67, Tryd.ntmps67
    go_wp2_with fail
    refine HL.out.mono ?_
    rintro e w1 ⟨rfl, hb⟩
    have HB := Lib.hid hb
    clear hb HL
    go_wp2_with fail
    go_ret
    exact ⟨rfl, HB.out⟩
  · have ho : isOf 3 124 = false := by decide
    have hl : letter 124 = false := by decide
    have HL := Lib.hid (isLetter_calls 124 w)
    rw [hl] at HL
    rw [ho]
    clear hl ho
    go_enter Tryd.func67, Tryd.ntmps67
    go_wp2_with fail
    refine HL.out.mono ?_
    rintro e w1 ⟨rfl, hb⟩
    have HB := Lib.hid hb
    clear hb HL
    go_wp2_with fail
    go_ret
    exact ⟨rfl, HB.out⟩
  · have ho : isOf 3 b = true := by rw [isOf3]; omega
    rw [ho]
    clear ho
    go_enter Tryd.func67, Tryd.ntmps67
    go_wp2_with fail
    go_ret
    exact ⟨rfl, Below.refl _ _⟩
set_option maxRecDepth 100000 in
set_option maxHeartbeats 1000000 in
theorem is0 (c b : Int) (w : World) (h1 : ¬ c = 3) (h2 : ¬ c = 2) (h3 : ¬ c = 1) (h4 : ¬ c = 4) : Calls Tryd.prog 67 #[.int .i64 c, .int .u8 b] w fun e w' => e = .returned (.bool (isOf c b)) ∧ Below w.heap.size w w' := by
  have HL0 := isLetter_calls b w
  have hls : ((65 ≤ b ∧ b ≤ 90) ∨ (97 ≤ b ∧ b ≤ 122)) ∧ letter b = true ∨ ¬ ((65 ≤ b ∧ b ≤ 90) ∨ (97 ≤ b ∧ b ≤ 122)) ∧ letter b = false := by
    by_cases h : (65 ≤ b ∧ b ≤ 90) ∨ (97 ≤ b ∧ b ≤ 122)
    · exact .inl ⟨h, by unfold letter; exact decide_eq_true h⟩
    · exact .inr ⟨h, by unfold letter; exact decide_eq_false h⟩
  rcases hls with ⟨ha, hl⟩ | ⟨ha, hl⟩
  all_goals
    rw [hl] at HL0
    have HL := Lib.hid HL0
    have HA := Lib.hid ha
    clear hl HL0 ha
    go_enter Tryd.func67, Tryd.ntmps67
    go_wp2_with fail
    all_goals
      try
        refine HL.out.mono ?_
        rintro e w1 ⟨rfl, hb⟩
        have HB := Lib.hid hb
        clear hb HL
        go_wp2_with fail
    all_goals
      have ha := HA.out
      clear HA
      go_ret
      refine ⟨congrArg (fun z => Ending.returned (Value.bool z)) ?_, ?_⟩
      · rw [Bool.eq_iff_iff, isOf0 h1 h2 h3 h4]
        simp only [decide_eq_true_eq, Bool.or_eq_true, Bool.and_eq_true, bne_iff_ne, beq_iff_eq, true_iff, reduceCtorEq, false_iff]
        omega
      · first | exact Below.refl _ _ | exact HB.out

theorem is_calls (c b : Int) (w : World) : Calls Tryd.prog 67 #[.int .i64 c, .int .u8 b] w fun e w' => e = .returned (.bool (isOf c b)) ∧ Below w.heap.size w w' := by
  rcases (by omega : c = 3 ∨ c = 2 ∨ c = 1 ∨ c = 4 ∨ (¬ c = 3 ∧ ¬ c = 2 ∧ ¬ c = 1 ∧ ¬ c = 4)) with rfl | rfl | rfl | rfl | ⟨h1, h2, h3, h4⟩
  · exact is3 b w
  · exact is2 b w
  · exact is1 b w
  · exact is4 b w
  · exact is0 c b w h1 h2 h3 h4
end Go.Proofs.YtmaiggoinjldpaaDoor

/-
  Package class: Bad, Text, Count. No statement of the seat is proved here.
-/
namespace Go.Proofs.YtmaiggoinjldpaaDoor
open Go.RowKit

/-- The first byte that is not of a class; -1: none. -/
def bad (c : Int) (l : List UInt8) : Int := match l.findIdx? (fun b => !isOf c b.toNat) with | some i => (i : Int) | none => -1
theorem bad_at {c : Int} {l : List UInt8} {k : Nat} (hk : k < l.length) (ha : ∀ i (h : i < l.length), i < k → isOf c l[i].toNat = true) (hb : isOf c l[k].toNat = false) : bad c l = k := by
  unfold bad
  rw [(List.findIdx?_eq_some_iff_getElem (i := k)).mpr ⟨hk, by simp [hb], fun j hj => by simp [ha j (by omega) hj]⟩]
theorem bad_none {c : Int} {l : List UInt8} (ha : ∀ i (h : i < l.length), isOf c l[i].toNat = true) : bad c l = -1 := by
  unfold bad
  rw [List.findIdx?_eq_none_iff.mpr]
  intro x hx
  obtain ⟨i, hi, rfl⟩ := List.mem_iff_getElem.mp hx
  simp [ha i hi]
theorem bad_cases (c : Int) (l : List UInt8) : (∃ k : Nat, ∃ h : k < l.length, bad c l = k ∧ isOf c l[k].toNat = false ∧ ∀ i (h : i < l.length), i < k → isOf c l[i].toNat = true) ∨ (bad c l = -1 ∧ ∀ i (h : i < l.length), isOf c l[i].toNat = true) := by
  cases hf : l.findIdx? (fun b => !isOf c b.toNat) with
  | none =>
    refine .inr ⟨by unfold bad; rw [hf], fun i h => ?_⟩
    have := List.findIdx?_eq_none_iff.mp hf l[i] (List.getElem_mem h)
    simpa using this
  | some k =>
    obtain ⟨hk, hp, hj⟩ := List.findIdx?_eq_some_iff_getElem.mp hf
    refine .inl ⟨k, hk, by unfold bad; rw [hf], by simpa using hp, fun i h hi => ?_⟩
    have := hj i hi
    simpa using this

/-- What Bad answers. -/
def badC (c : Int) (l : List UInt8) : Int := if isCls c then bad c l else 0
def errC (c : Int) : Int := if isCls c then 0 else 1
def Bads (w : World) (c : Int) (l : List UInt8) (e : Ending) (w' : World) : Prop := e = .returned (.tuple #[.int .i64 (badC c l), .int .i64 (errC c)]) ∧ Below w.heap.size w w'
theorem bads_of {w w' : World} {c : Int} {l : List UInt8} {n : Int} (hc : isCls c = true) (h : bad c l = n) (hb : Below w.heap.size w w') : Bads w c l (.returned (.tuple #[.int .i64 n, .int .i64 0])) w' := by
  refine ⟨?_, hb⟩
  unfold badC errC
  rw [if_pos hc, if_pos hc, h]
theorem bads_none {w w' : World} {c : Int} {l : List UInt8} (hc : isCls c = false) (hb : Below w.heap.size w w') : Bads w c l (.returned (.tuple #[.int .i64 0, .int .i64 1])) w' := by
  refine ⟨?_, hb⟩
  unfold badC errC
  rw [hc]
  rfl

set_option maxRecDepth 100000 in
set_option maxHeartbeats 2000000 in
theorem bad_calls (c : Int) (s : ByteArray) (l : List UInt8) (h : Str s l) (hz : (s.size : Int) ≤ 100000) (w : World) : Calls Tryd.prog 44 #[.int .i64 c, .string s] w (Bads w c l) := by
  have HS := Lib.hid h
  have hn : s.size = l.length := h.size
  have HC := Lib.hid (isClass_calls c w)
  clear h
  obtain ⟨q, hq⟩ : ∃ q, q = isCls c := ⟨_, rfl⟩
  rw [← hq] at HC
  have HQ := Lib.hid hq
  clear hq
  rcases q with _ | _
  · go_enter Tryd.func44, Tryd.ntmps44
    go_wp2_with fail
    refine HC.out.mono ?_
    rintro e w1 ⟨rfl, hb⟩
    have HB := Lib.hid hb
    clear hb HC
    go_wp2_with fail
    go_ret2
    exact bads_none HQ.out.symm HB.out
  · go_enter Tryd.func44, Tryd.ntmps44
    go_wp2_with fail
    refine HC.out.mono ?_
    rintro e w1 ⟨rfl, hb⟩
    have HB := Lib.hid hb
    clear hb HC
    go_wp2_with fail
    go_loopw [12] (fun v12 wr => ∃ k : Nat, v12 = .int .i64 k ∧ k ≤ l.length ∧ Hid (Below w.heap.size w wr ∧ ∀ i (h : i < l.length), i < k → isOf c l[i].toNat = true)) (fun v12 _ => l.length - (intOf v12).toNat)
    case atStart => exact ⟨0, rfl, by omega, ⟨HB.out, fun i h hi => absurd hi (by omega)⟩⟩
    case round =>
      obtain ⟨k, rfl, hkl, hrel⟩ := hrel
      clear HB
      by_cases hlt : k < l.length
      · have hidx := HS.out.index (i := (k : Int)) k rfl hlt
        have hlt' : (k : Int) < (s.size : Int) := by omega
        have hbb := is_calls c (l[k].toNat : Int) wr
        obtain ⟨x, hx⟩ : ∃ x : Int, x = (l[k].toNat : Int) := ⟨_, rfl⟩
        rw [← hx] at hidx hbb
        obtain ⟨o, ho⟩ : ∃ o, o = isOf c x := ⟨_, rfl⟩
        rw [← ho] at hbb
        have HO := Lib.hid (And.intro hx ho)
        have HI := Lib.hid hbb
        clear hx ho hbb
        rcases o with _ | _
        · go_wp2_with fail
          refine HI.out.mono ?_
          rintro e w2 ⟨rfl, hb⟩
          have HB := Lib.hid (Below.trans hrel.out.1 (hb.mono hrel.out.1.size))
          clear hb HI
          go_wp2_with fail
          go_ret2
          exact bads_of HQ.out.symm (bad_at hlt hrel.out.2 (by have := HO.out; rw [← this.1]; exact this.2.symm)) HB.out
        · go_wp2_with fail
          refine HI.out.mono ?_
          rintro e w2 ⟨rfl, hb⟩
          have HB := Lib.hid (Below.trans hrel.out.1 (hb.mono hrel.out.1.size))
          clear hb HI
          go_wp2_with fail
          refine ⟨⟨k + 1, by go_num, by omega, ⟨HB.out, ?_⟩⟩, by simp [intOf]; omega⟩
          intro i hi hik
          rcases Nat.lt_or_ge i k with h1 | h1
          · exact hrel.out.2 i hi h1
          · obtain rfl : k = i := by omega
            have := HO.out; rw [← this.1]; exact this.2.symm
      · have hlt' : ¬ (k : Int) < (s.size : Int) := by omega
        go_wp2_with fail
        go_ret2
        exact bads_of HQ.out.symm (bad_none (fun i hi => hrel.out.2 i hi (by omega))) hrel.out.1
end Go.Proofs.YtmaiggoinjldpaaDoor

/-
  Package class: Text. No statement of the seat is proved here.
-/
namespace Go.Proofs.YtmaiggoinjldpaaDoor
open Go.RowKit

/-- How a text is wrong. -/
def faultOf (c : Int) (l : List UInt8) (lo hi : Int) : Int × Int :=
  if isCls c = false ∨ lo < 0 ∨ hi < lo then (1, 0) else if (l.length : Int) < lo then (13, l.length) else if hi < (l.length : Int) then (12, hi) else if 0 ≤ bad c l then (14, bad c l) else (0, 0)
def Faults (w : World) (r : Int × Int) (e : Ending) (w' : World) : Prop := e = .returned (.agg #[.int .i64 r.1, .int .i64 r.2]) ∧ Below w.heap.size w w'

theorem load_fault {w : World} {g : Nat} {x y : Value} (h : Box w g 29 [x, y]) : (loadVar 29 ⟨g, 0, none⟩).run Tryd.prog w = .ok (.agg #[x, y]) w := by
  have c0 : w.cell? ⟨g, 0, none⟩ = some x := h.cell 0
  have c1 : w.cell? ⟨g, 1, none⟩ = some y := h.cell 1
  simp [go_sem, c0, c1]
theorem addr_is (w : World) (g : Nat) : (asAddr (.pointer (some ⟨g, 0, none⟩))).run Tryd.prog w = .ok ⟨g, 0, none⟩ w := by simp [asAddr]
theorem results_cell1 {fn : Func} {p : Tmp} {ty : TypeId} (h : fn.results = #[.cell p ty]) (tmps : Array Value) (w : World) :
    (results fn tmps).run Tryd.prog w = ((asAddr (tmps.getD p undef)).run Tryd.prog w).andThen fun a w1 => (loadVar ty a).run Tryd.prog w1 := by
  simp only [results, h]
  simp [Sem.run_bind, Result.andThen]
/-- A Fault is returned. -/
theorem ret_fault {fn : Func} {p : Tmp} (hres : fn.results = #[.cell p 29]) {R : Ending → World → Prop} {a : Act} {w : World} {g : Nat} {x y : Value} (hp : a.tmps.getD p undef = .pointer (some ⟨g, 0, none⟩)) (hd : a.defers = [])
    (hb : Box w g 29 [x, y]) (hR : R (.returned (.agg #[x, y])) w) : bodyPost Tryd.prog fn R .ret a w := by
  refine bodyPost_ret ?_ hd hR
  rw [results_cell1 hres, hp, addr_is]
  simp only [Result.andThen]
  rw [load_fault hb]

/-- The fault, as it is stored. -/
def laidF (w wr : World) (x y : Value) : World := (wr.setCell ⟨w.heap.size, 0, none⟩ x).setCell ⟨w.heap.size, 1, none⟩ y
theorem laidF_is {w wr : World} {f0 f1 : Value} (hf : Box wr w.heap.size 29 [f0, f1]) (hk : Below w.heap.size w wr) (x y : Value) : Box (laidF w wr x y) w.heap.size 29 [x, y] ∧ Below w.heap.size w (laidF w wr x y) :=
  ⟨(hf.set 0 x).set 1 y, (hk.setCell (p := ⟨w.heap.size, 0, none⟩) (Nat.le_refl _) _).setCell (p := ⟨w.heap.size, 1, none⟩) (Nat.le_refl _) _⟩
theorem faults_of {w w' : World} {r : Int × Int} {a b : Int} (h : r = (a, b)) (hb : Below w.heap.size w w') : Faults w r (.returned (.agg #[.int .i64 a, .int .i64 b])) w' := by
  rw [h]; exact ⟨rfl, hb⟩

set_option maxRecDepth 100000 in
set_option maxHeartbeats 2000000 in
theorem text_calls (c : Int) (s : ByteArray) (l : List UInt8) (h : Str s l) (hz : (s.size : Int) ≤ 100000) (lo hi : Int) (w : World) : Calls Tryd.prog 20 #[.int .i64 c, .string s, .int .i64 lo, .int .i64 hi] w (Faults w (faultOf c l lo hi)) := by
  have hn : s.size = l.length := h.size
  have HC := Lib.hid (isClass_calls c)
  have HK := Lib.hid (bad_calls c s l h hz)
  clear h
  obtain ⟨q, hq⟩ : ∃ q, q = isCls c := ⟨_, rfl⟩
  rw [← hq] at HC
  have HQ := Lib.hid hq
  clear hq
  have b0 := Box.new w 29 [.int .i64 0, .int .i64 0]
  go_enter Tryd.func20, Tryd.ntmps20
  go_wp2_with fail
  refine (HC.out _).mono ?_
  rintro e w1 ⟨rfl, hb⟩
  have b1 := b0.keep hb
  have HB := Lib.hid (And.intro b1 (Below.trans ((Below.refl w.heap.size w).alloc (Nat.le_refl _) (.cells #[.int .i64 0, .int .i64 0] 29)) (hb.mono (by simp))))
  have c0 : w1.cell? ⟨w.heap.size, 0, none⟩ = some (.int .i64 0) := b1.cell 0
  have c1 : w1.cell? ⟨w.heap.size, 1, none⟩ = some (.int .i64 0) := b1.cell 1
  have f0 := b1.frozen 0
  have f1 := b1.frozen 1
  clear hb HC b0 b1
  rcases (by cases q <;> simp <;> omega : q = false ∨ (q = true ∧ lo < 0) ∨ (q = true ∧ ¬ lo < 0 ∧ hi < lo) ∨ (q = true ∧ ¬ lo < 0 ∧ ¬ hi < lo ∧ (s.size : Int) < lo) ∨ (q = true ∧ ¬ lo < 0 ∧ ¬ hi < lo ∧ ¬ (s.size : Int) < lo ∧ hi < (s.size : Int)) ∨ (q = true ∧ ¬ lo < 0 ∧ ¬ hi < lo ∧ ¬ (s.size : Int) < lo ∧ ¬ hi < (s.size : Int)))
    with rfl | ⟨rfl, h1⟩ | ⟨rfl, h1, h2⟩ | ⟨rfl, h1, h2, h3⟩ | ⟨rfl, h1, h2, h3, h4⟩ | ⟨rfl, h1, h2, h3, h4⟩
  · have hr : faultOf c l lo hi = (1, 0) := by unfold faultOf; rw [if_pos (.inl HQ.out.symm)]
    have HR := Lib.hid hr
    clear hr
    go_wp2_with fail
    exact ret_fault rfl rfl rfl (laidF_is HB.out.1 HB.out.2 _ _).1 (faults_of HR.out (laidF_is HB.out.1 HB.out.2 _ _).2)
  · have hr : faultOf c l lo hi = (1, 0) := by unfold faultOf; rw [if_pos (.inr (.inl h1))]
    have HR := Lib.hid hr
    clear hr
    go_wp2_with fail
    exact ret_fault rfl rfl rfl (laidF_is HB.out.1 HB.out.2 _ _).1 (faults_of HR.out (laidF_is HB.out.1 HB.out.2 _ _).2)
  · have hr : faultOf c l lo hi = (1, 0) := by unfold faultOf; rw [if_pos (.inr (.inr h2))]
    have HR := Lib.hid hr
    clear hr
    go_wp2_with fail
    exact ret_fault rfl rfl rfl (laidF_is HB.out.1 HB.out.2 _ _).1 (faults_of HR.out (laidF_is HB.out.1 HB.out.2 _ _).2)
  · have hr : faultOf c l lo hi = (13, (l.length : Int)) := by
      unfold faultOf; rw [if_neg, if_pos (by omega)]
      have := HQ.out; simp [← this]; omega
    have HR := Lib.hid hr
    clear hr
    go_wp2_with fail
    exact ret_fault rfl rfl rfl (laidF_is HB.out.1 HB.out.2 _ _).1 (faults_of HR.out (laidF_is HB.out.1 HB.out.2 _ _).2)
  · have hr : faultOf c l lo hi = (12, hi) := by
      unfold faultOf; rw [if_neg, if_neg (by omega), if_pos (by omega)]
      have := HQ.out; simp [← this]; omega
    have HR := Lib.hid hr
    clear hr
    go_wp2_with fail
    exact ret_fault rfl rfl rfl (laidF_is HB.out.1 HB.out.2 _ _).1 (faults_of HR.out (laidF_is HB.out.1 HB.out.2 _ _).2)
  · have hr : faultOf c l lo hi = if 0 ≤ bad c l then (14, bad c l) else (0, 0) := by
      unfold faultOf; rw [if_neg, if_neg (by omega), if_neg (by omega)]
      have := HQ.out; simp [← this]; omega
    have hbc : badC c l = bad c l := by unfold badC; rw [← HQ.out]; rfl
    obtain ⟨z, hz'⟩ : ∃ z, z = bad c l := ⟨_, rfl⟩
    rw [← hz'] at hr hbc
    have HR := Lib.hid hr
    have HZ := Lib.hid hbc
    clear hr hbc hz' c0 c1 f0 f1
    go_wp2_with fail
    refine (HK.out _).mono ?_
    rintro e w2 ⟨rfl, hb⟩
    rw [HZ.out]
    have b2 := HB.out.1.keep hb
    have HB2 := Lib.hid (And.intro b2 (Below.trans HB.out.2 (hb.mono HB.out.2.size)))
    have c0 : w2.cell? ⟨w.heap.size, 0, none⟩ = some (.int .i64 0) := b2.cell 0
    have c1 : w2.cell? ⟨w.heap.size, 1, none⟩ = some (.int .i64 0) := b2.cell 1
    have f0 := b2.frozen 0
    have f1 := b2.frozen 1
    clear hb b2 HB HK HZ
    by_cases hz0 : 0 ≤ z
    · have HR2 := Lib.hid (show faultOf c l lo hi = (14, z) by rw [HR.out, if_pos hz0])
      clear HR
      go_wp2_with fail
      exact ret_fault rfl rfl rfl (laidF_is HB2.out.1 HB2.out.2 _ _).1 (faults_of HR2.out (laidF_is HB2.out.1 HB2.out.2 _ _).2)
    · have HR2 := Lib.hid (show faultOf c l lo hi = (0, 0) by rw [HR.out, if_neg hz0])
      clear HR
      go_wp2_with fail
      exact ret_fault rfl rfl rfl (laidF_is HB2.out.1 HB2.out.2 _ _).1 (faults_of HR2.out (laidF_is HB2.out.1 HB2.out.2 _ _).2)
end Go.Proofs.YtmaiggoinjldpaaDoor

/-
  Layer 4: the document's answer (lists of bytes). No statement of the seat is proved here.
-/
namespace Go.Proofs.YtmaiggoinjldpaaDoor
open Go.RowKit

def dLst : List UInt8 := [48, 49, 50, 51, 52, 53, 54, 55, 56, 57]
def aLst : List UInt8 := [65, 66, 67, 68, 69, 70, 71, 72, 73, 74, 75, 76, 77, 78, 79, 80, 81, 82, 83, 84, 85, 86, 87, 88, 89, 90, 97, 98, 99, 100, 101, 102, 103, 104, 105, 106, 107, 108, 109, 110, 111, 112, 113, 114, 115, 116, 117, 118, 119, 120, 121, 122]
def vLst : List UInt8 := [47, 33, 34, 35, 36, 37, 38, 39, 40, 41, 42, 43, 58, 59, 60, 61, 62, 63, 64, 91, 92, 93, 94, 96, 123, 125, 126]
def nLst : List UInt8 := aLst ++ dLst ++ [95, 46, 45]
/-- The bytes of a class, as the document's answer lists them. -/
def rList (k : Int) : List UInt8 := if k = 1 then nLst else if k = 2 then nLst ++ [47] else if k = 3 then nLst ++ vLst else if k = 4 then dLst else []
def rIs (k x : Int) : Bool := (rList k).any fun b => (b.toNat : Int) == x

theorem dLst_str : Str ⟨#[48, 49, 50, 51, 52, 53, 54, 55, 56, 57]⟩ dLst := rfl
theorem aLst_str : Str ⟨#[65, 66, 67, 68, 69, 70, 71, 72, 73, 74, 75, 76, 77, 78, 79, 80, 81, 82, 83, 84, 85, 86, 87, 88, 89, 90, 97, 98, 99, 100, 101, 102, 103, 104, 105, 106, 107, 108, 109, 110, 111, 112, 113, 114, 115, 116, 117, 118, 119, 120, 121, 122]⟩ aLst := rfl
theorem vLst_str : Str ⟨#[47, 33, 34, 35, 36, 37, 38, 39, 40, 41, 42, 43, 58, 59, 60, 61, 62, 63, 64, 91, 92, 93, 94, 96, 123, 125, 126]⟩ vLst := rfl
theorem nLst_str : Str ((⟨#[65, 66, 67, 68, 69, 70, 71, 72, 73, 74, 75, 76, 77, 78, 79, 80, 81, 82, 83, 84, 85, 86, 87, 88, 89, 90, 97, 98, 99, 100, 101, 102, 103, 104, 105, 106, 107, 108, 109, 110, 111, 112, 113, 114, 115, 116, 117, 118, 119, 120, 121, 122]⟩ : ByteArray) ++ ⟨#[48, 49, 50, 51, 52, 53, 54, 55, 56, 57]⟩ ++ ⟨#[95, 46, 45]⟩) nLst :=
  (aLst_str.append dLst_str).append (b := [95, 46, 45]) rfl

theorem rIs_key : ∀ b : Fin 256, (rIs 0 b.val = false ∧ isOf 0 b.val = false) ∧ rIs 1 b.val = isOf 1 b.val ∧ rIs 2 b.val = isOf 2 b.val ∧ rIs 3 b.val = isOf 3 b.val ∧ rIs 4 b.val = isOf 4 b.val := by decide +kernel
theorem rIs_is {c x : Int} (hc : isCls c = true) (h0 : 0 ≤ x) (h1 : x < 256) : rIs c x = isOf c x := by
  obtain ⟨n, rfl⟩ : ∃ n : Nat, x = n := ⟨x.toNat, by omega⟩
  have h := rIs_key ⟨n, by omega⟩
  unfold isCls at hc
  rw [decide_eq_true_eq] at hc
  rcases (by omega : c = 1 ∨ c = 2 ∨ c = 3 ∨ c = 4) with rfl | rfl | rfl | rfl
  · exact h.2.1
  · exact h.2.2.1
  · exact h.2.2.2.1
  · exact h.2.2.2.2

theorem rList_len (k : Int) : (rList k).length ≤ 100 := by
  unfold rList
  repeat' split
  all_goals decide

set_option maxRecDepth 100000 in
set_option maxHeartbeats 2000000 in
theorem bytes_calls (k : Int) (w : World) : Calls Tryd.prog 101 #[.int .i64 k] w fun e w' => (∃ s, e = .returned (.string s) ∧ Str s (rList k)) ∧ Below w.heap.size w w' := by
  rcases (by omega : k = 1 ∨ k = 2 ∨ k = 3 ∨ k = 4 ∨ (¬ k = 1 ∧ ¬ k = 2 ∧ ¬ k = 3 ∧ ¬ k = 4)) with rfl | rfl | rfl | rfl | ⟨h1, h2, h3, h4⟩
  · go_enter Tryd.func101, Tryd.ntmps101
    go_wp2_with fail
    go_ret
    exact ⟨⟨_, rfl, nLst_str⟩, Below.refl _ _⟩
  · go_enter Tryd.func101, Tryd.ntmps101
    go_wp2_with fail
    go_ret
    exact ⟨⟨_, rfl, nLst_str.append (b := [47]) rfl⟩, Below.refl _ _⟩
  · go_enter Tryd.func101, Tryd.ntmps101
    go_wp2_with fail
    go_ret
    exact ⟨⟨_, rfl, nLst_str.append vLst_str⟩, Below.refl _ _⟩
  · go_enter Tryd.func101, Tryd.ntmps101
    go_wp2_with fail
    go_ret
    exact ⟨⟨_, rfl, dLst_str⟩, Below.refl _ _⟩
  · go_enter Tryd.func101, Tryd.ntmps101
    go_wp2_with fail
    go_ret
    exact ⟨⟨_, rfl, by unfold rList; rw [if_neg h1, if_neg h2, if_neg h3, if_neg h4]; rfl⟩, Below.refl _ _⟩

theorem rIs_yes {k x : Int} {i : Nat} (h : i < (rList k).length) (hx : ((rList k)[i].toNat : Int) = x) : rIs k x = true := by
  unfold rIs
  rw [List.any_eq_true]
  exact ⟨_, List.getElem_mem h, by simp [hx]⟩
theorem rIs_no {k x : Int} (h : ∀ i (h : i < (rList k).length), ((rList k)[i].toNat : Int) ≠ x) : rIs k x = false := by
  unfold rIs
  rw [List.any_eq_false]
  intro b hb
  obtain ⟨i, hi, rfl⟩ := List.mem_iff_getElem.mp hb
  simp [h i hi]

set_option maxRecDepth 100000 in
set_option maxHeartbeats 2000000 in
theorem ris_calls (k x : Int) (w : World) : Calls Tryd.prog 86 #[.int .i64 k, .int .u8 x] w fun e w' => e = .returned (.bool (rIs k x)) ∧ Below w.heap.size w w' := by
  have HB := Lib.hid (bytes_calls k w)
  have hlen := rList_len k
  obtain ⟨q, hq⟩ : ∃ q, q = rIs k x := ⟨_, rfl⟩
  rw [← hq]
  have HQ := Lib.hid hq
  clear hq
  go_enter Tryd.func86, Tryd.ntmps86
  go_wp2_with fail
  refine HB.out.mono ?_
  rintro e w1 ⟨⟨s, rfl, hs⟩, hb⟩
  have hn := hs.size
  have HS := Lib.hid hs
  have HBB := Lib.hid hb
  clear hb hs HB
  go_wp2_with fail
  go_loopw [6] (fun v6 wr => ∃ i : Nat, v6 = .int .i64 i ∧ i ≤ (rList k).length ∧ w1 = wr ∧ Hid (∀ j (h : j < (rList k).length), j < i → ((rList k)[j].toNat : Int) ≠ x)) (fun v6 _ => (rList k).length - (intOf v6).toNat)
  case atStart => exact ⟨0, rfl, by omega, rfl, fun i h hi => absurd hi (by omega)⟩
  case round =>
    obtain ⟨i, rfl, hil, rfl, hrel⟩ := hrel
    by_cases hlt : i < (rList k).length
    · have hidx := HS.out.index (i := (i : Int)) i rfl hlt
      have hlt' : (i : Int) < (s.size : Int) := by omega
      obtain ⟨y, hy⟩ : ∃ y : Int, y = ((rList k)[i].toNat : Int) := ⟨_, rfl⟩
      rw [← hy] at hidx
      have HY := Lib.hid hy
      clear hy hn
      by_cases hxy : y = x
      · have HX := Lib.hid (show q = true by rw [HQ.out]; exact rIs_yes hlt (by rw [← HY.out]; exact hxy))
        subst hxy
        go_wp2_with fail
        go_ret
        exact ⟨by rw [HX.out]; first | done | rfl, HBB.out⟩
      · have hxy' : (y == x) = false := by simp [hxy]
        have HX := Lib.hid hxy
        clear hxy
        go_wp2_with fail
        refine ⟨⟨i + 1, by go_num, by omega, by trivial, ?_⟩, by simp [intOf]; omega⟩
        intro j hj hji
        rcases Nat.lt_or_ge j i with h1 | h1
        · exact hrel.out j hj h1
        · obtain rfl : i = j := by omega
          rw [← HY.out]; exact HX.out
    · have hlt' : ¬ (i : Int) < (s.size : Int) := by omega
      have HX := Lib.hid (show q = false by rw [HQ.out]; exact rIs_no (fun j hj => hrel.out j hj (by omega)))
      clear hn
      go_wp2_with fail
      go_ret
      exact ⟨by rw [HX.out]; first | done | rfl, HBB.out⟩

set_option maxRecDepth 100000 in
set_option maxHeartbeats 2000000 in
theorem rbad_calls (c : Int) (hc : isCls c = true) (s : ByteArray) (l : List UInt8) (h : Str s l) (hz : (s.size : Int) ≤ 100000) (w : World) : Calls Tryd.prog 68 #[.int .i64 c, .string s] w fun e w' => e = .returned (.int .i64 (bad c l)) ∧ Below w.heap.size w w' := by
  have HS := Lib.hid h
  have HC := Lib.hid hc
  have hn : s.size = l.length := h.size
  clear h hc
  obtain ⟨z, hz'⟩ : ∃ z, z = bad c l := ⟨_, rfl⟩
  rw [← hz']
  have HZ := Lib.hid hz'
  clear hz'
  go_enter Tryd.func68, Tryd.ntmps68
  go_wp2_with fail
  go_loopw [5] (fun v5 wr => ∃ k : Nat, v5 = .int .i64 k ∧ k ≤ l.length ∧ Hid (Below w.heap.size w wr ∧ ∀ i (h : i < l.length), i < k → isOf c l[i].toNat = true)) (fun v5 _ => l.length - (intOf v5).toNat)
  case atStart => exact ⟨0, rfl, by omega, ⟨Below.refl _ _, fun i h hi => absurd hi (by omega)⟩⟩
  case round =>
    obtain ⟨k, rfl, hkl, hrel⟩ := hrel
    by_cases hlt : k < l.length
    · have hidx := HS.out.index (i := (k : Int)) k rfl hlt
      have hlt' : (k : Int) < (s.size : Int) := by omega
      have hbb := ris_calls c (l[k].toNat : Int) wr
      rw [rIs_is HC.out (by omega) (by have := l[k].toNat_lt; omega)] at hbb
      obtain ⟨x, hx⟩ : ∃ x : Int, x = (l[k].toNat : Int) := ⟨_, rfl⟩
      rw [← hx] at hidx hbb
      obtain ⟨o, ho⟩ : ∃ o, o = isOf c x := ⟨_, rfl⟩
      rw [← ho] at hbb
      have HO := Lib.hid (And.intro hx ho)
      have HI := Lib.hid hbb
      clear hx ho hbb hn
      rcases o with _ | _
      · have HX := Lib.hid (show z = k by rw [HZ.out]; exact bad_at hlt hrel.out.2 (by have := HO.out; rw [← this.1]; exact this.2.symm))
        go_wp2_with fail
        refine HI.out.mono ?_
        rintro e w2 ⟨rfl, hb⟩
        have HB := Lib.hid (Below.trans hrel.out.1 (hb.mono hrel.out.1.size))
        clear hb HI
        go_wp2_with fail
        go_ret
        exact ⟨by rw [HX.out]; first | done | rfl, HB.out⟩
      · go_wp2_with fail
        refine HI.out.mono ?_
        rintro e w2 ⟨rfl, hb⟩
        have HB := Lib.hid (Below.trans hrel.out.1 (hb.mono hrel.out.1.size))
        clear hb HI
        go_wp2_with fail
        refine ⟨⟨k + 1, by go_num, by omega, ⟨HB.out, ?_⟩⟩, by simp [intOf]; omega⟩
        intro i hi hik
        rcases Nat.lt_or_ge i k with h1 | h1
        · exact hrel.out.2 i hi h1
        · obtain rfl : k = i := by omega
          have := HO.out; rw [← this.1]; exact this.2.symm
    · have hlt' : ¬ (k : Int) < (s.size : Int) := by omega
      have HX := Lib.hid (show z = -1 by rw [HZ.out]; exact bad_none (fun i hi => hrel.out.2 i hi (by omega)))
      clear hn
      go_wp2_with fail
      go_ret
      exact ⟨by rw [HX.out]; first | done | rfl, hrel.out.1⟩
end Go.Proofs.YtmaiggoinjldpaaDoor

/-
  Layer 4: the document's Text. No statement of the seat is proved here.
-/
namespace Go.Proofs.YtmaiggoinjldpaaDoor
open Go.RowKit

set_option maxRecDepth 100000 in
set_option maxHeartbeats 2000000 in
theorem rtext_calls (c : Int) (hc : isCls c = true) (s : ByteArray) (l : List UInt8) (h : Str s l) (hz : (s.size : Int) ≤ 100000) (lo hi : Int) (hlo : ¬ lo < 0) (hhi : ¬ hi < lo) (w : World) :
    Calls Tryd.prog 45 #[.int .i64 c, .string s, .int .i64 lo, .int .i64 hi] w (Faults w (faultOf c l lo hi)) := by
  have hn : s.size = l.length := h.size
  have HK := Lib.hid (rbad_calls c hc s l h hz)
  have HC := Lib.hid hc
  clear h hc
  have b0 := Box.new w 29 [.int .i64 0, .int .i64 0]
  have HB := Lib.hid (And.intro b0 ((Below.refl w.heap.size w).alloc (Nat.le_refl _) (.cells #[.int .i64 0, .int .i64 0] 29)))
  rcases (by omega : ((s.size : Int) < lo) ∨ (¬ (s.size : Int) < lo ∧ hi < (s.size : Int)) ∨ (¬ (s.size : Int) < lo ∧ ¬ hi < (s.size : Int))) with h3 | ⟨h3, h4⟩ | ⟨h3, h4⟩
  · have hr : faultOf c l lo hi = (13, (l.length : Int)) := by
      unfold faultOf; rw [if_neg, if_pos (by omega)]
      have := HC.out; simp [this]; omega
    have HR := Lib.hid hr
    clear hr
    go_enter Tryd.func45, Tryd.ntmps45
    go_wp2_with fail
    exact ret_fault rfl rfl rfl (Box.new w 29 [_, _]) (faults_of HR.out ((Below.refl w.heap.size w).alloc (Nat.le_refl _) _))
  · have hr : faultOf c l lo hi = (12, hi) := by
      unfold faultOf; rw [if_neg, if_neg (by omega), if_pos (by omega)]
      have := HC.out; simp [this]; omega
    have HR := Lib.hid hr
    clear hr
    go_enter Tryd.func45, Tryd.ntmps45
    go_wp2_with fail
    exact ret_fault rfl rfl rfl (Box.new w 29 [_, _]) (faults_of HR.out ((Below.refl w.heap.size w).alloc (Nat.le_refl _) _))
  · have hr : faultOf c l lo hi = if 0 ≤ bad c l then (14, bad c l) else (0, 0) := by
      unfold faultOf; rw [if_neg, if_neg (by omega), if_neg (by omega)]
      have := HC.out; simp [this]; omega
    obtain ⟨z, hz'⟩ : ∃ z, z = bad c l := ⟨_, rfl⟩
    rw [← hz'] at hr
    have HR := Lib.hid hr
    have HZ := Lib.hid hz'
    clear hr hz' b0
    go_enter Tryd.func45, Tryd.ntmps45
    go_wp2_with fail
    refine (HK.out _).mono ?_
    rintro e w2 ⟨rfl, hb⟩
    rw [← HZ.out]
    have b2 := HB.out.1.keep hb
    have HB2 := Lib.hid (And.intro b2 (Below.trans HB.out.2 (hb.mono HB.out.2.size)))
    have c0 : w2.cell? ⟨w.heap.size, 0, none⟩ = some (.int .i64 0) := b2.cell 0
    have c1 : w2.cell? ⟨w.heap.size, 1, none⟩ = some (.int .i64 0) := b2.cell 1
    have f0 := b2.frozen 0
    have f1 := b2.frozen 1
    clear hb b2 HB HK HZ
    by_cases hz0 : 0 ≤ z
    · have HR2 := Lib.hid (show faultOf c l lo hi = (14, z) by rw [HR.out, if_pos hz0])
      clear HR
      go_wp2_with fail
      exact ret_fault rfl rfl rfl (laidF_is HB2.out.1 HB2.out.2 _ _).1 (faults_of HR2.out (laidF_is HB2.out.1 HB2.out.2 _ _).2)
    · have HR2 := Lib.hid (show faultOf c l lo hi = (0, 0) by rw [HR.out, if_neg hz0])
      clear HR
      go_wp2_with fail
      exact ret_fault rfl rfl rfl (laidF_is HB2.out.1 HB2.out.2 _ _).1 (faults_of HR2.out (laidF_is HB2.out.1 HB2.out.2 _ _).2)
end Go.Proofs.YtmaiggoinjldpaaDoor
