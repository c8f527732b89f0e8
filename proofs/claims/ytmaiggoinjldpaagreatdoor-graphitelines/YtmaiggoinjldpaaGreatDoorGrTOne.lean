/-
  TOne, NRefParse, DCompare. No statement of the seat is proved here.
-/
import Derived.Test.YtmaiggoinjldpaaGreatDoorGrTText
import Derived.Test.YtmaiggoinjldpaaGreatDoorGrNPut
import Derived.Test.YtmaiggoinjldpaaGreatDoorGrKIs
import Derived.Test.YtmaiggoinjldpaaGreatDoorGrDLift
/-
  Package tag: textOf; the document's One. No statement of the seat is proved here.
-/
namespace Go.Proofs.YtmaiggoinjldpaaGreatDoor
open Go.RowKit

section
variable {s t : ByteArray} {a : Tg}
theorem txt_nil (h : a.2 = []) : txt a = a.1 := by unfold txt; rw [if_pos h]
theorem txt_some (h : a.2 ≠ []) : txt a = a.1 ++ [58] ++ a.2 := by unfold txt; rw [if_neg h]; simp
theorem str_empty {l : List UInt8} (h : Str t l) {q : Bool} (hq : decide (l = []) = q) : t.toList.isEmpty = q := by
  rw [h.toList, ← hq]
  cases l <;> simp

end
end Go.Proofs.YtmaiggoinjldpaaGreatDoor

/-
  Layer 5: the document's Value and Parse. No statement of the seat is proved here.
-/
namespace Go.Proofs.YtmaiggoinjldpaaGreatDoor
open Go.RowKit

def valued (v : Nat) : Int × Bool := if v ≤ MaxI then ((v : Int), true) else (0, false)

theorem valF_ge (v : Nat) (l : List UInt8) : v ≤ valF v l := by
  rw [valF_eq]
  have : v * 1 ≤ v * 10 ^ l.length := Nat.mul_le_mul_left _ (Nat.pos_of_ne_zero (by simp))
  omega
theorem val_take_le (l : List UInt8) (k : Nat) : val (l.take k) ≤ val l := by
  have h : val l = valF (val (l.take k)) (l.drop k) := by unfold val; rw [← valF_append, List.take_append_drop]
  rw [h]; exact valF_ge _ _

theorem nstr_empty {s : ByteArray} {l : List UInt8} (h : Str s l) : (s.toList = []) ↔ l = [] := by rw [h.toList]

end Go.Proofs.YtmaiggoinjldpaaGreatDoor

/-
  Contracts of package dec's sizes, order, Compare and Of. No statement of the seat is proved here.
-/
namespace Go.Proofs.YtmaiggoinjldpaaGreatDoor.Dc
open Go.RowKit

/-- -1, 0 or 1. -/
def cmpI (a b : Int) : Int := if a < b then -1 else if b < a then 1 else 0
theorem cmpI_scale (a b : Int) (k : Nat) (hk : 0 < k) : cmpI (a * k) (b * k) = cmpI a b := by
  unfold cmpI
  have h : ∀ x y : Int, x * (k : Int) < y * (k : Int) ↔ x < y := fun x y => Int.mul_lt_mul_right (by omega)
  simp only [h]
theorem cmpI_swap (a b : Int) : cmpI a b = - cmpI b a := by unfold cmpI; split <;> split <;> (try split) <;> omega

/-- How great a number is, its sign aside, so that one below 1 is whole. -/
def sizeOf18 (d : D) : Nat := d.c * 10 ^ (d.e + 18).toNat
/-- A number, so much greater that it is whole. -/
def wholeOf (d : D) : Int := if d.neg then -(sizeOf18 d : Int) else sizeOf18 d

/-- Exponents that may be. -/
def Near (d : D) : Prop := d.c < Two64 ∧ -18 ≤ d.e ∧ d.e ≤ 18
theorem D.One.near {d : D} (h : d.One) : Near d := by
  rcases h.1 with ⟨h0, h1⟩ | ⟨h0, h1, h2, h3, h4⟩
  · exact ⟨by rw [h0]; decide, by omega, by omega⟩
  · exact ⟨h4, h1, h2⟩

theorem size_split (a b : D) (ha : Near a) (hb : Near b) (h : b.e ≤ a.e) : sizeOf18 a = a.c * 10 ^ (a.e - b.e).toNat * 10 ^ (b.e + 18).toNat := by
  unfold sizeOf18
  rw [Nat.mul_assoc, ← Nat.pow_add]
  congr 2
  have := ha.2; have := hb.2; omega
theorem sizes_math (a b : D) (ha : Near a) (hb : Near b) (h : b.e ≤ a.e) : cmpI (sizeOf18 a) (sizeOf18 b) = if (lifted a.c (a.e - b.e)).2 then cmpI ((lifted a.c (a.e - b.e)).1 : Nat) (b.c : Int) else 1 := by
  have hp : 0 < 10 ^ (b.e + 18).toNat := Nat.pos_of_ne_zero (by simp)
  have e := cmpI_scale ((a.c * 10 ^ (a.e - b.e).toNat : Nat) : Int) (b.c : Int) (10 ^ (b.e + 18).toNat) hp
  have e1 : ((sizeOf18 a : Nat) : Int) = ((a.c * 10 ^ (a.e - b.e).toNat : Nat) : Int) * ((10 ^ (b.e + 18).toNat : Nat) : Int) := by rw [size_split a b ha hb h, Int.natCast_mul]
  have e2 : ((sizeOf18 b : Nat) : Int) = (b.c : Int) * ((10 ^ (b.e + 18).toNat : Nat) : Int) := by unfold sizeOf18; rw [Int.natCast_mul]
  rw [e1, e2, e]
  unfold lifted
  split
  · rfl
  · simp only [Bool.false_eq_true, ite_false]
    unfold cmpI
    have := hb.1
    rw [if_neg (by omega), if_pos (by omega)]

theorem whole_cmp (a b : D) (ha : a.One) (hb : b.One) : cmpI (wholeOf a) (wholeOf b) = if a.neg && b.neg then cmpI (sizeOf18 b) (sizeOf18 a) else if a.neg then -1 else if b.neg then 1 else cmpI (sizeOf18 a) (sizeOf18 b) := by
  have key : ∀ d : D, d.One → d.neg = true → 0 < sizeOf18 d := fun d hd hn => by
    unfold sizeOf18
    refine Nat.mul_pos ?_ (Nat.pos_of_ne_zero (by simp))
    rcases Nat.eq_zero_or_pos d.c with h | h
    · have := hd.2 h; rw [hn] at this; cases this
    · exact h
  unfold wholeOf
  cases h1 : a.neg <;> cases h2 : b.neg
  · simp
  · have := key b hb h2
    simp
    unfold cmpI
    rw [if_neg (by omega), if_pos (by omega)]
  · have := key a ha h1
    simp
    unfold cmpI
    rw [if_pos (by omega)]
  · simp
    unfold cmpI
    have e : ∀ x y : Nat, (-(x : Int) < -(y : Int)) ↔ ((y : Int) < (x : Int)) := fun x y => by omega
    simp only [e]

end Go.Proofs.YtmaiggoinjldpaaGreatDoor.Dc
