/-
  What a number's one form is, which number a text is, and how numbers are in order, as plain functions. Nothing of the program.
-/
import Derived.Test.YtikdolgcdkmmaaaDigs
namespace Go.Proofs.Ytikdolgcdkmmaaa.Dc

/-- The last zeros are taken off, as long as the power is below 18. -/
def strip (c : Nat) (e : Int) : Nat × Int :=
  if h : 0 < c ∧ e < 18 ∧ c % 10 = 0 then strip (c / 10) (e + 1) else (c, e)
termination_by c
decreasing_by omega

/-- The one form of c times ten to the e, if there is one. -/
def norm (c : Nat) (e : Int) : Option (Nat × Int) :=
  if c = 0 then some (0, 0)
  else if (strip c e).2 < -18 then none
  else if 18 ≤ (strip c e).2 then
    (if (strip c e).1 * 10 ^ ((strip c e).2 - 18).toNat < Two64 then some ((strip c e).1 * 10 ^ ((strip c e).2 - 18).toNat, 18) else none)
  else if (strip c e).1 < Two64 then some (strip c e) else none

theorem strip_go {c : Nat} {e : Int} (h0 : 0 < c) (he : e < 18) (hm : c % 10 = 0) : strip c e = strip (c / 10) (e + 1) := by
  rw [strip, dif_pos ⟨h0, he, hm⟩]
theorem strip_stay {c : Nat} {e : Int} (h : ¬ (0 < c ∧ e < 18 ∧ c % 10 = 0)) : strip c e = (c, e) := by rw [strip, dif_neg h]

theorem strip_spec (c : Nat) (e : Int) (h : 0 < c) : ∃ k : Nat, (strip c e).2 = e + k ∧ (strip c e).1 * 10 ^ k = c ∧ 0 < (strip c e).1 ∧ (k = 0 ∨ e + k ≤ 18) ∧ ((strip c e).1 % 10 ≠ 0 ∨ 18 ≤ (strip c e).2) := by
  induction c using Nat.strongRecOn generalizing e with
  | ind c ih =>
    by_cases hc : 0 < c ∧ e < 18 ∧ c % 10 = 0
    · obtain ⟨k, h2, h1, h0, hk, hs⟩ := ih (c / 10) (by omega) (e + 1) (by omega)
      rw [strip_go hc.1 hc.2.1 hc.2.2]
      refine ⟨k + 1, by omega, ?_, h0, by omega, hs⟩
      rw [Nat.pow_succ, ← Nat.mul_assoc, h1]; omega
    · rw [strip_stay hc]
      exact ⟨0, by simp, by simp, h, Or.inl rfl, by
        rcases Nat.eq_zero_or_pos (c % 10) with hz | hz
        · exact Or.inr (by show (18 : Int) ≤ e; omega)
        · exact Or.inl (by show c % 10 ≠ 0; omega)⟩

theorem norm_ten (c : Nat) (e : Int) : norm (c * 10) e = norm c (e + 1) := by
  rcases Nat.eq_zero_or_pos c with rfl | hc
  · simp [norm]
  by_cases he : e < 18
  · have : strip (c * 10) e = strip c (e + 1) := by rw [strip_go (by omega) he (by omega)]; congr 1; omega
    unfold norm
    rw [this, if_neg (show ¬ c * 10 = 0 by omega), if_neg (show ¬ c = 0 by omega)]
  · have h1 : strip (c * 10) e = (c * 10, e) := strip_stay (by omega)
    have h2 : strip c (e + 1) = (c, e + 1) := strip_stay (by omega)
    have h3 : c * 10 * 10 ^ (e - 18).toNat = c * 10 ^ (e + 1 - 18).toNat := by
      rw [show (e + 1 - 18).toNat = (e - 18).toNat + 1 by omega, Nat.pow_succ, Nat.mul_assoc, Nat.mul_comm 10]
    unfold norm
    rw [h1, h2, if_neg (show ¬ c * 10 = 0 by omega), if_neg (show ¬ c = 0 by omega)]
    simp only []
    rw [if_neg (show ¬ e < -18 by omega), if_pos (show (18 : Int) ≤ e by omega), if_neg (show ¬ e + 1 < -18 by omega), if_pos (show (18 : Int) ≤ e + 1 by omega), h3]

theorem norm_pow (c k : Nat) (e : Int) : norm (c * 10 ^ k) e = norm c (e + k) := by
  induction k generalizing e with
  | zero => simp
  | succ k ih => rw [Nat.pow_succ, ← Nat.mul_assoc, norm_ten, ih]; congr 1; omega

theorem norm_big {c : Nat} (h : c % 10 ≠ 0) (hb : Two64 ≤ c) (e : Int) : norm c e = none := by
  have hs : strip c e = (c, e) := strip_stay (by omega)
  have hp : 1 ≤ 10 ^ (e - 18).toNat := Nat.pos_of_ne_zero (by simp)
  have hm : c ≤ c * 10 ^ (e - 18).toNat := Nat.le_mul_of_pos_right _ hp
  unfold norm
  rw [hs, if_neg (show ¬ c = 0 by rintro rfl; exact h rfl)]
  simp only []
  split
  · rfl
  · split
    · rw [if_neg (by omega)]
    · rw [if_neg (by omega)]

/-- A number is in its one form. -/
def One (c : Nat) (e : Int) : Prop := (c = 0 ∧ e = 0) ∨ (c ≠ 0 ∧ -18 ≤ e ∧ e ≤ 18 ∧ (c % 10 ≠ 0 ∨ e = 18) ∧ c < Two64)

theorem norm_one {c c' : Nat} {e e' : Int} (h : norm c e = some (c', e')) : One c' e' := by
  unfold norm at h
  by_cases h0 : c = 0
  · rw [if_pos h0] at h; simp at h; exact Or.inl ⟨h.1.symm, h.2.symm⟩
  rw [if_neg h0] at h
  obtain ⟨k, h2, h1, hp, hk, hs⟩ := strip_spec c e (by omega)
  by_cases hlo : (strip c e).2 < -18
  · rw [if_pos hlo] at h; cases h
  rw [if_neg hlo] at h
  by_cases hhi : 18 ≤ (strip c e).2
  · rw [if_pos hhi] at h
    split at h
    · rename_i hf
      injection h with h
      have e1 := congrArg Prod.fst h
      have e2 := congrArg Prod.snd h
      simp only [] at e1 e2
      subst e1 e2
      exact Or.inr ⟨Nat.ne_of_gt (Nat.mul_pos hp (Nat.pos_of_ne_zero (by simp))), by omega, by omega, Or.inr rfl, hf⟩
    · cases h
  · rw [if_neg hhi] at h
    split at h
    · rename_i hf
      injection h with h
      rw [h] at hs hp hf hlo hhi
      simp only [] at hs hp hf hlo hhi
      exact Or.inr ⟨by omega, by omega, by omega, by omega, hf⟩
    · cases h

theorem norm_fix {c : Nat} {e : Int} (h : One c e) : norm c e = some (c, e) := by
  rcases h with ⟨rfl, rfl⟩ | ⟨h0, hl, hh, hm, hb⟩
  · simp [norm]
  · have hs : strip c e = (c, e) := strip_stay (by omega)
    unfold norm
    rw [if_neg h0, hs]
    simp only []
    rw [if_neg (by omega)]
    by_cases h18 : 18 ≤ e
    · obtain rfl : e = 18 := by omega
      rw [if_pos (by omega)]; simp [hb]
    · rw [if_neg h18, if_pos hb]

/-- What is in range always has one form. -/
theorem norm_some {c : Nat} {e : Int} (hb : c < Two64) (hl : -18 ≤ e) (hh : e ≤ 18) : ∃ p, norm c e = some p := by
  rcases Nat.eq_zero_or_pos c with rfl | h0
  · exact ⟨(0, 0), by simp [norm]⟩
  obtain ⟨k, h2, h1, hp, hk, hs⟩ := strip_spec c e h0
  have hle : (strip c e).1 ≤ c := by
    have : (strip c e).1 * 1 ≤ (strip c e).1 * 10 ^ k := Nat.mul_le_mul_left _ (Nat.pos_of_ne_zero (by simp))
    omega
  unfold norm
  rw [if_neg (by omega), if_neg (by omega)]
  by_cases h18 : 18 ≤ (strip c e).2
  · rw [if_pos h18, show (strip c e).2 - 18 = 0 by omega]
    simp only [Int.toNat_zero, Nat.pow_zero, Nat.mul_one]
    rw [if_pos (by omega)]; exact ⟨_, rfl⟩
  · rw [if_neg h18, if_pos (by omega)]; exact ⟨_, rfl⟩

/-- A form is the same number. -/
theorem norm_same {c c' : Nat} {e e' : Int} (h : norm c e = some (c', e')) (he : e ≤ 18) (h0 : c ≠ 0) : e ≤ e' ∧ c = c' * 10 ^ (e' - e).toNat := by
  obtain ⟨k, h2, h1, hp, hk, hs⟩ := strip_spec c e (by omega)
  unfold norm at h
  rw [if_neg h0] at h
  split at h
  · cases h
  split at h
  · have h18 : (strip c e).2 = 18 := by omega
    split at h
    · rw [h18] at h h2
      injection h with h
      have e1 := congrArg Prod.fst h
      have e2 := congrArg Prod.snd h
      simp only [Int.sub_self, Int.toNat_zero, Nat.pow_zero, Nat.mul_one] at e1 e2
      subst e1 e2
      exact ⟨by omega, by rw [show ((18 : Int) - e).toNat = k by omega]; exact h1.symm⟩
    · cases h
  · split at h
    · injection h with h
      rw [h] at h2 h1
      simp only [] at h2 h1
      exact ⟨by omega, by rw [show (e' - e).toNat = k by omega]; exact h1.symm⟩
    · cases h

theorem norm_zero (e : Int) : norm 0 e = some (0, 0) := by simp [norm]
theorem norm_pos {c c' : Nat} {e e' : Int} (h : norm c e = some (c', e')) (h0 : c ≠ 0) : c' ≠ 0 := by
  unfold norm at h
  rw [if_neg h0] at h
  obtain ⟨k, h2, h1, hp, hk, hs⟩ := strip_spec c e (by omega)
  split at h
  · cases h
  split at h
  · split at h
    · injection h with h
      have e1 := congrArg Prod.fst h
      simp only [] at e1
      rw [← e1]
      exact Nat.ne_of_gt (Nat.mul_pos hp (Nat.pos_of_ne_zero (by simp)))
    · cases h
  · split at h
    · injection h with h
      rw [h] at hp; exact Nat.ne_of_gt hp
    · cases h

/-! The Dec. -/
structure D where
  neg : Bool
  c : Nat
  e : Int
deriving DecidableEq

def D0 : D := ⟨false, 0, 0⟩
/-- It can be held. -/
structure D.Fits (d : D) : Prop where
  c : d.c < Two64
  lo : -9223372036854775808 ≤ d.e
  hi : d.e ≤ 9223372036854775807

def mkD (neg : Bool) (p : Nat × Int) : D := ⟨if p.1 = 0 then false else neg, p.1, p.2⟩
def normal (d : D) : Option D := (norm d.c d.e).map (mkD d.neg)
/-- Check's number. -/
def check (d : D) : Int := if d.c ≠ 0 ∧ (d.e < -18 ∨ 18 < d.e) then 10 else if normal d = some d then 0 else 21

theorem check_cases (d : D) : check d = 0 ∨ check d = 10 ∨ check d = 21 := by
  unfold check; split
  · exact Or.inr (Or.inl rfl)
  · split
    · exact Or.inl rfl
    · exact Or.inr (Or.inr rfl)

theorem D.ext' {a b : D} (h1 : a.neg = b.neg) (h2 : a.c = b.c) (h3 : a.e = b.e) : a = b := by cases a; cases b; simp_all

/-- A Dec is in its one form. -/
def D.One (d : D) : Prop := Go.Proofs.Ytikdolgcdkmmaaa.Dc.One d.c d.e ∧ (d.c = 0 → d.neg = false)

theorem normal_one {d n : D} (h : normal d = some n) : n.One := by
  unfold normal at h
  cases hn : norm d.c d.e with
  | none => rw [hn] at h; cases h
  | some p =>
    rw [hn] at h
    simp only [Option.map_some, Option.some.injEq] at h
    subst h
    exact ⟨norm_one hn, fun h0 => by simp only [mkD] at h0 ⊢; rw [if_pos h0]⟩
theorem normal_fix {d : D} (h : d.One) : normal d = some d := by
  unfold normal
  rw [norm_fix h.1]
  simp only [Option.map_some, mkD]
  congr 1
  cases d with
  | mk n c e => simp only [D.mk.injEq, and_true]; split; exact (h.2 (by assumption)).symm; rfl
theorem check_ok {d : D} : check d = 0 ↔ d.One := by
  constructor
  · intro h
    unfold check at h
    split at h
    · omega
    · split at h
      · rename_i hn; exact normal_one hn
      · omega
  · intro h
    unfold check
    rw [if_neg ?_, if_pos (normal_fix h)]
    rcases h.1 with ⟨h0, _⟩ | ⟨h0, h1, h2, _⟩
    · simp [h0]
    · omega
theorem D0_one : D0.One := ⟨Or.inl ⟨rfl, rfl⟩, fun _ => rfl⟩
theorem D.One.fits {d : D} (h : d.One) : d.Fits := by
  rcases h.1 with ⟨h0, h1⟩ | ⟨h0, h1, h2, h3, h4⟩
  · exact ⟨by rw [h0]; decide, by omega, by omega⟩
  · exact ⟨h4, by omega, by omega⟩
theorem normal_zero {d : D} (h : d.c = 0) : normal d = some D0 := by
  unfold normal; rw [h, norm_zero]; rfl
end Go.Proofs.Ytikdolgcdkmmaaa.Dc
