/-
  How the document's Make goes by digits: the same numbers. Nothing of the program.
-/
import Derived.Test.YtgnpakcofkhdkaaDText
import Derived.Test.YtgnpakcofkhdkaaDigLess
import GoSem.Op.String
namespace Go.Proofs.Ytgnpakcofkhdkaa.Dc

/-- The zeros ahead are taken off. -/
def bare : List UInt8 → List UInt8
  | [] => []
  | b :: r => if b.toNat = 48 then bare r else b :: r
theorem bare_cons (b : UInt8) (r : List UInt8) : bare (b :: r) = if b.toNat = 48 then bare r else b :: r := rfl
theorem val_bare (l : List UInt8) : val (bare l) = val l := by
  induction l with
  | nil => rfl
  | cons b r ih =>
    rw [bare_cons]
    split
    · rename_i h; rw [ih, val_cons, h]; simp
    · rfl
theorem bare_digs {l : List UInt8} (h : Digs l) : Digs (bare l) := by
  induction l with
  | nil => exact h
  | cons b r ih =>
    rw [bare_cons]
    split
    · exact ih fun x hx => h x (by simp [hx])
    · exact h
theorem bare_length (l : List UInt8) : (bare l).length ≤ l.length := by
  induction l with
  | nil => exact Nat.le_refl _
  | cons b r ih => rw [bare_cons]; split <;> simp <;> omega
theorem bare_head (l : List UInt8) : bare l = [] ∨ ∃ b r, bare l = b :: r ∧ b.toNat ≠ 48 := by
  induction l with
  | nil => exact Or.inl rfl
  | cons b r ih =>
    rw [bare_cons]
    split
    · exact ih
    · rename_i h; exact Or.inr ⟨b, r, rfl, h⟩
/-- Digits of which the first one is not 0. -/
def Lead (l : List UInt8) : Prop := Digs l ∧ ∃ b r, l = b :: r ∧ b.toNat ≠ 48
theorem Lead.pos {l : List UInt8} (h : Lead l) : val l ≠ 0 := by
  obtain ⟨hd, b, r, rfl, hb⟩ := h
  have := val_ge (r := r) (hd b (by simp)) hb
  have hp : 0 < 10 ^ r.length := Nat.pos_of_ne_zero (by simp)
  omega
theorem Lead.ne {l : List UInt8} (h : Lead l) : l ≠ [] := by obtain ⟨_, b, r, rfl, _⟩ := h; simp
theorem Lead.snoc {l : List UInt8} (h : Lead l) : Lead (l ++ [48]) := by
  obtain ⟨hd, b, r, rfl, hb⟩ := h
  exact ⟨hd.append (digs_zeros 1), b, r ++ [48], rfl, hb⟩
/-- The last digit. -/
theorem Lead.last {l : List UInt8} (h : Lead l) : ∃ a x, l = a ++ [x] ∧ Dig x := by
  have hne := h.ne
  refine ⟨l.dropLast, l.getLast hne, (List.dropLast_concat_getLast hne).symm, h.1 _ (List.getLast_mem hne)⟩
theorem Lead.cut {a : List UInt8} (h : Lead (a ++ [48])) : Lead a := by
  obtain ⟨hd, b, r, hl, hb⟩ := h
  refine ⟨hd.left, ?_⟩
  cases a with
  | nil =>
    injection hl with h1 h2
    rw [← h1] at hb
    exact absurd rfl hb
  | cons c t =>
    injection hl with h1 h2
    exact ⟨c, t, rfl, by rw [h1]; exact hb⟩
theorem val_last {a : List UInt8} {x : UInt8} (hx : Dig x) : val (a ++ [x]) % 10 = 0 ↔ x.toNat = 48 := by
  rw [val_snoc]; unfold Dig at hx; omega

/-- Digits that fit. -/
def most : List UInt8 := [49, 56, 52, 52, 54, 55, 52, 52, 48, 55, 51, 55, 48, 57, 53, 53, 49, 54, 49, 53]
theorem most_digs : Digs most ∧ most.length = 20 ∧ val most = 18446744073709551615 := by
  refine ⟨?_, rfl, by decide⟩
  intro x hx
  have key : ∀ y ∈ most, 48 ≤ y.toNat ∧ y.toNat ≤ 57 := by decide
  exact key x hx
/-- Fits tells whether there is room. -/
def fitsL (l : List UInt8) : Bool := decide (l.length < 20) || (l.length == 20 && (Op.bytesLess l most || l == most))
theorem fits_is {l : List UInt8} (h : Lead l) : fitsL l = decide (val l < Two64) := by
  obtain ⟨hm, hml, hmv⟩ := most_digs
  have hlt := val_lt h.1
  have hge : 10 ^ (l.length - 1) ≤ val l := by
    obtain ⟨hd, b, r, rfl, hb⟩ := h
    exact val_ge (r := r) (hd b (by simp)) hb
  unfold fitsL
  rcases Nat.lt_trichotomy l.length 20 with hl | hl | hl
  · have h1 : 10 ^ l.length ≤ 10 ^ 19 := Nat.pow_le_pow_right (by decide) (by omega)
    have h2 := ten_two64
    simp [hl]
    omega
  · have he : (l == most) = decide (val l = val most) := by
      by_cases hv : val l = val most
      · rw [val_inj h.1 hm (by omega) hv]; simp
      · have : l ≠ most := fun e => hv (by rw [e])
        simp [this, hv]
    rw [less_val h.1 hm (by omega), he, hmv, hl]
    unfold Two64
    simp
    by_cases hv : val l < 18446744073709551616
    · simp [hv]; omega
    · simp [hv]; omega
  · have h1 : 10 ^ 20 ≤ 10 ^ (l.length - 1) := Nat.pow_le_pow_right (by decide) (by omega)
    have h2 := two64_ten
    have e1 : decide (l.length < 20) = false := by simp; omega
    have e2 : (l.length == 20) = false := by simp; omega
    rw [e1, e2]
    simp
    omega
end Go.Proofs.Ytgnpakcofkhdkaa.Dc
