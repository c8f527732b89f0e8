/-
  Digits of one length are in the order of their numbers. Nothing of the program.
-/
import Derived.Test.YtgnpakcofkhdkaaDigs
import GoSem.Op.String
namespace Go.Proofs.Ytgnpakcofkhdkaa.Dc

theorem less_val : ∀ {a b : List UInt8}, Digs a → Digs b → a.length = b.length → Op.bytesLess a b = decide (val a < val b)
  | [], [], _, _, _ => by simp [Op.bytesLess]
  | x :: a, y :: b, ha, hb, hl => by
    have hx := ha x (by simp)
    have hy := hb y (by simp)
    have ha' : Digs a := fun z hz => ha z (by simp [hz])
    have hb' : Digs b := fun z hz => hb z (by simp [hz])
    have hl' : a.length = b.length := by simpa using hl
    have l1 := val_lt ha'
    have l2 := val_lt hb'
    rw [hl'] at l1
    unfold Dig at hx hy
    have hp : 0 < 10 ^ b.length := Nat.pos_of_ne_zero (by simp)
    rw [Op.bytesLess, less_val ha' hb' hl', val_cons, val_cons, hl']
    generalize 10 ^ b.length = p at *
    rcases Nat.lt_trichotomy x.toNat y.toNat with h | h | h
    · have h1 : decide (x < y) = true := by simpa [UInt8.lt_iff_toNat_lt] using h
      have h2 : (x.toNat - 48 + 1) * p ≤ (y.toNat - 48) * p := Nat.mul_le_mul_right _ (by omega)
      rw [Nat.add_mul, Nat.one_mul] at h2
      rw [h1]
      simp
      omega
    · obtain rfl : x = y := UInt8.toNat_inj.1 h
      simp
    · have h1 : decide (x < y) = false := by simp [UInt8.lt_iff_toNat_lt]; omega
      have h3 : (x == y) = false := by
        have : x ≠ y := fun e => by rw [e] at h; omega
        simp [this]
      have h2 : (y.toNat - 48 + 1) * p ≤ (x.toNat - 48) * p := Nat.mul_le_mul_right _ (by omega)
      rw [Nat.add_mul, Nat.one_mul] at h2
      rw [h1, h3]
      simp
      omega
end Go.Proofs.Ytgnpakcofkhdkaa.Dc
