/-
  Digits and their number, as plain functions. Nothing of the program.
-/
import Derived.Lib.ItoaNum
import Derived.Lib.ItoaLen
namespace Go.Proofs.Ytikdolgcdkmmaaa.Dc

def Two64 : Nat := 18446744073709551616
theorem two64_ten : Two64 < 10 ^ 20 := by decide
theorem ten_two64 : 10 ^ 19 < Two64 := by decide

def Dig (b : UInt8) : Prop := 48 ≤ b.toNat ∧ b.toNat ≤ 57
def Digs (l : List UInt8) : Prop := ∀ b ∈ l, Dig b
/-- The number of digits, behind a number. -/
def valF (v : Nat) (l : List UInt8) : Nat := l.foldl (fun v b => 10 * v + (b.toNat - 48)) v
def val (l : List UInt8) : Nat := valF 0 l
theorem valF_nil (v : Nat) : valF v [] = v := by unfold valF; exact List.foldl_nil
theorem valF_cons (v : Nat) (b : UInt8) (r : List UInt8) : valF v (b :: r) = valF (10 * v + (b.toNat - 48)) r := by unfold valF; exact List.foldl_cons

theorem valF_eq (v : Nat) (l : List UInt8) : valF v l = v * 10 ^ l.length + val l := by
  induction l generalizing v with
  | nil => simp [valF, val]
  | cons b r ih =>
    have e1 := ih (10 * v + (b.toNat - 48))
    have e2 := ih (10 * 0 + (b.toNat - 48))
    have e3 : 10 * v * 10 ^ r.length = v * 10 ^ (r.length + 1) := by rw [Nat.pow_succ, Nat.mul_comm 10 v, Nat.mul_assoc, Nat.mul_comm 10]
    rw [Nat.add_mul, e3] at e1
    rw [Nat.mul_zero, Nat.zero_add] at e2
    rw [val, valF_cons, valF_cons, Nat.mul_zero, Nat.zero_add, e1, e2, List.length_cons, Nat.add_assoc]
theorem valF_append (v : Nat) (a b : List UInt8) : valF v (a ++ b) = valF (valF v a) b := by
  unfold valF; exact List.foldl_append
theorem val_append (a b : List UInt8) : val (a ++ b) = val a * 10 ^ b.length + val b := by rw [val, valF_append, valF_eq]; unfold val; exact rfl
theorem val_snoc (a : List UInt8) (b : UInt8) : val (a ++ [b]) = 10 * val a + (b.toNat - 48) := by rw [val, valF_append, valF_cons, valF_nil]; unfold val; exact rfl
theorem val_cons (b : UInt8) (r : List UInt8) : val (b :: r) = (b.toNat - 48) * 10 ^ r.length + val r := by
  rw [val, valF_cons, valF_eq]; simp
theorem val_zeros (k : Nat) : val (List.replicate k 48) = 0 := by
  induction k with
  | zero => rfl
  | succ k ih => rw [List.replicate_succ, val_cons, ih]; simp
theorem val_zeros_ahead (k : Nat) (l : List UInt8) : val (List.replicate k 48 ++ l) = val l := by rw [val_append, val_zeros]; simp
theorem val_zeros_behind (k : Nat) (l : List UInt8) : val (l ++ List.replicate k 48) = val l * 10 ^ k := by rw [val_append, val_zeros]; simp
theorem val_lt {l : List UInt8} (h : Digs l) : val l < 10 ^ l.length := by
  induction l with
  | nil => decide
  | cons b r ih =>
    have hb := h b (by simp)
    have hr := ih fun x hx => h x (by simp [hx])
    have : (b.toNat - 48) * 10 ^ r.length ≤ 9 * 10 ^ r.length := Nat.mul_le_mul_right _ (by unfold Dig at hb; omega)
    rw [val_cons, List.length_cons, Nat.pow_succ]; omega
theorem Digs.append {a b : List UInt8} (h : Digs a) (k : Digs b) : Digs (a ++ b) := fun x hx => by rcases List.mem_append.1 hx with m | m; exact h x m; exact k x m
theorem Digs.left {a b : List UInt8} (h : Digs (a ++ b)) : Digs a := fun x hx => h x (by simp [hx])
theorem Digs.right {a b : List UInt8} (h : Digs (a ++ b)) : Digs b := fun x hx => h x (by simp [hx])
theorem digs_zeros (k : Nat) : Digs (List.replicate k 48) := fun x hx => by rw [(List.mem_replicate.1 hx).2]; unfold Dig; decide
theorem digs_nil : Digs [] := fun x hx => by cases hx

theorem dig_of (n : Nat) (h : n < 10) : (UInt8.ofNat (48 + n)).toNat = 48 + n := by
  rw [UInt8.toNat_ofNat']; omega

theorem decDigits_big {u : Nat} (h : ¬ u < 10) : Lib.decDigits u = Lib.decDigits (u / 10) ++ [UInt8.ofNat (48 + u % 10)] := by rw [Lib.decDigits, dif_neg h]
theorem val_decDigits (u : Nat) : val (Lib.decDigits u) = u ∧ Digs (Lib.decDigits u) := by
  induction u using Nat.strongRecOn with
  | ind u ih =>
    by_cases h : u < 10
    · rw [Lib.decDigits_one h]
      refine ⟨?_, fun x hx => ?_⟩
      · rw [val_cons, dig_of u h]; simp [val, valF]
      · rw [List.mem_singleton.1 hx]; unfold Dig; rw [dig_of u h]; omega
    · obtain ⟨h1, h2⟩ := ih (u / 10) (by omega)
      rw [decDigits_big h]
      refine ⟨?_, h2.append fun x hx => ?_⟩
      · rw [val_snoc, h1, dig_of _ (by omega)]; omega
      · rw [List.mem_singleton.1 hx]; unfold Dig; rw [dig_of _ (by omega)]; omega
theorem decDigits_ne (u : Nat) : Lib.decDigits u ≠ [] := by
  intro h
  have := Lib.decDigits_length u
  have h2 := Lib.nDigits_pos u
  rw [h] at this; simp at this; omega
/-- The first digit of a number that is not 0 is not 0. -/
theorem decDigits_head (u : Nat) (h0 : u ≠ 0) : ∃ b r, Lib.decDigits u = b :: r ∧ b.toNat ≠ 48 := by
  induction u using Nat.strongRecOn with
  | ind u ih =>
    by_cases h : u < 10
    · exact ⟨_, [], Lib.decDigits_one h, by rw [dig_of u h]; omega⟩
    · obtain ⟨b, r, h1, h2⟩ := ih (u / 10) (by omega) (by omega)
      exact ⟨b, r ++ [UInt8.ofNat (48 + u % 10)], by rw [decDigits_big h, h1]; rfl, h2⟩
theorem decDigits_len20 {u : Nat} (h : u < Two64) : (Lib.decDigits u).length ≤ 20 := by rw [Lib.decDigits_length]; exact Lib.nDigits_le20 u h

/-- Digits without a 0 ahead are those of their number. -/
theorem val_ge {b : UInt8} {r : List UInt8} (hb : Dig b) (h0 : b.toNat ≠ 48) : 10 ^ r.length ≤ val (b :: r) := by
  have : 1 * 10 ^ r.length ≤ (b.toNat - 48) * 10 ^ r.length := Nat.mul_le_mul_right _ (by unfold Dig at hb; omega)
  rw [val_cons]; omega
theorem val_inj : ∀ {a b : List UInt8}, Digs a → Digs b → a.length = b.length → val a = val b → a = b
  | [], [], _, _, _, _ => rfl
  | x :: a, y :: b, ha, hb, hl, hv => by
    have hx := ha x (by simp)
    have hy := hb y (by simp)
    have ha' : Digs a := fun z hz => ha z (by simp [hz])
    have hb' : Digs b := fun z hz => hb z (by simp [hz])
    have hl' : a.length = b.length := by simpa using hl
    rw [val_cons, val_cons, hl'] at hv
    have l1 := val_lt ha'
    have l2 := val_lt hb'
    rw [hl'] at l1
    have key : x.toNat - 48 = y.toNat - 48 ∧ val a = val b := by
      have hq := congrArg (· / 10 ^ b.length) hv
      have hp : 0 < 10 ^ b.length := Nat.pos_of_ne_zero (by simp)
      simp only [Nat.mul_comm _ (10 ^ b.length), Nat.mul_add_div hp, Nat.div_eq_of_lt l1, Nat.div_eq_of_lt l2, Nat.add_zero] at hq
      rw [hq] at hv
      exact ⟨hq, by omega⟩
    obtain rfl : x = y := UInt8.toNat_inj.1 (by unfold Dig at hx hy; omega)
    rw [val_inj ha' hb' hl' key.2]
end Go.Proofs.Ytikdolgcdkmmaaa.Dc
