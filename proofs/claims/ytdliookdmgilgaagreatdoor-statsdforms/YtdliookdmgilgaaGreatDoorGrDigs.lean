/-
  Digs, DMath, DLift, DNormal. No statement of the seat is proved here.
-/
import Derived.Lib.ItoaNum
import Derived.Lib.ItoaLen
import Derived.Test.YtdliookdmgilgaaGreatDoorShelf
import Derived.Test.YtdliookdmgilgaaGreatDoorGrMem
/-
  Digits and their number, as plain functions. Nothing of the program.
-/
namespace Go.Proofs.YtdliookdmgilgaaGreatDoor

def Two64 : Nat := 18446744073709551616
theorem two64_ten : Two64 < 10 ^ 20 := by decide
theorem ten_two64 : 10 ^ 19 < Two64 := by decide

def Dig (b : UInt8) : Prop := 48 ≤ b.toNat ∧ b.toNat ≤ 57
def Digs (l : List UInt8) : Prop := ∀ b ∈ l, Dig b
/-- The number of digits, behind a number. -/
def valF (v : Nat) (l : List UInt8) : Nat := l.foldl (fun v b => 10 * v + (b.toNat - 48)) v
def val (l : List UInt8) : Nat := valF 0 l
theorem valF_nil (v : Nat) : valF v [] = v := by unfold valF; exact List.foldl_nil
theorem valF_cons (v : Nat) (b : UInt8) (r : List UInt8) : valF v (b :: r) = valF (10 * v + (b.toNat - 48)) r := by unfold valF; exact List.foldl_cons

theorem valF_eq (v : Nat) (l : List UInt8) : valF v l = v * 10 ^ l.length + val l := by
  induction l generalizing v with
  | nil => simp [valF, val]
  | cons b r ih =>
    have e1 := ih (10 * v + (b.toNat - 48))
    have e2 := ih (10 * 0 + (b.toNat - 48))
    have e3 : 10 * v * 10 ^ r.length = v * 10 ^ (r.length + 1) := by rw [Nat.pow_succ, Nat.mul_comm 10 v, Nat.mul_assoc, Nat.mul_comm 10]
    rw [Nat.add_mul, e3] at e1
    rw [Nat.mul_zero, Nat.zero_add] at e2
    rw [val, valF_cons, valF_cons, Nat.mul_zero, Nat.zero_add, e1, e2, List.length_cons, Nat.add_assoc]
theorem valF_append (v : Nat) (a b : List UInt8) : valF v (a ++ b) = valF (valF v a) b := by
  unfold valF; exact List.foldl_append
theorem val_append (a b : List UInt8) : val (a ++ b) = val a * 10 ^ b.length + val b := by rw [val, valF_append, valF_eq]; unfold val; exact rfl
theorem val_snoc (a : List UInt8) (b : UInt8) : val (a ++ [b]) = 10 * val a + (b.toNat - 48) := by rw [val, valF_append, valF_cons, valF_nil]; unfold val; exact rfl
theorem val_cons (b : UInt8) (r : List UInt8) : val (b :: r) = (b.toNat - 48) * 10 ^ r.length + val r := by
  rw [val, valF_cons, valF_eq]; simp
theorem val_zeros (k : Nat) : val (List.replicate k 48) = 0 := by
  induction k with
  | zero => rfl
  | succ k ih => rw [List.replicate_succ, val_cons, ih]; simp
theorem val_zeros_ahead (k : Nat) (l : List UInt8) : val (List.replicate k 48 ++ l) = val l := by rw [val_append, val_zeros]; simp
theorem val_zeros_behind (k : Nat) (l : List UInt8) : val (l ++ List.replicate k 48) = val l * 10 ^ k := by rw [val_append, val_zeros]; simp
theorem val_lt {l : List UInt8} (h : Digs l) : val l < 10 ^ l.length := by
  induction l with
  | nil => decide
  | cons b r ih =>
    have hb := h b (by simp)
    have hr := ih fun x hx => h x (by simp [hx])
    have : (b.toNat - 48) * 10 ^ r.length ≤ 9 * 10 ^ r.length := Nat.mul_le_mul_right _ (by unfold Dig at hb; omega)
    rw [val_cons, List.length_cons, Nat.pow_succ]; omega
theorem Digs.append {a b : List UInt8} (h : Digs a) (k : Digs b) : Digs (a ++ b) := fun x hx => by rcases List.mem_append.1 hx with m | m; exact h x m; exact k x m
theorem Digs.left {a b : List UInt8} (h : Digs (a ++ b)) : Digs a := fun x hx => h x (by simp [hx])
theorem Digs.right {a b : List UInt8} (h : Digs (a ++ b)) : Digs b := fun x hx => h x (by simp [hx])
theorem digs_zeros (k : Nat) : Digs (List.replicate k 48) := fun x hx => by rw [(List.mem_replicate.1 hx).2]; unfold Dig; decide
theorem digs_nil : Digs [] := fun x hx => by cases hx

theorem dig_of (n : Nat) (h : n < 10) : (UInt8.ofNat (48 + n)).toNat = 48 + n := by
  rw [UInt8.toNat_ofNat']; omega

theorem decDigits_big {u : Nat} (h : ¬ u < 10) : Lib.decDigits u = Lib.decDigits (u / 10) ++ [UInt8.ofNat (48 + u % 10)] := by rw [Lib.decDigits, dif_neg h]
theorem val_decDigits (u : Nat) : val (Lib.decDigits u) = u ∧ Digs (Lib.decDigits u) := by
  induction u using Nat.strongRecOn with
  | ind u ih =>
    by_cases h : u < 10
    · rw [Lib.decDigits_one h]
      refine ⟨?_, fun x hx => ?_⟩
      · rw [val_cons, dig_of u h]; simp [val, valF]
      · rw [List.mem_singleton.1 hx]; unfold Dig; rw [dig_of u h]; omega
    · obtain ⟨h1, h2⟩ := ih (u / 10) (by omega)
      rw [decDigits_big h]
      refine ⟨?_, h2.append fun x hx => ?_⟩
      · rw [val_snoc, h1, dig_of _ (by omega)]; omega
      · rw [List.mem_singleton.1 hx]; unfold Dig; rw [dig_of _ (by omega)]; omega
theorem decDigits_ne (u : Nat) : Lib.decDigits u ≠ [] := by
  intro h
  have := Lib.decDigits_length u
  have h2 := Lib.nDigits_pos u
  rw [h] at this; simp at this; omega
/-- The first digit of a number that is not 0 is not 0. -/
theorem decDigits_head (u : Nat) (h0 : u ≠ 0) : ∃ b r, Lib.decDigits u = b :: r ∧ b.toNat ≠ 48 := by
  induction u using Nat.strongRecOn with
  | ind u ih =>
    by_cases h : u < 10
    · exact ⟨_, [], Lib.decDigits_one h, by rw [dig_of u h]; omega⟩
    · obtain ⟨b, r, h1, h2⟩ := ih (u / 10) (by omega) (by omega)
      exact ⟨b, r ++ [UInt8.ofNat (48 + u % 10)], by rw [decDigits_big h, h1]; rfl, h2⟩
theorem decDigits_len20 {u : Nat} (h : u < Two64) : (Lib.decDigits u).length ≤ 20 := by rw [Lib.decDigits_length]; exact Lib.nDigits_le20 u h

/-- Digits without a 0 ahead are those of their number. -/
theorem val_ge {b : UInt8} {r : List UInt8} (hb : Dig b) (h0 : b.toNat ≠ 48) : 10 ^ r.length ≤ val (b :: r) := by
  have : 1 * 10 ^ r.length ≤ (b.toNat - 48) * 10 ^ r.length := Nat.mul_le_mul_right _ (by unfold Dig at hb; omega)
  rw [val_cons]; omega
theorem val_inj : ∀ {a b : List UInt8}, Digs a → Digs b → a.length = b.length → val a = val b → a = b
  | [], [], _, _, _, _ => rfl
  | x :: a, y :: b, ha, hb, hl, hv => by
    have hx := ha x (by simp)
    have hy := hb y (by simp)
    have ha' : Digs a := fun z hz => ha z (by simp [hz])
    have hb' : Digs b := fun z hz => hb z (by simp [hz])
    have hl' : a.length = b.length := by simpa using hl
    rw [val_cons, val_cons, hl'] at hv
    have l1 := val_lt ha'
    have l2 := val_lt hb'
    rw [hl'] at l1
    have key : x.toNat - 48 = y.toNat - 48 ∧ val a = val b := by
      have hq := congrArg (· / 10 ^ b.length) hv
      have hp : 0 < 10 ^ b.length := Nat.pos_of_ne_zero (by simp)
      simp only [Nat.mul_comm _ (10 ^ b.length), Nat.mul_add_div hp, Nat.div_eq_of_lt l1, Nat.div_eq_of_lt l2, Nat.add_zero] at hq
      rw [hq] at hv
      exact ⟨hq, by omega⟩
    obtain rfl : x = y := UInt8.toNat_inj.1 (by unfold Dig at hx hy; omega)
    rw [val_inj ha' hb' hl' key.2]
end Go.Proofs.YtdliookdmgilgaaGreatDoor

/-
  What a number's one form is, which number a text is, and how numbers are in order, as plain functions. Nothing of the program.
-/
namespace Go.Proofs.YtdliookdmgilgaaGreatDoor.Dc

/-- The last zeros are taken off, as long as the power is below 18. -/
def strip (c : Nat) (e : Int) : Nat × Int :=
  if h : 0 < c ∧ e < 18 ∧ c % 10 = 0 then strip (c / 10) (e + 1) else (c, e)
termination_by c
decreasing_by omega

/-- The one form of c times ten to the e, if there is one. -/
def norm (c : Nat) (e : Int) : Option (Nat × Int) :=
  if c = 0 then some (0, 0)
  else if (strip c e).2 < -18 then none
  else if 18 ≤ (strip c e).2 then
    (if (strip c e).1 * 10 ^ ((strip c e).2 - 18).toNat < Two64 then some ((strip c e).1 * 10 ^ ((strip c e).2 - 18).toNat, 18) else none)
  else if (strip c e).1 < Two64 then some (strip c e) else none

theorem strip_go {c : Nat} {e : Int} (h0 : 0 < c) (he : e < 18) (hm : c % 10 = 0) : strip c e = strip (c / 10) (e + 1) := by
  rw [strip, dif_pos ⟨h0, he, hm⟩]
theorem strip_stay {c : Nat} {e : Int} (h : ¬ (0 < c ∧ e < 18 ∧ c % 10 = 0)) : strip c e = (c, e) := by rw [strip, dif_neg h]

theorem strip_spec (c : Nat) (e : Int) (h : 0 < c) : ∃ k : Nat, (strip c e).2 = e + k ∧ (strip c e).1 * 10 ^ k = c ∧ 0 < (strip c e).1 ∧ (k = 0 ∨ e + k ≤ 18) ∧ ((strip c e).1 % 10 ≠ 0 ∨ 18 ≤ (strip c e).2) := by
  induction c using Nat.strongRecOn generalizing e with
  | ind c ih =>
    by_cases hc : 0 < c ∧ e < 18 ∧ c % 10 = 0
    · obtain ⟨k, h2, h1, h0, hk, hs⟩ := ih (c / 10) (by omega) (e + 1) (by omega)
      rw [strip_go hc.1 hc.2.1 hc.2.2]
      refine ⟨k + 1, by omega, ?_, h0, by omega, hs⟩
      rw [Nat.pow_succ, ← Nat.mul_assoc, h1]; omega
    · rw [strip_stay hc]
      exact ⟨0, by simp, by simp, h, Or.inl rfl, by
        rcases Nat.eq_zero_or_pos (c % 10) with hz | hz
        · exact Or.inr (by show (18 : Int) ≤ e; omega)
        · exact Or.inl (by show c % 10 ≠ 0; omega)⟩

theorem norm_ten (c : Nat) (e : Int) : norm (c * 10) e = norm c (e + 1) := by
  rcases Nat.eq_zero_or_pos c with rfl | hc
  · simp [norm]
  by_cases he : e < 18
  · have : strip (c * 10) e = strip c (e + 1) := by rw [strip_go (by omega) he (by omega)]; congr 1; omega
    unfold norm
    rw [this, if_neg (show ¬ c * 10 = 0 by omega), if_neg (show ¬ c = 0 by omega)]
  · have h1 : strip (c * 10) e = (c * 10, e) := strip_stay (by omega)
    have h2 : strip c (e + 1) = (c, e + 1) := strip_stay (by omega)
    have h3 : c * 10 * 10 ^ (e - 18).toNat = c * 10 ^ (e + 1 - 18).toNat := by
      rw [show (e + 1 - 18).toNat = (e - 18).toNat + 1 by omega, Nat.pow_succ, Nat.mul_assoc, Nat.mul_comm 10]
    unfold norm
    rw [h1, h2, if_neg (show ¬ c * 10 = 0 by omega), if_neg (show ¬ c = 0 by omega)]
    simp only []
    rw [if_neg (show ¬ e < -18 by omega), if_pos (show (18 : Int) ≤ e by omega), if_neg (show ¬ e + 1 < -18 by omega), if_pos (show (18 : Int) ≤ e + 1 by omega), h3]

theorem norm_pow (c k : Nat) (e : Int) : norm (c * 10 ^ k) e = norm c (e + k) := by
  induction k generalizing e with
  | zero => simp
  | succ k ih => rw [Nat.pow_succ, ← Nat.mul_assoc, norm_ten, ih]; congr 1; omega

theorem norm_big {c : Nat} (h : c % 10 ≠ 0) (hb : Two64 ≤ c) (e : Int) : norm c e = none := by
  have hs : strip c e = (c, e) := strip_stay (by omega)
  have hp : 1 ≤ 10 ^ (e - 18).toNat := Nat.pos_of_ne_zero (by simp)
  have hm : c ≤ c * 10 ^ (e - 18).toNat := Nat.le_mul_of_pos_right _ hp
  unfold norm
  rw [hs, if_neg (show ¬ c = 0 by rintro rfl; exact h rfl)]
  simp only []
  split
  · rfl
  · split
    · rw [if_neg (by omega)]
    · rw [if_neg (by omega)]

/-- A number is in its one form. -/
def One (c : Nat) (e : Int) : Prop := (c = 0 ∧ e = 0) ∨ (c ≠ 0 ∧ -18 ≤ e ∧ e ≤ 18 ∧ (c % 10 ≠ 0 ∨ e = 18) ∧ c < Two64)

theorem norm_one {c c' : Nat} {e e' : Int} (h : norm c e = some (c', e')) : One c' e' := by
  unfold norm at h
  by_cases h0 : c = 0
  · rw [if_pos h0] at h; simp at h; exact Or.inl ⟨h.1.symm, h.2.symm⟩
  rw [if_neg h0] at h
  obtain ⟨k, h2, h1, hp, hk, hs⟩ := strip_spec c e (by omega)
  by_cases hlo : (strip c e).2 < -18
  · rw [if_pos hlo] at h; cases h
  rw [if_neg hlo] at h
  by_cases hhi : 18 ≤ (strip c e).2
  · rw [if_pos hhi] at h
    split at h
    · rename_i hf
      injection h with h
      have e1 := congrArg Prod.fst h
      have e2 := congrArg Prod.snd h
      simp only [] at e1 e2
      subst e1 e2
      exact Or.inr ⟨Nat.ne_of_gt (Nat.mul_pos hp (Nat.pos_of_ne_zero (by simp))), by omega, by omega, Or.inr rfl, hf⟩
    · cases h
  · rw [if_neg hhi] at h
    split at h
    · rename_i hf
      injection h with h
      rw [h] at hs hp hf hlo hhi
      simp only [] at hs hp hf hlo hhi
      exact Or.inr ⟨by omega, by omega, by omega, by omega, hf⟩
    · cases h

theorem norm_fix {c : Nat} {e : Int} (h : One c e) : norm c e = some (c, e) := by
  rcases h with ⟨rfl, rfl⟩ | ⟨h0, hl, hh, hm, hb⟩
  · simp [norm]
  · have hs : strip c e = (c, e) := strip_stay (by omega)
    unfold norm
    rw [if_neg h0, hs]
    simp only []
    rw [if_neg (by omega)]
    by_cases h18 : 18 ≤ e
    · obtain rfl : e = 18 := by omega
      rw [if_pos (by omega)]; simp [hb]
    · rw [if_neg h18, if_pos hb]

/-- What is in range always has one form. -/
theorem norm_some {c : Nat} {e : Int} (hb : c < Two64) (hl : -18 ≤ e) (hh : e ≤ 18) : ∃ p, norm c e = some p := by
  rcases Nat.eq_zero_or_pos c with rfl | h0
  · exact ⟨(0, 0), by simp [norm]⟩
  obtain ⟨k, h2, h1, hp, hk, hs⟩ := strip_spec c e h0
  have hle : (strip c e).1 ≤ c := by
    have : (strip c e).1 * 1 ≤ (strip c e).1 * 10 ^ k := Nat.mul_le_mul_left _ (Nat.pos_of_ne_zero (by simp))
    omega
  unfold norm
  rw [if_neg (by omega), if_neg (by omega)]
  by_cases h18 : 18 ≤ (strip c e).2
  · rw [if_pos h18, show (strip c e).2 - 18 = 0 by omega]
    simp only [Int.toNat_zero, Nat.pow_zero, Nat.mul_one]
    rw [if_pos (by omega)]; exact ⟨_, rfl⟩
  · rw [if_neg h18, if_pos (by omega)]; exact ⟨_, rfl⟩

/-- A form is the same number. -/
theorem norm_same {c c' : Nat} {e e' : Int} (h : norm c e = some (c', e')) (he : e ≤ 18) (h0 : c ≠ 0) : e ≤ e' ∧ c = c' * 10 ^ (e' - e).toNat := by
  obtain ⟨k, h2, h1, hp, hk, hs⟩ := strip_spec c e (by omega)
  unfold norm at h
  rw [if_neg h0] at h
  split at h
  · cases h
  split at h
  · have h18 : (strip c e).2 = 18 := by omega
    split at h
    · rw [h18] at h h2
      injection h with h
      have e1 := congrArg Prod.fst h
      have e2 := congrArg Prod.snd h
      simp only [Int.sub_self, Int.toNat_zero, Nat.pow_zero, Nat.mul_one] at e1 e2
      subst e1 e2
      exact ⟨by omega, by rw [show ((18 : Int) - e).toNat = k by omega]; exact h1.symm⟩
    · cases h
  · split at h
    · injection h with h
      rw [h] at h2 h1
      simp only [] at h2 h1
      exact ⟨by omega, by rw [show (e' - e).toNat = k by omega]; exact h1.symm⟩
    · cases h

theorem norm_zero (e : Int) : norm 0 e = some (0, 0) := by simp [norm]
theorem norm_pos {c c' : Nat} {e e' : Int} (h : norm c e = some (c', e')) (h0 : c ≠ 0) : c' ≠ 0 := by
  unfold norm at h
  rw [if_neg h0] at h
  obtain ⟨k, h2, h1, hp, hk, hs⟩ := strip_spec c e (by omega)
  split at h
  · cases h
  split at h
  · split at h
    · injection h with h
      have e1 := congrArg Prod.fst h
      simp only [] at e1
      rw [← e1]
      exact Nat.ne_of_gt (Nat.mul_pos hp (Nat.pos_of_ne_zero (by simp)))
    · cases h
  · split at h
    · injection h with h
      rw [h] at hp; exact Nat.ne_of_gt hp
    · cases h

/-! The Dec. -/
structure D where
  neg : Bool
  c : Nat
  e : Int
deriving DecidableEq

def D0 : D := ⟨false, 0, 0⟩
/-- It can be held. -/
structure D.Fits (d : D) : Prop where
  c : d.c < Two64
  lo : -9223372036854775808 ≤ d.e
  hi : d.e ≤ 9223372036854775807

def mkD (neg : Bool) (p : Nat × Int) : D := ⟨if p.1 = 0 then false else neg, p.1, p.2⟩
def normal (d : D) : Option D := (norm d.c d.e).map (mkD d.neg)
/-- Check's number. -/
def check (d : D) : Int := if d.c ≠ 0 ∧ (d.e < -18 ∨ 18 < d.e) then 10 else if normal d = some d then 0 else 21

theorem check_cases (d : D) : check d = 0 ∨ check d = 10 ∨ check d = 21 := by
  unfold check; split
  · exact Or.inr (Or.inl rfl)
  · split
    · exact Or.inl rfl
    · exact Or.inr (Or.inr rfl)

theorem D.ext' {a b : D} (h1 : a.neg = b.neg) (h2 : a.c = b.c) (h3 : a.e = b.e) : a = b := by cases a; cases b; simp_all

/-- A Dec is in its one form. -/
def D.One (d : D) : Prop := Go.Proofs.YtdliookdmgilgaaGreatDoor.Dc.One d.c d.e ∧ (d.c = 0 → d.neg = false)

theorem normal_one {d n : D} (h : normal d = some n) : n.One := by
  unfold normal at h
  cases hn : norm d.c d.e with
  | none => rw [hn] at h; cases h
  | some p =>
    rw [hn] at h
    simp only [Option.map_some, Option.some.injEq] at h
    subst h
    exact ⟨norm_one hn, fun h0 => by simp only [mkD] at h0 ⊢; rw [if_pos h0]⟩
theorem normal_fix {d : D} (h : d.One) : normal d = some d := by
  unfold normal
  rw [norm_fix h.1]
  simp only [Option.map_some, mkD]
  congr 1
  cases d with
  | mk n c e => simp only [D.mk.injEq, and_true]; split; exact (h.2 (by assumption)).symm; rfl
theorem check_ok {d : D} : check d = 0 ↔ d.One := by
  constructor
  · intro h
    unfold check at h
    split at h
    · omega
    · split at h
      · rename_i hn; exact normal_one hn
      · omega
  · intro h
    unfold check
    rw [if_neg ?_, if_pos (normal_fix h)]
    rcases h.1 with ⟨h0, _⟩ | ⟨h0, h1, h2, _⟩
    · simp [h0]
    · omega
theorem D0_one : D0.One := ⟨Or.inl ⟨rfl, rfl⟩, fun _ => rfl⟩
theorem D.One.fits {d : D} (h : d.One) : d.Fits := by
  rcases h.1 with ⟨h0, h1⟩ | ⟨h0, h1, h2, h3, h4⟩
  · exact ⟨by rw [h0]; decide, by omega, by omega⟩
  · exact ⟨h4, by omega, by omega⟩
theorem normal_zero {d : D} (h : d.c = 0) : normal d = some D0 := by
  unfold normal; rw [h, norm_zero]; rfl
end Go.Proofs.YtdliookdmgilgaaGreatDoor.Dc

/-
  Contract of package dec's lift. No statement of the seat is proved here.
-/
namespace Go.Proofs.YtdliookdmgilgaaGreatDoor.Dc
open Go.RowKit

/-- A number times ten to the power, if there is room for it. -/
def lifted (c : Nat) (p : Int) : Nat × Bool := if c * 10 ^ p.toNat < Two64 then (c * 10 ^ p.toNat, true) else (0, false)

theorem mul10_calls (x : Nat) (hx : x < Two64) (w : World) :
    Calls Tryz.prog 117 #[.int .u64 x, .int .u64 10] w fun e w' => ∃ h l : Int, e = .returned (.tuple #[.int .u64 h, .int .u64 l]) ∧ w = w' ∧ Hid ((x * 10 < Two64 ∧ h = 0 ∧ l = ((x * 10 : Nat) : Int)) ∨ (Two64 ≤ x * 10 ∧ h ≠ 0)) := by
  refine (Tryz.bits_Mul64 x 10 hx (by decide) w).mono ?_
  rintro e w' ⟨rfl, rfl⟩
  refine ⟨_, _, rfl, rfl, ?_⟩
  unfold Hid
  unfold Two64
  rcases Nat.lt_or_ge (x * 10) 18446744073709551616 with h | h
  · exact Or.inl ⟨h, by rw [Nat.div_eq_of_lt h]; rfl, by rw [Nat.mod_eq_of_lt h]⟩
  · refine Or.inr ⟨h, ?_⟩
    have := Nat.div_pos h (by decide)
    omega

theorem pow_step (c : Nat) {i : Int} (h : 0 ≤ i) : c * 10 ^ (i + 1).toNat = c * 10 ^ i.toNat * 10 := by
  rw [show (i + 1).toNat = i.toNat + 1 by omega, Nat.pow_succ, Nat.mul_assoc]
theorem pow_mono {c : Nat} {i p : Int} (h : i ≤ p) : c * 10 ^ i.toNat ≤ c * 10 ^ p.toNat := Nat.mul_le_mul_left _ (Nat.pow_le_pow_right (by decide) (by omega))

set_option maxRecDepth 100000 in
theorem lift_calls (c : Nat) (p : Int) (w : World) (hc : c < Two64) (hp : p ≤ 9223372036854775807) :
    Calls Tryz.prog 98 #[.int .u64 c, .int .i64 p] w fun e w' => e = .returned (.tuple #[.int .u64 ((lifted c p).1 : Nat), .bool (lifted c p).2]) ∧ w = w' := by
  have HC := Lib.hid hc
  obtain ⟨z, hz⟩ : ∃ z : Int, z = (c : Int) := ⟨_, rfl⟩
  rw [← hz]
  have HZ := Lib.hid hz
  clear hc hz
  go_enter Tryz.func98, Tryz.ntmps98
  go_wp2_with fail
  go_loopw [0, 9] (fun v0 v9 wr => ∃ a i : Int, v0 = .int .u64 a ∧ v9 = .int .i64 i ∧ 0 ≤ i ∧ (i ≤ p ∨ i = 0) ∧ w = wr ∧ Hid (a = ((c * 10 ^ i.toNat : Nat) : Int) ∧ c * 10 ^ i.toNat < Two64)) (fun _ v9 _ => (p - intOf v9).toNat)
  case atStart => exact ⟨z, 0, rfl, rfl, by omega, by omega, rfl, ⟨by rw [HZ.out]; simp, by simpa using HC.out⟩⟩
  case round =>
    obtain ⟨a, i, rfl, rfl, hi0, hip, rfl, hsc⟩ := hrel
    by_cases hlt : i < p
    · obtain ⟨x, hx⟩ : ∃ x : Nat, c * 10 ^ i.toNat = x := ⟨_, rfl⟩
      rw [hx] at hsc
      have HX := Lib.hid hx
      have HS := hsc.out
      obtain ⟨rfl, hx64⟩ := HS
      have HX6 := Lib.hid hx64
      clear hx hsc hx64
      have HM := Lib.hid (mul10_calls x HX6.out w)
      obtain ⟨y, hy⟩ : ∃ y : Int, y = (x : Int) := ⟨_, rfl⟩
      rw [← hy] at HM ⊢
      have HY := Lib.hid hy
      clear hy
      go_wp2_with fail
      refine HM.out.mono ?_
      rintro e w' ⟨h, l, rfl, rfl, hh⟩
      rcases hh.out with ⟨h1, rfl, h2⟩ | ⟨h1, h2⟩
      · have H1 := Lib.hid (And.intro h1 h2)
        clear hh h1 h2
        go_wp2_with fail
        refine ⟨⟨l, i + 1, rfl, by go_num, by omega, by omega, by trivial, ⟨?_, ?_⟩⟩, by simp [intOf]; omega⟩
        · rw [pow_step c hi0, HX.out]; exact H1.out.2
        · rw [pow_step c hi0, HX.out]; exact H1.out.1
      · have H1 := Lib.hid h1
        clear hh h1
        go_wp2_with fail
        go_ret2
        have hn : lifted c p = (0, false) := by
          unfold lifted
          rw [if_neg]
          have := pow_mono (c := c) (show i + 1 ≤ p by omega)
          rw [pow_step c hi0, HX.out] at this
          have := H1.out
          omega
        rw [hn]
        exact ⟨rfl, rfl⟩
    · have hsc2 := hsc
      clear hsc
      go_wp2_with fail
      go_ret2
      have hp2 : i.toNat = p.toNat := by omega
      have hn : lifted c p = (c * 10 ^ p.toNat, true) := by
        unfold lifted
        rw [if_pos]
        rw [← hp2]; exact hsc2.out.2
      rw [hn, ← hp2, hsc2.out.1]
      exact ⟨rfl, rfl⟩
end Go.Proofs.YtdliookdmgilgaaGreatDoor.Dc

/-
  Contract of package dec's Normal. No statement of the seat is proved here.
-/
namespace Go.Proofs.YtdliookdmgilgaaGreatDoor.Dc
open Go.RowKit

def dV (d : D) : Value := .agg #[.bool d.neg, .int .u64 d.c, .int .i64 d.e]
def nErr (d : D) : Int := if (normal d).isSome then 0 else 10
def nVal (d : D) : D := (normal d).getD D0

theorem load_dec {w : World} {g : Nat} {x y z : Value} (h : Box w g 50 [x, y, z]) : (loadVar 50 ⟨g, 0, none⟩).run Tryz.prog w = .ok (.agg #[x, y, z]) w := by
  have c0 : w.cell? ⟨g, 0, none⟩ = some x := h.cell 0
  have c1 : w.cell? ⟨g, 1, none⟩ = some y := h.cell 1
  have c2 : w.cell? ⟨g, 2, none⟩ = some z := h.cell 2
  simp [go_sem, c0, c1, c2]
theorem load_fault {w : World} {g : Nat} {x y : Value} (h : Box w g 34 [x, y]) : (loadVar 34 ⟨g, 0, none⟩).run Tryz.prog w = .ok (.agg #[x, y]) w := by
  have c0 : w.cell? ⟨g, 0, none⟩ = some x := h.cell 0
  have c1 : w.cell? ⟨g, 1, none⟩ = some y := h.cell 1
  simp [go_sem, c0, c1]
theorem addr_is (w : World) (g : Nat) : (asAddr (.pointer (some ⟨g, 0, none⟩))).run Tryz.prog w = .ok ⟨g, 0, none⟩ w := by simp [asAddr]
theorem results_cells {fn : Func} {p u : Tmp} {ty ty' : TypeId} (h : fn.results = #[.cell p ty, .cell u ty']) (tmps : Array Value) (w : World) :
    (results fn tmps).run Tryz.prog w = ((asAddr (tmps.getD p undef)).run Tryz.prog w).andThen fun a w1 => ((loadVar ty a).run Tryz.prog w1).andThen fun v w2 => ((asAddr (tmps.getD u undef)).run Tryz.prog w2).andThen fun a' w3 => ((loadVar ty' a').run Tryz.prog w3).andThen fun v' w4 => .ok (.tuple #[v, v']) w4 := by
  simp only [results, h]
  simp [Sem.run_bind, Result.andThen]
/-- A Dec and a number are returned. -/
theorem ret_dec {fn : Func} {p u : Tmp} (hres : fn.results = #[.cell p 50, .tmp u]) {R : Ending → World → Prop} {a : Act} {w : World} {g : Nat} {x y z v : Value} (hp : a.tmps.getD p undef = .pointer (some ⟨g, 0, none⟩)) (hu : a.tmps.getD u undef = v) (hd : a.defers = [])
    (hb : Box w g 50 [x, y, z]) (hR : R (.returned (.tuple #[.agg #[x, y, z], v])) w) : bodyPost Tryz.prog fn R .ret a w := by
  refine bodyPost_ret ?_ hd hR
  rw [results_cell_tmp hres, hp, hu, addr_is]
  simp only [Result.andThen]
  rw [load_dec hb]
/-- A Dec and a Fault are returned. -/
theorem ret_decs {fn : Func} {p u : Tmp} (hres : fn.results = #[.cell p 50, .cell u 34]) {R : Ending → World → Prop} {a : Act} {w : World} {g k : Nat} {x y z v v' : Value} (hp : a.tmps.getD p undef = .pointer (some ⟨g, 0, none⟩)) (hu : a.tmps.getD u undef = .pointer (some ⟨k, 0, none⟩)) (hd : a.defers = [])
    (hb : Box w g 50 [x, y, z]) (hk : Box w k 34 [v, v']) (hR : R (.returned (.tuple #[.agg #[x, y, z], .agg #[v, v']])) w) : bodyPost Tryz.prog fn R .ret a w := by
  refine bodyPost_ret ?_ hd hR
  rw [results_cells hres, hp, hu, addr_is]
  simp only [Result.andThen]
  rw [load_dec hb]
  simp only []
  rw [addr_is]
  simp only []
  rw [load_fault hk]

/-- The coefficient that lies in block g. -/
def coefAt (g : Nat) (w : World) : Nat := ((w.cell? ⟨g, 1, none⟩).map intOf).getD 0 |>.toNat

/-- What holds at each round's head. -/
def NormInv (d : D) (w wr : World) : Prop :=
  ∃ (x y : Int), Box wr w.heap.size 50 [.bool d.neg, .int .u64 x, .int .i64 y] ∧ (∃ z0 z1 z2, Box wr (w.heap.size + 1) 50 [z0, z1, z2]) ∧ Below w.heap.size w wr ∧ (∃ c : Nat, x = c ∧ 0 < c ∧ c ≤ d.c ∧ strip d.c d.e = strip c y) ∧ d.e ≤ y ∧ (y = d.e ∨ y ≤ 18)

set_option maxRecDepth 100000 in
set_option maxHeartbeats 2000000 in
theorem normal_calls (d : D) (hf : d.Fits) (w : World) : Calls Tryz.prog 82 #[dV d] w fun e w' => e = .returned (.tuple #[dV (nVal d), .int .i64 (nErr d)]) ∧ Below w.heap.size w w' := by
  have HF := Lib.hid hf
  unfold dV
  obtain ⟨x, hx⟩ : ∃ x : Int, x = (d.c : Int) := ⟨_, rfl⟩
  rw [← hx]
  have HX := Lib.hid hx
  obtain ⟨y, hy⟩ : ∃ y : Int, y = d.e := ⟨_, rfl⟩
  rw [← hy]
  have HY := Lib.hid hy
  obtain ⟨n, hn⟩ : ∃ n : Bool, n = d.neg := ⟨_, rfl⟩
  rw [← hn]
  have HN := Lib.hid hn
  clear hf hx hy hn
  go_enter Tryz.func82, Tryz.ntmps82
  by_cases h0 : x = 0
  · go_wp2_with fail
    have hn : normal d = some D0 := normal_zero (by have := HX.out; omega)
    have hs := size_alloc w (.cells #[.bool n, .int .u64 0, .int .i64 y] 50)
    refine ret_dec rfl rfl rfl rfl (by rw [← hs]; exact Box.new _ 50 [.bool false, .int .u64 0, .int .i64 0]) ⟨?_, ((Below.refl _ _).alloc (Nat.le_refl _) _).alloc (by simp) _⟩
    unfold nVal nErr
    rw [hn]
    rfl
  · have HI := Lib.hid (show NormInv d w ((w.alloc (.cells #[.bool n, .int .u64 x, .int .i64 y] 50)).alloc (.cells #[.bool false, .int .u64 0, .int .i64 0] 50)) from by
      have hs : (w.alloc (.cells #[.bool n, .int .u64 x, .int .i64 y] 50)).heap.size = w.heap.size + 1 := size_alloc _ _
      refine ⟨x, y, ?_, ⟨.bool false, .int .u64 0, .int .i64 0, ?_⟩, ((Below.refl _ _).alloc (Nat.le_refl _) _).alloc (by simp) _, ⟨d.c, HX.out, by have := HX.out; omega, Nat.le_refl _, by rw [HY.out]⟩, by have := HY.out; omega, Or.inl HY.out⟩
      · rw [← HN.out]; exact (Box.new w 50 [.bool n, .int .u64 x, .int .i64 y]).alloc _
      · rw [← hs]; exact Box.new _ 50 [.bool false, .int .u64 0, .int .i64 0])
    go_wp2_with fail
    go_loopw [] (fun wr => NormInv d w wr) (fun wr => coefAt w.heap.size wr)
    case atStart => exact HI.out
    case round =>
      obtain ⟨x1, y1, b1, ⟨z0, z1, z2, b2⟩, hb, hc, hle, hor⟩ := hrel
      have c0 : wr.cell? ⟨w.heap.size, 0, none⟩ = some (.bool d.neg) := b1.cell 0
      have c1 : wr.cell? ⟨w.heap.size, 1, none⟩ = some (.int .u64 x1) := b1.cell 1
      have c2 : wr.cell? ⟨w.heap.size, 2, none⟩ = some (.int .i64 y1) := b1.cell 2
      have f1 := b1.frozen 1
      have f2 := b1.frozen 2
      have r0 : wr.cell? ⟨w.heap.size + 1, 0, none⟩ = some z0 := b2.cell 0
      have r1 : wr.cell? ⟨w.heap.size + 1, 1, none⟩ = some z1 := b2.cell 1
      have r2 : wr.cell? ⟨w.heap.size + 1, 2, none⟩ = some z2 := b2.cell 2
      have g0 := b2.frozen 0
      have g1 := b2.frozen 1
      have g2 := b2.frozen 2
      have HH := Lib.hid (And.intro b1 (And.intro b2 (And.intro hb hc)))
      clear HI b1 b2 hb hc h0
      have hlo := HF.out.lo
      have hhi := HF.out.hi
      have hx0 : 0 < x1 := by obtain ⟨c, hc, _⟩ := HH.out.2.2.2; omega
      have hwr : ∀ a b c, Below w.heap.size w (((wr.setCell ⟨w.heap.size + 1, 0, none⟩ a).setCell ⟨w.heap.size + 1, 1, none⟩ b).setCell ⟨w.heap.size + 1, 2, none⟩ c) := fun a b c => below_set (below_set (below_set HH.out.2.2.1 (by omega) _ _) (by omega) _ _) (by omega) _ _
      have HW := Lib.hid hwr
      have hbx : ∀ a b c, Box (((wr.setCell ⟨w.heap.size + 1, 0, none⟩ a).setCell ⟨w.heap.size + 1, 1, none⟩ b).setCell ⟨w.heap.size + 1, 2, none⟩ c) (w.heap.size + 1) 50 [a, b, c] := fun a b c => ((HH.out.2.1.set 0 a).set 1 b).set 2 c
      have HBX := Lib.hid hbx
      clear hwr hbx
      have hst : y1 < 18 → ¬ x1 % 10 = 0 → strip d.c d.e = (x1.toNat, y1) := fun _ hm => by
        obtain ⟨c, hc, h0, _, hs⟩ := HH.out.2.2.2
        rw [hs, strip_stay (by omega), hc]; simp
      have hst2 : ¬ y1 < 18 → strip d.c d.e = (x1.toNat, y1) := fun hy => by
        obtain ⟨c, hc, h0, _, hs⟩ := HH.out.2.2.2
        rw [hs, strip_stay (by omega), hc]; simp
      have hdc : d.c ≠ 0 := by obtain ⟨c, hc, h0, h1, hs⟩ := HH.out.2.2.2; omega
      have hx64 : x1.toNat < Two64 := by obtain ⟨c, hc, h0, h1, hs⟩ := HH.out.2.2.2; have := HF.out.c; omega
      have HSX := Lib.hid (And.intro hst (And.intro hst2 (And.intro hdc hx64)))
      clear hst hst2 hdc hx64
      by_cases hy18 : y1 < 18
      · by_cases hm : x1 % 10 = 0
        · clear HSX HW HBX
          have hdiv : IntKind.u64.wrap (x1.tdiv 10) = x1 / 10 := by
            have := HF.out.c
            obtain ⟨c, hc, h0, h1, hs⟩ := HH.out.2.2.2
            unfold Two64 at this
            rw [Int.tdiv_eq_ediv_of_nonneg (by omega), IntKind.wrap_u64]; omega
          go_wp2_with fail
          try rw [hdiv]
          have k1 := (HH.out.1.set 1 (.int .u64 (x1 / 10))).set 2 (.int .i64 (y1 + 1))
          refine ⟨⟨x1 / 10, y1 + 1, k1, ⟨z0, z1, z2, ((HH.out.2.1.far (q := ⟨w.heap.size, 1, none⟩) (by show w.heap.size + 1 ≠ w.heap.size; omega) _).far (q := ⟨w.heap.size, 2, none⟩) (by show w.heap.size + 1 ≠ w.heap.size; omega) _)⟩, below_set (below_set HH.out.2.2.1 (Nat.le_refl _) _ _) (Nat.le_refl _) _ _, ?_, by omega, by omega⟩, ?_⟩
          · obtain ⟨c, hc, h0, h1, hs⟩ := HH.out.2.2.2
            exact ⟨c / 10, by omega, by omega, by omega, by rw [hs, strip_go h0 hy18 (by omega)]⟩
          · unfold coefAt
            rw [k1.cell 1, HH.out.1.cell 1]
            simp [intOf]
            omega
        · go_wp2_with fail
          · refine ret_dec rfl rfl rfl rfl (HBX.out _ _ _) ⟨?_, HW.out _ _ _⟩
            have hs := HSX.out.1 hy18 hm
            have hn : normal d = none := by unfold normal norm; rw [if_neg HSX.out.2.2.1, hs, if_pos (show y1 < -18 by omega)]; rfl
            unfold nVal nErr
            rw [hn]
            rfl
          · refine ret_dec rfl rfl rfl rfl (HBX.out _ _ _) ⟨?_, HW.out _ _ _⟩
            have hs := HSX.out.1 hy18 hm
            have hn : normal d = some ⟨d.neg, x1.toNat, y1⟩ := by
              unfold normal norm
              rw [if_neg HSX.out.2.2.1, hs]
              simp only []
              rw [if_neg (show ¬ y1 < -18 by omega), if_neg (show ¬ (18 : Int) ≤ y1 by omega), if_pos HSX.out.2.2.2]
              simp only [Option.map_some, mkD]
              rw [if_neg (by omega)]
            unfold nVal nErr
            rw [hn]
            simp
            omega
      · by_cases h18 : 18 < y1
        · have HL := Lib.hid (lift_calls x1.toNat (y1 - 18) wr HSX.out.2.2.2 (by omega))
          rw [show ((x1.toNat : Nat) : Int) = x1 by omega] at HL
          obtain ⟨r, b, hr⟩ : ∃ r b, lifted x1.toNat (y1 - 18) = (r, b) := ⟨_, _, rfl⟩
          rw [hr] at HL
          have HR := Lib.hid hr
          obtain ⟨rz, hrz⟩ : ∃ rz : Int, rz = (r : Int) := ⟨_, rfl⟩
          simp only [← hrz] at HL
          have HRZ := Lib.hid hrz
          clear hr hrz
          have hs := HSX.out.2.1 hy18
          have hno : normal d = (if x1.toNat * 10 ^ (y1 - 18).toNat < Two64 then some ⟨d.neg, x1.toNat * 10 ^ (y1 - 18).toNat, 18⟩ else none) := by
            unfold normal norm
            rw [if_neg HSX.out.2.2.1, hs]
            simp only []
            rw [if_neg (show ¬ y1 < -18 by omega), if_pos (show (18 : Int) ≤ y1 by omega)]
            split
            · simp only [Option.map_some, mkD]
              rw [if_neg (Nat.ne_of_gt (Nat.mul_pos (by omega) (Nat.pos_of_ne_zero (by simp))))]
            · rfl
          have HNO := Lib.hid hno
          clear hs hno
          go_wp2_with fail
          refine HL.out.mono ?_
          rintro e w' ⟨rfl, rfl⟩
          cases b
          · go_wp2_with fail
            refine ret_dec rfl rfl rfl rfl (HBX.out _ _ _) ⟨?_, HW.out _ _ _⟩
            have hn : normal d = none := by
              rw [HNO.out, if_neg]
              intro hlt
              have := HR.out
              unfold lifted at this
              rw [if_pos hlt] at this
              cases this
            unfold nVal nErr
            rw [hn]
            rfl
          · go_wp2_with fail
            refine ret_dec rfl rfl rfl rfl ((((HH.out.2.1.far (q := ⟨w.heap.size, 1, none⟩) (by show w.heap.size + 1 ≠ w.heap.size; omega) _).far (q := ⟨w.heap.size, 2, none⟩) (by show w.heap.size + 1 ≠ w.heap.size; omega) _).set 0 _ |>.set 1 _).set 2 _) ⟨?_, below_set (below_set (below_set (below_set (below_set HH.out.2.2.1 (Nat.le_refl _) _ _) (Nat.le_refl _) _ _) (by omega) _ _) (by omega) _ _) (by omega) _ _⟩
            have hlt : x1.toNat * 10 ^ (y1 - 18).toNat < Two64 ∧ x1.toNat * 10 ^ (y1 - 18).toNat = r := by
              have := HR.out
              unfold lifted at this
              split at this
              · rename_i h; exact ⟨h, congrArg Prod.fst this⟩
              · cases this
            have hn := HNO.out
            rw [if_pos hlt.1, hlt.2] at hn
            unfold nVal nErr
            rw [hn, HRZ.out]
            rfl
        · go_wp2_with fail
          refine ret_dec rfl rfl rfl rfl (HBX.out _ _ _) ⟨?_, HW.out _ _ _⟩
          have hs := HSX.out.2.1 hy18
          obtain rfl : y1 = 18 := by omega
          have hn : normal d = some ⟨d.neg, x1.toNat, 18⟩ := by
            unfold normal norm
            rw [if_neg HSX.out.2.2.1, hs]
            simp only []
            rw [if_neg (show ¬ (18 : Int) < -18 by omega), if_pos (show (18 : Int) ≤ 18 by omega)]
            simp only [Int.sub_self, Int.toNat_zero, Nat.pow_zero, Nat.mul_one]
            rw [if_pos HSX.out.2.2.2]
            simp only [Option.map_some, mkD]
            rw [if_neg (by omega)]
          unfold nVal nErr
          rw [hn]
          simp
          omega
end Go.Proofs.YtdliookdmgilgaaGreatDoor.Dc
