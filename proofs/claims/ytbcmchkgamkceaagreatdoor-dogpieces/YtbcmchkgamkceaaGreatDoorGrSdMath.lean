/-
  SdMath, SdLine, SdBack, GrBack, OgLine, OgWord, OgPlaces, OgRows, OgVals, SdRef, SdNum, OgBack, OgTold, OgLineP. No statement of the seat is proved here.
-/
import Derived.Test.YtbcmchkgamkceaaGreatDoorGrTText
import Derived.Test.YtbcmchkgamkceaaGreatDoorGrTMath
import Derived.Test.YtbcmchkgamkceaaGreatDoorGrNRate
import Derived.Laws.OwnMore
import Derived.Test.YtbcmchkgamkceaaGreatDoorGrKIs
/-
  Lines of StatsD as plain data: which line a metric has, and which metric a line is. Nothing of the program.
-/
namespace Go.Proofs.YtbcmchkgamkceaaGreatDoor
open Dc (D D0)

/-! How long a number's text is. -/
namespace Dc
theorem scan_long (l : List UInt8) : ∀ (n : Nat) (below point wanted : Bool) (v p : Nat) (B : Bool) (V P : Nat), scan n below point wanted v p l = .ok B V P →
    ∃ Q a s : Nat, V < (v + 1) * 10 ^ Q ∧ p ≤ P ∧ P ≤ p + Q ∧ Q + a + s ≤ l.length ∧ (point = false → p < P → 1 ≤ a) ∧ (below = false → B = true → 1 ≤ s) ∧
      (point = true → P = p + Q) ∧ (wanted = true → 1 ≤ Q) ∧ (point = false → wanted = true → P + 1 ≤ p + Q) := by
  induction l with
  | nil =>
    intro n below point wanted v p B V P h
    unfold scan at h
    split at h
    · cases h
    · rename_i hw
      injection h with h1 h2 h3
      subst h1 h2 h3
      exact ⟨0, 0, 0, by simp, by omega, by omega, by simp, fun _ h => absurd h (by omega), fun h1 h2 => (by rw [h1] at h2; cases h2), fun _ => by omega, fun h => absurd h hw, fun _ h => absurd h hw⟩
  | cons b r ih =>
    intro n below point wanted v p B V P h
    rw [scan] at h
    split at h
    · rename_i hd
      obtain ⟨Q, a, s, h1, h2, h3, h4, h5, h6, h7, h8, h9⟩ := ih _ _ _ _ _ _ _ _ _ h
      have hv : (10 * v + (b.toNat - 48) + 1) * 10 ^ Q ≤ (v + 1) * 10 ^ (Q + 1) := by
        rw [Nat.pow_succ, Nat.mul_comm (10 ^ Q) 10, ← Nat.mul_assoc]
        exact Nat.mul_le_mul_right _ (by omega)
      refine ⟨Q + 1, a, s, Nat.lt_of_lt_of_le h1 hv, ?_, ?_, by rw [List.length_cons]; omega, ?_, h6, ?_, fun _ => by omega, ?_⟩
      · cases point <;> simp at h2 <;> omega
      · cases point <;> simp at h3 <;> omega
      · intro hp hlt
        subst hp
        exact h5 rfl (by simpa using hlt)
      · intro hp
        subst hp
        have := h7 rfl
        simp at this
        omega
      · intro hp _
        subst hp
        simp at h3
        omega
    · split at h
      · rename_i h0 hdot
        obtain ⟨Q, a, s, h1, h2, h3, h4, h5, h6, h7, h8, h9⟩ := ih _ _ _ _ _ _ _ _ _ h
        have k7 := h7 rfl
        have k8 := h8 rfl
        exact ⟨Q, a + 1, s, h1, h2, h3, by rw [List.length_cons]; omega, fun _ _ => by omega, h6, (fun hp => by rw [hp] at hdot; exact absurd hdot.2.2 (by decide)), fun _ => k8, fun _ hw => (by rw [hw] at hdot; exact absurd hdot.2.1 (by decide))⟩
      · split at h
        · obtain ⟨Q, a, s, h1, h2, h3, h4, h5, h6, h7, h8, h9⟩ := ih _ _ _ _ _ _ _ _ _ h
          exact ⟨Q, a, s + 1, h1, h2, h3, by rw [List.length_cons]; omega, h5, fun _ _ => by omega, h7, h8, h9⟩
        · cases h
theorem decDigits_low {c : Nat} (h : 0 < c) : 10 ^ ((Lib.decDigits c).length - 1) ≤ c := by
  obtain ⟨hv, hd⟩ := val_decDigits c
  rcases digits_head c with h0 | h0
  · obtain ⟨b, r, hb⟩ := List.exists_cons_of_ne_nil (decDigits_ne c)
    rw [hb] at h0 hv hd
    have h1 : b ≠ 48 := fun e => h0 (by rw [e]; rfl)
    have h2 := hd b (List.mem_cons_self ..)
    have h3 : 49 ≤ b.toNat := by
      have : b.toNat ≠ 48 := fun e => h1 (UInt8.toNat_inj.1 (by rw [e]; rfl))
      unfold Dig at h2
      omega
    rw [hb, List.length_cons, Nat.add_sub_cancel]
    rw [val_cons] at hv
    have : 1 * 10 ^ r.length ≤ (b.toNat - 48) * 10 ^ r.length := Nat.mul_le_mul_right _ (by omega)
    omega
  · rw [h0]; show 10 ^ 0 ≤ c; rw [Nat.pow_zero]; omega
theorem dec0 : Lib.decDigits 0 = [48] := by rw [Lib.decDigits]; rfl
theorem pow10_lt {a b : Nat} (h : 10 ^ a < 10 ^ b) : a < b := by
  rcases Nat.lt_or_ge a b with h1 | h1
  · exact h1
  · have := Nat.pow_le_pow_right (show 0 < 10 by omega) h1
    omega
/-- The text of what is parsed is no longer than what was parsed. -/
theorem text_short {l : List UInt8} {d : D} (h : parse l = (d, 0, 0)) : (text d).length ≤ l.length := by
  unfold parse at h
  cases hs : scan 0 false false true 0 0 l with
  | bad c k =>
    rw [hs] at h
    obtain ⟨h1, _⟩ := scan_bad l _ _ _ _ _ _ _ _ hs
    injection h with _ h
    injection h with h _
    omega
  | ok B V P =>
    rw [hs, told_is] at h
    obtain ⟨Q, a, s, h1, h2, h3, h4, h5, h6, h7, h8, h9⟩ := scan_long l _ _ _ _ _ _ _ _ _ hs
    have h5 := h5 rfl
    have h6 := h6 rfl
    have h8 := h8 rfl
    have h9 := h9 rfl rfl
    rw [Nat.zero_add, Nat.one_mul] at h1
    cases hn : norm V (-(P : Int)) with
    | none =>
      rw [hn] at h
      injection h with _ h
      injection h with h _
      omega
    | some q =>
      rw [hn] at h
      obtain ⟨c, e⟩ := q
      injection h with hd _
      rcases Nat.eq_zero_or_pos V with hV | hV
      · subst hV
        have : norm 0 (-(P : Int)) = some (0, 0) := by simp [norm]
        rw [this] at hn
        injection hn with hn
        injection hn with e1 e2
        subst e1 e2
        subst hd
        have : text (mkD B (0, 0)) = [48] := by
          unfold mkD text sized
          simp [dec0]
        rw [this, List.length_singleton]
        omega
      · obtain ⟨n1, n2⟩ := norm_same hn (by omega) (by omega)
        have hc : 0 < c := by
          rcases Nat.eq_zero_or_pos c with h0 | h0
          · rw [h0, Nat.zero_mul] at n2; omega
          · exact h0
        obtain ⟨t, ht⟩ : ∃ t : Nat, (e - -(P : Int)).toNat = t := ⟨_, rfl⟩
        rw [ht] at n2
        have hm : (Lib.decDigits c).length + t ≤ Q := by
          have := decDigits_low hc
          have h9 : 10 ^ ((Lib.decDigits c).length - 1) * 10 ^ t ≤ V := by rw [n2]; exact Nat.mul_le_mul_right _ this
          rw [← Nat.pow_add] at h9
          have h10 := pow10_lt (Nat.lt_of_le_of_lt h9 h1)
          have h11 : (Lib.decDigits c).length ≠ 0 := fun h0 => decDigits_ne c (List.eq_nil_of_length_eq_zero h0)
          omega
        have hneg : (sgn d.neg).length ≤ s := by
          subst hd
          show (sgn (if c = 0 then false else B)).length ≤ _
          rw [if_neg (by omega)]
          cases B
          · exact Nat.zero_le _
          · exact h6 rfl
        have hsz : (sized c e).length ≤ Q + a := by
          unfold sized
          split
          · have := pointed_length (Lib.decDigits c) (-e).toNat
            have := h5 (by omega)
            omega
          · rw [List.length_append, List.length_replicate]
            omega
        have hde : d.c = c ∧ d.e = e := by subst hd; exact ⟨rfl, rfl⟩
        rw [text_sgn, List.length_append, hde.1, hde.2]
        omega
end Dc
end Go.Proofs.YtbcmchkgamkceaaGreatDoor

/-
  Lines of StatsD as plain data: which line a metric has, and which metric a line is. Nothing of the program.
-/
namespace Go.Proofs.YtbcmchkgamkceaaGreatDoor
open Dc (D D0)

/-! A text cut at a byte. -/
def cutB (c : UInt8) : List UInt8 → List UInt8 × Bool × List UInt8
  | [] => ([], false, [])
  | b :: r => if b = c then ([], true, r) else (b :: (cutB c r).1, (cutB c r).2.1, (cutB c r).2.2)
theorem cutB_hit {c : UInt8} : ∀ {p : List UInt8} (r : List UInt8), c ∉ p → cutB c (p ++ c :: r) = (p, true, r)
  | [], r, _ => by show (if c = c then _ else _) = _; rw [if_pos rfl]
  | b :: p, r, h => by
    have h1 : b ≠ c := fun e => h (by rw [e]; exact List.mem_cons_self ..)
    have h2 : c ∉ p := fun e => h (List.mem_cons_of_mem _ e)
    show (if b = c then _ else _) = _
    rw [if_neg h1, List.append_eq, cutB_hit r h2]
theorem cutB_miss {c : UInt8} : ∀ {p : List UInt8}, c ∉ p → cutB c p = (p, false, [])
  | [], _ => rfl
  | b :: p, h => by
    have h1 : b ≠ c := fun e => h (by rw [e]; exact List.mem_cons_self ..)
    have h2 : c ∉ p := fun e => h (List.mem_cons_of_mem _ e)
    show (if b = c then _ else _) = _
    rw [if_neg h1, cutB_miss h2]
theorem cutB_cases (c : UInt8) : ∀ l : List UInt8, (c ∉ l ∧ cutB c l = (l, false, [])) ∨ ∃ p r, c ∉ p ∧ l = p ++ c :: r ∧ cutB c l = (p, true, r)
  | [] => .inl ⟨by simp, rfl⟩
  | b :: l => by
    by_cases hb : b = c
    · subst hb
      exact .inr ⟨[], l, by simp, rfl, by show (if b = b then _ else _) = _; rw [if_pos rfl]⟩
    · rcases cutB_cases c l with ⟨h1, h2⟩ | ⟨p, r, h1, h2, h3⟩
      · refine .inl ⟨fun h => ?_, ?_⟩
        · rcases List.mem_cons.1 h with h | h
          · exact hb h.symm
          · exact h1 h
        · show (if b = c then _ else _) = _
          rw [if_neg hb, h2]
      · refine .inr ⟨b :: p, r, fun h => ?_, by rw [h2]; rfl, ?_⟩
        · rcases List.mem_cons.1 h with h | h
          · exact hb h.symm
          · exact h1 h
        · show (if b = c then _ else _) = _
          rw [if_neg hb, h3]

/-! Words of kinds. -/
def wordOf (k : Int) : List UInt8 := if k = 1 then [99] else if k = 2 then [103] else if k = 3 then [109, 115] else if k = 4 then [104] else []
def kindOf (w : List UInt8) : Int := if w = [99] then 1 else if w = [103] then 2 else if w = [109, 115] then 3 else if w = [104] then 4 else 0
theorem kindOf_word {k : Int} (h : 1 ≤ k ∧ k ≤ 4) : kindOf (wordOf k) = k := by
  rcases (by omega : k = 1 ∨ k = 2 ∨ k = 3 ∨ k = 4) with rfl | rfl | rfl | rfl <;> decide
theorem wordOf_kind {w : List UInt8} (h : kindOf w ≠ 0) : wordOf (kindOf w) = w ∧ 1 ≤ kindOf w ∧ kindOf w ≤ 4 := by
  unfold kindOf at *
  split
  · rename_i e; rw [e]; decide
  · split
    · rename_i e; rw [e]; decide
    · split
      · rename_i e; rw [e]; decide
      · split
        · rename_i e; rw [e]; decide
        · rename_i h1 h2 h3 h4
          rw [if_neg h1, if_neg h2, if_neg h3, if_neg h4] at h
          exact absurd rfl h
theorem wordOf_none {k : Int} (h : ¬ (1 ≤ k ∧ k ≤ 4)) : wordOf k = [] := by
  unfold wordOf
  rw [if_neg (by omega), if_neg (by omega), if_neg (by omega), if_neg (by omega)]
theorem wordOf_bar (k : Int) : (124 : UInt8) ∉ wordOf k := by
  unfold wordOf
  split
  · decide
  · split
    · decide
    · split
      · decide
      · split <;> decide
theorem wordOf_len {k : Int} (h : 1 ≤ k ∧ k ≤ 4) : 1 ≤ (wordOf k).length ∧ (wordOf k).length ≤ 2 := by
  rcases (by omega : k = 1 ∨ k = 2 ∨ k = 3 ∨ k = 4) with rfl | rfl | rfl | rfl <;> decide

/-! A metric of a line. -/
def oneS (name : List UInt8) (k : Int) (d : D) (r : Int) : Mt := ⟨name, k, [d], r, [], 0⟩
def failS (c : Int) (at_ : Nat) : Mt × Int × Int := (M0, c, (at_ : Int))
/-- What stands behind the second bar, which is ahead of place c. -/
def restS (c : Nat) (name : List UInt8) (k : Int) (d : D) : List UInt8 → Mt × Int × Int
  | [] => failS 11 c
  | b :: r =>
    if b ≠ 64 then failS 11 c
    else if (rated (cutB 124 r).1).2.1 ≠ 0 ∨ (k = 2 ∧ (rated (cutB 124 r).1).1 ≠ 1000000) then failS 18 (c + 1)
    else if (cutB 124 r).2.1 = true then failS 11 (c + 1 + (cutB 124 r).1.length)
    else (oneS name k d (rated (cutB 124 r).1).1, 0, 0)
/-- .. behind the value's bar, which is ahead of place b; a: where the value begins. -/
def wordS (a b : Nat) (name v : List UInt8) (d : D) (l : List UInt8) : Mt × Int × Int :=
  if kindOf (cutB 124 l).1 = 0 then failS 16 b
  else if kindOf (cutB 124 l).1 = 2 ∧ v.head? = some 45 then failS 26 a
  else if (cutB 124 l).2.1 = false then (oneS name (kindOf (cutB 124 l).1) d 1000000, 0, 0)
  else restS (b + (cutB 124 l).1.length + 1) name (kindOf (cutB 124 l).1) d (cutB 124 l).2.2
/-- .. behind the name's colon, which is ahead of place a; n: where the text ends. -/
def valueS (a n : Nat) (name l : List UInt8) : Mt × Int × Int :=
  if (Dc.parse (cutB 124 l).1).2.1 ≠ 0 then failS 17 a
  else if (cutB 124 l).2.1 = false then failS 11 n
  else wordS a (a + (cutB 124 l).1.length + 1) name (cutB 124 l).1 (Dc.parse (cutB 124 l).1).1 (cutB 124 l).2.2
def parseS (l : List UInt8) : Mt × Int × Int :=
  if nameR (cutB 58 l).1 = false then failS 15 0
  else if (cutB 58 l).2.1 = false then failS 11 l.length
  else valueS ((cutB 58 l).1.length + 1) l.length (cutB 58 l).1 (cutB 58 l).2.2

/-- A metric's line. -/
def rateS (r : Int) : List UInt8 := if r = 1000000 then [] else 124 :: 64 :: rateText r.toNat
def lineS (m : Mt) : List UInt8 := m.name ++ 58 :: (Dc.text (m.vals.headD D0) ++ 124 :: (wordOf m.kind ++ rateS m.rate))

/-! Bytes. -/
theorem name_bytes {l : List UInt8} (h : nameR l = true) : 1 ≤ l.length ∧ l.length ≤ 200 ∧ (58 : UInt8) ∉ l ∧ (124 : UInt8) ∉ l := by
  have h := of_decide_eq_true h
  unfold faultOf at h
  rw [if_neg (by decide)] at h
  split at h
  · injection h with h; omega
  · split at h
    · injection h with h; omega
    · split at h
      · injection h with h; omega
      · rename_i h1 h2 h3
        rcases bad_cases 1 l with ⟨k, hk, hb, _⟩ | ⟨hb, hall⟩
        · omega
        · refine ⟨by omega, by omega, fun hm => ?_, fun hm => ?_⟩
          · obtain ⟨i, hi, e⟩ := List.mem_iff_getElem.1 hm
            have := hall i hi
            rw [e] at this
            exact absurd this (by decide)
          · obtain ⟨i, hi, e⟩ := List.mem_iff_getElem.1 hm
            have := hall i hi
            rw [e] at this
            exact absurd this (by decide)
theorem digs_bar {l : List UInt8} (h : Digs l) : (124 : UInt8) ∉ l := fun hm => by have := h _ hm; unfold Dig at this; revert this; decide
theorem sized_bar (c : Nat) (e : Int) : (124 : UInt8) ∉ Dc.sized c e := by
  rcases (by omega : 0 ≤ e ∨ e < 0) with h | h
  · exact digs_bar ((Dc.sized_split c e).1 h).1
  · obtain ⟨a, b, e1, ha, _, hb, _⟩ := (Dc.sized_split c e).2 h
    rw [e1]
    intro hm
    rcases List.mem_append.1 hm with hm | hm
    · rcases List.mem_append.1 hm with hm | hm
      · exact digs_bar ha hm
      · rcases List.mem_singleton.1 hm with h; revert h; decide
    · exact digs_bar hb hm
theorem text_bar (d : D) : (124 : UInt8) ∉ Dc.text d := by
  rw [Dc.text_sgn]
  intro hm
  rcases List.mem_append.1 hm with hm | hm
  · unfold Dc.sgn at hm
    split at hm
    · rcases List.mem_singleton.1 hm with h; revert h; decide
    · cases hm
  · exact sized_bar _ _ hm
theorem text_head {d : D} (h : d.neg = false) : (Dc.text d).head? ≠ some 45 := by
  rw [Dc.text_sgn, h]
  show (Dc.sized d.c d.e).head? ≠ some 45
  have key : ∀ {l : List UInt8} (r : List UInt8), Digs l → l ≠ [] → (l ++ r).head? ≠ some 45 := by
    intro l r hd hne
    obtain ⟨b, t, e, hb⟩ := Dc.digs_first hd hne
    rw [e]
    intro hh
    injection hh with hh
    subst hh
    unfold Dig at hb
    revert hb; decide
  rcases (by omega : 0 ≤ d.e ∨ d.e < 0) with h | h
  · have := key [] ((Dc.sized_split d.c d.e).1 h).1 ((Dc.sized_split d.c d.e).1 h).2.1
    rwa [List.append_nil] at this
  · obtain ⟨a, b, e1, ha, hna, _⟩ := (Dc.sized_split d.c d.e).2 h
    rw [e1, List.append_assoc]
    exact key _ ha hna
theorem rateText_bar {n : Nat} (h0 : n ≠ 0) (h : n ≤ 1000000) : (124 : UInt8) ∉ rateText n := by
  rcases Nat.lt_or_ge n 1000000 with hl | hl
  · obtain ⟨t, x, e, _, hd, _⟩ := rate_digits h0 hl
    rw [rateText_is hl, e]
    intro hm
    rcases List.mem_cons.1 hm with hm | hm
    · revert hm; decide
    · rcases List.mem_cons.1 hm with hm | hm
      · revert hm; decide
      · exact digs_bar hd hm
  · obtain rfl : n = 1000000 := by omega
    decide
end Go.Proofs.YtbcmchkgamkceaaGreatDoor

/-
  Lines of StatsD as plain data: what is written is parsed, and what is parsed is written. Nothing of the program.
-/
namespace Go.Proofs.YtbcmchkgamkceaaGreatDoor
open Dc (D D0)

section
variable {name v w t q : List UInt8} {d : D} {k r : Int} {a b c n : Nat}
theorem parseS_to (hn : nameR name = true) (hv : Dc.parse v = (d, 0, 0)) (hb : (124 : UInt8) ∉ v) (w : List UInt8) : parseS (name ++ 58 :: (v ++ 124 :: w)) = wordS (name.length + 1) (name.length + 1 + v.length + 1) name v d w := by
  unfold parseS
  rw [cutB_hit _ (name_bytes hn).2.2.1]
  simp only [hn, Bool.true_eq_false, if_false]
  unfold valueS
  rw [cutB_hit _ hb]
  simp only [hv, Bool.true_eq_false, if_false]
  rfl
theorem wordS_end (hk : 1 ≤ k ∧ k ≤ 4) (hh : ¬ (k = 2 ∧ v.head? = some 45)) : wordS a b name v d (wordOf k) = (oneS name k d 1000000, 0, 0) := by
  unfold wordS
  rw [cutB_miss (wordOf_bar k)]
  simp only [kindOf_word hk, if_true]
  rw [if_neg (by omega), if_neg hh]
theorem wordS_more (hk : 1 ≤ k ∧ k ≤ 4) (hh : ¬ (k = 2 ∧ v.head? = some 45)) (t : List UInt8) : wordS a b name v d (wordOf k ++ 124 :: t) = restS (b + (wordOf k).length + 1) name k d t := by
  unfold wordS
  rw [cutB_hit _ (wordOf_bar k)]
  simp only [kindOf_word hk, Bool.true_eq_false, if_false]
  rw [if_neg (by omega), if_neg hh]
theorem restS_cons (x : UInt8) (r : List UInt8) : restS c name k d (x :: r) = if x ≠ 64 then failS 11 c
    else if (rated (cutB 124 r).1).2.1 ≠ 0 ∨ (k = 2 ∧ (rated (cutB 124 r).1).1 ≠ 1000000) then failS 18 (c + 1)
    else if (cutB 124 r).2.1 = true then failS 11 (c + 1 + (cutB 124 r).1.length)
    else (oneS name k d (rated (cutB 124 r).1).1, 0, 0) := rfl
theorem restS_rate (hb : (124 : UInt8) ∉ q) (hq : rated q = (r, 0, 0)) (hk : k = 2 → r = 1000000) : restS c name k d (64 :: q) = (oneS name k d r, 0, 0) := by
  rw [restS_cons, cutB_miss hb]
  simp only [hq]
  rw [if_neg (by simp), if_neg (by rintro (h | ⟨h1, h2⟩); exact h rfl; exact h2 (hk h1)), if_neg (by decide)]
theorem restS_bar (hb : (124 : UInt8) ∉ q) (hq : rated q = (r, 0, 0)) (hk : k = 2 → r = 1000000) (t : List UInt8) : restS c name k d (64 :: (q ++ 124 :: t)) = failS 11 (c + 1 + q.length) := by
  rw [restS_cons, cutB_hit _ hb]
  simp only [hq]
  rw [if_neg (by simp), if_neg (by rintro (h | ⟨h1, h2⟩); exact h rfl; exact h2 (hk h1))]
  rfl
theorem restS_none (h : t.head? ≠ some 64) : restS c name k d t = failS 11 c := by
  cases t with
  | nil => rfl
  | cons x t =>
    rw [restS_cons, if_pos fun e => h (by rw [e]; rfl)]
end

/-- A metric that StatsD can say. -/
structure Said (name : List UInt8) (k : Int) (d : D) (r : Int) : Prop where
  name : nameR name = true
  kind : 1 ≤ k ∧ k ≤ 4
  val : d.One
  sign : k = 2 → d.neg = false
  rate : 1 ≤ r ∧ r ≤ 1000000
  gauge : k = 2 → r = 1000000
theorem said_of {m : Mt} (hc : checkM m = 0) (hs : saysM m 1 = true) : ∃ name k d r, m = oneS name k d r ∧ Said name k d r := by
  obtain ⟨h1, h2, h3, h4, h5, h6⟩ := restM_zero.1 hc
  have hv := checkM_ok hc
  unfold saysM at hs
  rw [if_pos rfl] at hs
  unfold says1 bareN at hs
  simp only [Bool.and_eq_true, decide_eq_true_eq, Bool.not_eq_true', Bool.and_eq_false_iff, decide_eq_false_iff_not] at hs
  obtain ⟨⟨⟨⟨s1, s2⟩, s3⟩, s4⟩, s5⟩ := hs
  obtain ⟨nm, kd, vs, rt, ts, tm⟩ := m
  obtain ⟨d, rfl⟩ := List.length_eq_one_iff.1 s1
  obtain rfl := List.eq_nil_of_length_eq_zero s2
  obtain rfl : tm = 0 := s3
  have h2 : 1 ≤ kd ∧ kd ≤ 5 := of_decide_eq_true h2
  have h4 : 1 ≤ rt ∧ rt ≤ 1000000 ∧ (kd = 2 → rt = 1000000) := of_decide_eq_true h4
  unfold okV at hv
  rw [List.all_eq_true] at hv
  have hd := of_decide_eq_true (hv d (List.mem_singleton.2 rfl))
  have s4 : kd ≠ 5 := s4
  refine ⟨nm, kd, d, rt, rfl, h1, by omega, Dc.check_ok.1 hd, fun hk => ?_, ⟨h4.1, h4.2.1⟩, h4.2.2⟩
  rcases s5 with s5 | s5
  · exact absurd hk s5
  · exact s5
theorem Said.check {name : List UInt8} {k : Int} {d : D} {r : Int} (h : Said name k d r) : checkM (oneS name k d r) = 0 ∧ saysM (oneS name k d r) 1 = true ∧ isM (oneS name k d r) = true := by
  have hc : checkM (oneS name k d r) = 0 := by
    refine restM_zero.2 ⟨h.name, decide_eq_true ⟨h.kind.1, ?_⟩, ?_, decide_eq_true ⟨h.rate.1, h.rate.2, h.gauge⟩, rfl, rfl⟩
    · have := h.kind.2
      show k ≤ 5; omega
    · show valsR (okV [d]) 1 = true
      unfold okV
      simp only [List.all_cons, List.all_nil, Bool.and_true, Dc.check_ok.2 h.val]
      decide
  refine ⟨hc, ?_, ?_⟩
  · unfold saysM
    rw [if_pos rfl]
    show says1 1 0 k 0 d.neg = true
    unfold says1 bareN
    have := h.kind
    simp only [decide_true, Bool.true_and, Bool.and_eq_true, decide_eq_true_eq, Bool.not_eq_true', Bool.and_eq_false_iff, decide_eq_false_iff_not]
    refine ⟨by omega, ?_⟩
    by_cases hk : k = 2
    · exact .inr (h.sign hk)
    · exact .inl hk
  · unfold isM
    rw [decide_eq_true hc]
    rfl
theorem lineS_one (name : List UInt8) (k : Int) (d : D) (r : Int) : lineS (oneS name k d r) = name ++ 58 :: (Dc.text d ++ 124 :: (wordOf k ++ rateS r)) := rfl
section
variable {name : List UInt8} {k : Int} {d : D} {r : Int}
theorem Said.head (h : Said name k d r) : ¬ (k = 2 ∧ (Dc.text d).head? = some 45) := fun ⟨h1, h2⟩ => text_head (h.sign h1) h2
theorem Said.rated (h : Said name k d r) : rated (rateText r.toNat) = (r, 0, 0) ∧ (124 : UInt8) ∉ rateText r.toNat := by
  have := h.rate
  have e := rated_text (n := r.toNat) (by omega) (by omega)
  rw [Int.toNat_of_nonneg (by omega)] at e
  exact ⟨e, rateText_bar (by omega) (by omega)⟩
/-- What is written is parsed as the metric. -/
theorem Said.back (h : Said name k d r) : parseS (lineS (oneS name k d r)) = (oneS name k d r, 0, 0) := by
  rw [lineS_one, parseS_to h.name (Dc.parse_text h.val) (text_bar d)]
  unfold rateS
  split
  · rename_i hr
    subst hr
    rw [List.append_nil]
    exact wordS_end h.kind h.head
  · rw [wordS_more h.kind h.head]
    exact restS_rate h.rated.2 h.rated.1 h.gauge
/-- Whatever stands behind a whole line is refused where it begins. -/
theorem Said.behind (h : Said name k d r) (s : List UInt8) : (r ≠ 1000000 → parseS (lineS (oneS name k d r) ++ 124 :: s) = failS 11 (lineS (oneS name k d r)).length) ∧
    (r = 1000000 → s.head? ≠ some 64 → parseS (lineS (oneS name k d r) ++ 124 :: s) = failS 11 ((lineS (oneS name k d r)).length + 1)) := by
  constructor
  · intro hr
    have e : lineS (oneS name k d r) ++ 124 :: s = name ++ 58 :: (Dc.text d ++ 124 :: (wordOf k ++ 124 :: (64 :: (rateText r.toNat ++ 124 :: s)))) := by
      rw [lineS_one]
      unfold rateS
      rw [if_neg hr]
      simp
    have el : (lineS (oneS name k d r)).length = name.length + 1 + (Dc.text d).length + 1 + (wordOf k).length + 1 + 1 + (rateText r.toNat).length := by
      rw [lineS_one]
      unfold rateS
      rw [if_neg hr]
      simp
      omega
    rw [e, parseS_to h.name (Dc.parse_text h.val) (text_bar d), wordS_more h.kind h.head, restS_bar h.rated.2 h.rated.1 h.gauge, el]
  · intro hr hs
    have e : lineS (oneS name k d r) ++ 124 :: s = name ++ 58 :: (Dc.text d ++ 124 :: (wordOf k ++ 124 :: s)) := by
      rw [lineS_one]
      unfold rateS
      rw [if_pos hr]
      simp
    have el : (lineS (oneS name k d r)).length + 1 = name.length + 1 + (Dc.text d).length + 1 + (wordOf k).length + 1 := by
      rw [lineS_one]
      unfold rateS
      rw [if_pos hr]
      simp
      omega
    rw [e, parseS_to h.name (Dc.parse_text h.val) (text_bar d), wordS_more h.kind h.head, restS_none hs, el]
/-- Zeros around the value, and behind the rate, and a rate of 1, turn nothing. -/
theorem Said.forms (h : Said name k d r) (i j z : Nat) (q : List UInt8)
    (hq : (r = 1000000 ∧ (q = [] ∨ q = [124, 64, 49])) ∨ (r ≠ 1000000 ∧ q = 124 :: 64 :: (if (rateText r.toNat ++ List.replicate z 48).length ≤ 8 then rateText r.toNat ++ List.replicate z 48 else rateText r.toNat))) :
    parseS (name ++ 58 :: ((Dc.sgn d.neg ++ (List.replicate i 48 ++ Dc.sized d.c d.e ++ (if 0 ≤ d.e ∧ 0 < j then [46] else []) ++ List.replicate j 48)) ++ 124 :: (wordOf k ++ q))) = (oneS name k d r, 0, 0) := by
  have hrep : ∀ n : Nat, (124 : UInt8) ∉ List.replicate n 48 := fun n hm => by have := (List.mem_replicate.1 hm).2; revert this; decide
  have hbar : (124 : UInt8) ∉ Dc.sgn d.neg ++ (List.replicate i 48 ++ Dc.sized d.c d.e ++ (if 0 ≤ d.e ∧ 0 < j then [46] else []) ++ List.replicate j 48) := by
    intro hm
    rcases List.mem_append.1 hm with hm | hm
    · unfold Dc.sgn at hm
      split at hm
      · rcases List.mem_singleton.1 hm with h; revert h; decide
      · cases hm
    · rcases List.mem_append.1 hm with hm | hm
      · rcases List.mem_append.1 hm with hm | hm
        · rcases List.mem_append.1 hm with hm | hm
          · exact hrep _ hm
          · exact sized_bar _ _ hm
        · split at hm
          · rcases List.mem_singleton.1 hm with h; revert h; decide
          · cases hm
      · exact hrep _ hm
  have hhead : ¬ (k = 2 ∧ (Dc.sgn d.neg ++ (List.replicate i 48 ++ Dc.sized d.c d.e ++ (if 0 ≤ d.e ∧ 0 < j then [46] else []) ++ List.replicate j 48)).head? = some 45) := by
    rintro ⟨hk, hh⟩
    rw [h.sign hk] at hh
    cases i with
    | zero =>
      have h1 := text_head (h.sign hk)
      rw [Dc.text_sgn, h.sign hk] at h1
      have hne : Dc.sized d.c d.e ≠ [] := by
        rcases (by omega : 0 ≤ d.e ∨ d.e < 0) with h | h
        · exact ((Dc.sized_split d.c d.e).1 h).2.1
        · obtain ⟨a, b, e1, _, hna, _⟩ := (Dc.sized_split d.c d.e).2 h
          rw [e1]; simp
      obtain ⟨x, t, e⟩ := List.exists_cons_of_ne_nil hne
      rw [e] at hh h1
      exact h1 hh
    | succ i =>
      rw [List.replicate_succ] at hh
      injection hh with hh
      revert hh; decide
  rw [parseS_to h.name (Dc.parse_zeros h.val i j) hbar]
  rcases hq with ⟨hr, hq | hq⟩ | ⟨hr, hq⟩
  · subst hr hq
    rw [List.append_nil]
    exact wordS_end h.kind hhead
  · subst hr hq
    rw [wordS_more h.kind hhead]
    exact restS_rate (q := [49]) (by decide) (by decide +kernel) (fun _ => rfl)
  · subst hq
    rw [wordS_more h.kind hhead]
    have hz := rated_zeros (n := r.toNat) (by have := h.rate; omega) (by have := h.rate; omega) z
    rw [Int.toNat_of_nonneg (by have := h.rate; omega)] at hz
    by_cases hl : (rateText r.toNat ++ List.replicate z 48).length ≤ 8
    · rw [if_pos hl] at hz
      rw [if_pos hl]
      refine restS_rate (fun hm => ?_) hz h.gauge
      rcases List.mem_append.1 hm with hm | hm
      · exact h.rated.2 hm
      · exact hrep _ hm
    · rw [if_neg hl]
      exact restS_rate h.rated.2 h.rated.1 h.gauge

/-! What is parsed. -/
theorem failS_fields (c : Int) (a : Nat) : (failS c a).1 = M0 ∧ (failS c a).2.1 = c ∧ (failS c a).2.2 = (a : Int) := ⟨rfl, rfl, rfl⟩
/-- What Parse tells: a metric that StatsD can say, whose line is no longer; or a fault in the text. -/
def Told (l : List UInt8) (x : Mt × Int × Int) : Prop :=
  (∃ c : Int, ∃ a : Nat, x = failS c a ∧ c ≠ 0 ∧ a ≤ l.length) ∨ ∃ name k d r, x = (oneS name k d r, 0, 0) ∧ Said name k d r ∧ (lineS (oneS name k d r)).length ≤ l.length
theorem scan_below (l : List UInt8) : ∀ (n : Nat) (below point wanted : Bool) (v p : Nat) (B : Bool) (V P : Nat), n ≠ 0 → Dc.scan n below point wanted v p l = .ok B V P → B = below := by
  induction l with
  | nil =>
    intro n below point wanted v p B V P _ h
    unfold Dc.scan at h
    split at h
    · cases h
    · injection h with h; exact h.symm
  | cons b r ih =>
    intro n below point wanted v p B V P hn h
    rw [Dc.scan] at h
    split at h
    · exact ih _ _ _ _ _ _ _ _ _ (by omega) h
    · split at h
      · exact ih _ _ _ _ _ _ _ _ _ (by omega) h
      · split at h
        · rename_i hm; exact absurd hm.2 hn
        · cases h
theorem parse_sign {v : List UInt8} {d : D} (h : Dc.parse v = (d, 0, 0)) (hh : v.head? ≠ some 45) : d.neg = false := by
  unfold Dc.parse at h
  cases hs : Dc.scan 0 false false true 0 0 v with
  | bad c k =>
    rw [hs] at h
    obtain ⟨h1, _⟩ := Dc.scan_bad v _ _ _ _ _ _ _ _ hs
    injection h with _ h
    injection h with h _
    omega
  | ok B V P =>
    have hB : B = false := by
      cases v with
      | nil => cases hs
      | cons b r =>
        rw [Dc.scan] at hs
        split at hs
        · exact scan_below _ _ _ _ _ _ _ _ _ _ (by omega) hs
        · split at hs
          · rename_i h1; exact absurd h1.2.1 (by decide)
          · split at hs
            · rename_i h1
              exact absurd (show (b :: r).head? = some 45 from congrArg some (UInt8.toNat_inj.1 h1.1)) hh
            · cases hs
    rw [hs, Dc.told_is] at h
    subst hB
    cases hn : Dc.norm V (-(P : Int)) with
    | none =>
      rw [hn] at h
      injection h with _ h
      injection h with h _
      omega
    | some q =>
      rw [hn] at h
      injection h with hd _
      rw [← hd]
      show (if q.1 = 0 then false else false) = false
      split <;> rfl
theorem parse_zero {v : List UInt8} (h : (Dc.parse v).2.1 = 0) : ∃ d, Dc.parse v = (d, 0, 0) ∧ d.One := by
  rcases Dc.parse_cases v with ⟨h1, h2⟩ | ⟨_, h2, _⟩
  · exact ⟨(Dc.parse v).1, by rw [← h2], h1⟩
  · exact absurd h h2
theorem rated_zero {q : List UInt8} (h : (rated q).2.1 = 0) : ∃ r, rated q = (r, 0, 0) ∧ 1 ≤ r ∧ r ≤ 1000000 ∧ (r ≠ 1000000 → (rateText r.toNat).length ≤ q.length) := by
  have h2 : rated q = ((rated q).1, 0, 0) := by
    unfold rated at *
    split
    · rfl
    · rename_i h1
      rw [if_neg h1] at h
      split
      · rename_i h3; rw [if_pos h3] at h; exact absurd h h3
      · rename_i h3
        rw [if_neg h3] at h
        split
        · rename_i h4; rw [if_pos h4] at h; cases h
        · rfl
  obtain ⟨k1, k2, k3, _⟩ := rated_back h2
  exact ⟨(rated q).1, h2, k1, k2, fun _ => by rw [k3]; exact trim_le _ _⟩
theorem restS_told {l name : List UInt8} {k : Int} {d : D} (c : Nat) (t : List UInt8) (hl : c + t.length = l.length) (hn : nameR name = true) (hk : 1 ≤ k ∧ k ≤ 4) (hd : d.One) (hs : k = 2 → d.neg = false)
    (hc : name.length + 1 + (Dc.text d).length + 1 + (wordOf k).length + 1 ≤ c) : Told l (restS c name k d t) := by
  cases t with
  | nil => exact .inl ⟨11, c, rfl, by omega, by omega⟩
  | cons x t =>
    rw [restS_cons]
    rw [List.length_cons] at hl
    split
    · exact .inl ⟨11, c, rfl, by omega, by omega⟩
    · split
      · exact .inl ⟨18, c + 1, rfl, by omega, by omega⟩
      · rename_i h1
        obtain ⟨r, hr, r1, r2, r3⟩ := rated_zero (q := (cutB 124 t).1) (by
          rcases Decidable.em ((rated (cutB 124 t).1).2.1 = 0) with h | h
          · exact h
          · exact absurd (.inl h) h1)
        rcases cutB_cases 124 t with ⟨hb, e⟩ | ⟨p, r', hb, e1, e⟩
        · rw [e] at hr h1 r3 ⊢
          rw [if_neg (by simp)]
          simp only [hr] at h1 ⊢
          have hg : k = 2 → r = 1000000 := fun h2 => by
            rcases Decidable.em (r = 1000000) with h | h
            · exact h
            · exact absurd (.inr ⟨h2, h⟩) h1
          refine .inr ⟨name, k, d, r, rfl, ⟨hn, hk, hd, hs, ⟨r1, r2⟩, hg⟩, ?_⟩
          rw [lineS_one]
          unfold rateS
          split
          · simp; omega
          · rename_i hr1
            have := r3 hr1
            simp at this ⊢
            omega
        · rw [e, if_pos rfl]
          refine .inl ⟨11, c + 1 + p.length, rfl, by omega, ?_⟩
          have := congrArg List.length e1
          rw [List.length_append, List.length_cons] at this
          omega
theorem parseS_told (l : List UInt8) : Told l (parseS l) := by
  unfold parseS
  rcases cutB_cases 58 l with ⟨_, e⟩ | ⟨name, l1, _, e1, e⟩
  · rw [e]
    split
    · exact .inl ⟨15, 0, rfl, by omega, by omega⟩
    · rw [if_pos rfl]
      exact .inl ⟨11, l.length, rfl, by omega, by omega⟩
  · rw [e]
    have hl1 := congrArg List.length e1
    rw [List.length_append, List.length_cons] at hl1
    split
    · exact .inl ⟨15, 0, rfl, by omega, by omega⟩
    · rename_i hn
      have hn : nameR name = true := by simpa using hn
      rw [if_neg (by simp)]
      show Told l (valueS (name.length + 1) l.length name l1)
      unfold valueS
      split
      · exact .inl ⟨17, name.length + 1, rfl, by omega, by omega⟩
      · rename_i hp
        obtain ⟨d, hd, ho⟩ := parse_zero (v := (cutB 124 l1).1) (by omega)
        rcases cutB_cases 124 l1 with ⟨_, e⟩ | ⟨v, l2, _, e2, e⟩
        · rw [e, if_pos rfl]
          exact .inl ⟨11, l.length, rfl, by omega, by omega⟩
        · rw [e] at hd hp ⊢
          have hl2 := congrArg List.length e2
          rw [List.length_append, List.length_cons] at hl2
          rw [if_neg (by simp)]
          have ht : (Dc.text d).length ≤ v.length := Dc.text_short hd
          simp only [hd]
          show Told l (wordS (name.length + 1) (name.length + 1 + v.length + 1) name v d l2)
          unfold wordS
          split
          · exact .inl ⟨16, _, rfl, by omega, by omega⟩
          · rename_i hw
            split
            · exact .inl ⟨26, _, rfl, by omega, by omega⟩
            · rename_i hsg
              obtain ⟨w1, w2, w3⟩ := wordOf_kind hw
              have hs : kindOf (cutB 124 l2).1 = 2 → d.neg = false := fun h2 => parse_sign hd fun hh => hsg ⟨h2, hh⟩
              rcases cutB_cases 124 l2 with ⟨_, e⟩ | ⟨wd, l3, _, e3, e⟩
              · rw [e] at hs w1 w2 w3 ⊢
                rw [if_pos rfl]
                refine .inr ⟨name, kindOf l2, d, 1000000, rfl, ⟨hn, ⟨w2, w3⟩, ho, hs, ⟨by omega, by omega⟩, fun _ => rfl⟩, ?_⟩
                rw [lineS_one]
                show (name ++ 58 :: (Dc.text d ++ 124 :: (wordOf (kindOf l2) ++ rateS 1000000))).length ≤ _
                rw [w1]
                unfold rateS
                rw [if_pos rfl]
                simp
                omega
              · rw [e] at hs w1 w2 w3 ⊢
                have hl3 := congrArg List.length e3
                rw [List.length_append, List.length_cons] at hl3
                rw [if_neg (by simp)]
                refine restS_told _ _ ?_ hn ⟨w2, w3⟩ ho hs ?_
                · show name.length + 1 + v.length + 1 + wd.length + 1 + l3.length = _
                  omega
                · rw [show wordOf (kindOf wd) = wd from w1]
                  show _ ≤ name.length + 1 + v.length + 1 + wd.length + 1
                  omega
/-- A line that is cut off is no line, or another one. -/
theorem cut_off {m : Mt} {left : Nat} (h : left < (lineS m).length) : ((parseS ((lineS m).take left)).2.1 ≠ 0 ∧ 0 ≤ (parseS ((lineS m).take left)).2.2 ∧ (parseS ((lineS m).take left)).2.2 ≤ (left : Int)) ∨ (parseS ((lineS m).take left)).1 ≠ m := by
  have hl : ((lineS m).take left).length = left := by rw [List.length_take]; omega
  rcases parseS_told ((lineS m).take left) with ⟨c, a, e, h1, h2⟩ | ⟨name, k, d, r, e, _, h2⟩
  · rw [e]
    rw [hl] at h2
    exact .inl ⟨h1, by show (0 : Int) ≤ (a : Int); omega, by show (a : Int) ≤ (left : Int); omega⟩
  · rw [e, hl] at *
    refine .inr fun h3 => ?_
    have h3 : oneS name k d r = m := h3
    rw [h3] at h2
    omega
end
end Go.Proofs.YtbcmchkgamkceaaGreatDoor

/-
  Lines of Graphite as plain data: which line a metric has, which metric a line is, and what follows. Nothing of the program.
-/
namespace Go.Proofs.YtbcmchkgamkceaaGreatDoor
open Dc (D D0)

def MaxT : Int := 1099511627776
def oneG (name : List UInt8) (d : D) (t : Int) : Mt := ⟨name, 2, [d], 1000000, [], t⟩
def timeG (b : Nat) (name : List UInt8) (d : D) (l : List UInt8) : Mt × Int × Int :=
  if (parsed (cutB 32 l).1 1 MaxT).2.1 ≠ 0 then failS 20 b
  else if (cutB 32 l).2.1 = true then failS 11 (b + (cutB 32 l).1.length)
  else (oneG name d (parsed (cutB 32 l).1 1 MaxT).1, 0, 0)
def valueG (a n : Nat) (name l : List UInt8) : Mt × Int × Int :=
  if (Dc.parse (cutB 32 l).1).2.1 ≠ 0 then failS 17 a
  else if (cutB 32 l).2.1 = false then failS 11 n
  else timeG (a + (cutB 32 l).1.length + 1) name (Dc.parse (cutB 32 l).1).1 (cutB 32 l).2.2
def parseG (l : List UInt8) : Mt × Int × Int :=
  if nameR (cutB 32 l).1 = false then failS 15 0
  else if (cutB 32 l).2.1 = false then failS 11 l.length
  else valueG ((cutB 32 l).1.length + 1) l.length (cutB 32 l).1 (cutB 32 l).2.2
/-- A metric's line. -/
def lineG (m : Mt) : List UInt8 := m.name ++ 32 :: (Dc.text (m.vals.headD D0) ++ 32 :: Lib.decDigits m.time.toNat)

/-! Bytes: no blanks. -/
theorem name_blank {l : List UInt8} (h : nameR l = true) : (32 : UInt8) ∉ l := by
  have h := of_decide_eq_true h
  unfold faultOf at h
  rw [if_neg (by decide)] at h
  split at h
  · injection h with h; omega
  · split at h
    · injection h with h; omega
    · split at h
      · injection h with h; omega
      · rcases bad_cases 1 l with ⟨k, hk, hb, _⟩ | ⟨hb, hall⟩
        · omega
        · intro hm
          obtain ⟨i, hi, e⟩ := List.mem_iff_getElem.1 hm
          have := hall i hi
          rw [e] at this
          exact absurd this (by decide)
theorem digs_blank {l : List UInt8} (h : Digs l) : (32 : UInt8) ∉ l := fun hm => by have := h _ hm; unfold Dig at this; revert this; decide
theorem text_blank (d : D) : (32 : UInt8) ∉ Dc.text d := by
  rw [Dc.text_sgn]
  intro hm
  rcases List.mem_append.1 hm with hm | hm
  · unfold Dc.sgn at hm
    split at hm
    · rcases List.mem_singleton.1 hm with h; revert h; decide
    · cases hm
  · rcases (by omega : 0 ≤ d.e ∨ d.e < 0) with h | h
    · exact digs_blank ((Dc.sized_split d.c d.e).1 h).1 hm
    · obtain ⟨a, b, e1, ha, _, hb, _⟩ := (Dc.sized_split d.c d.e).2 h
      rw [e1] at hm
      rcases List.mem_append.1 hm with hm | hm
      · rcases List.mem_append.1 hm with hm | hm
        · exact digs_blank ha hm
        · rcases List.mem_singleton.1 hm with h; revert h; decide
      · exact digs_blank hb hm
theorem digits_blank (n : Nat) : (32 : UInt8) ∉ Lib.decDigits n := digs_blank (val_decDigits n).2

section
variable {name v z : List UInt8} {d : D} {t : Int}
/-- A text of three parts. -/
theorem parseG_parts (h0 : (32 : UInt8) ∉ name) (h1 : (32 : UInt8) ∉ v) (h2 : (32 : UInt8) ∉ z) : parseG (name ++ 32 :: (v ++ 32 :: z)) =
    if nameR name = false then failS 15 0 else if (Dc.parse v).2.1 ≠ 0 then failS 17 (name.length + 1) else if (parsed z 1 MaxT).2.1 ≠ 0 then failS 20 (name.length + 1 + v.length + 1) else (oneG name (Dc.parse v).1 (parsed z 1 MaxT).1, 0, 0) := by
  unfold parseG
  rw [cutB_hit _ h0]
  simp only [Bool.true_eq_false, if_false]
  unfold valueG
  rw [cutB_hit _ h1]
  simp only [Bool.true_eq_false, if_false]
  unfold timeG
  rw [cutB_miss h2]
  simp only [Bool.false_eq_true, if_false]
/-- .. and of more. -/
theorem parseG_four (hn : nameR name = true) (hv : (Dc.parse v).2.1 = 0) (h1 : (32 : UInt8) ∉ v) (h2 : (32 : UInt8) ∉ z) (hz : (parsed z 1 MaxT).2.1 = 0) (s : List UInt8) : parseG (name ++ 32 :: (v ++ 32 :: (z ++ 32 :: s))) = failS 11 (name.length + 1 + v.length + 1 + z.length) := by
  unfold parseG
  rw [cutB_hit _ (name_blank hn)]
  simp only [hn, Bool.true_eq_false, if_false]
  unfold valueG
  rw [cutB_hit _ h1]
  simp only [hv, ne_eq, not_true_eq_false, Bool.true_eq_false, if_false]
  unfold timeG
  rw [cutB_hit _ h2]
  simp only [hz, ne_eq, not_true_eq_false, if_false]
  rfl
end
theorem parsed_zero {l : List UInt8} (h : (parsed l 1 MaxT).2.1 = 0) : ∃ n, parsed l 1 MaxT = (n, 0, 0) ∧ 1 ≤ n ∧ n ≤ MaxT ∧ Lib.decDigits n.toNat = l := by
  have h2 : parsed l 1 MaxT = ((parsed l 1 MaxT).1, 0, 0) ∧ 1 ≤ (parsed l 1 MaxT).1 ∧ (parsed l 1 MaxT).1 ≤ MaxT := by
    unfold parsed at *
    by_cases h1 : l = []
    · rw [if_pos h1] at h; cases h
    · rw [if_neg h1] at h ⊢
      by_cases h2 : 0 ≤ bad 4 l
      · rw [if_pos h2] at h; cases h
      · rw [if_neg h2] at h ⊢
        by_cases h3 : l.head? = some 48 ∧ 1 < l.length
        · rw [if_pos h3] at h; cases h
        · rw [if_neg h3] at h ⊢
          by_cases h4 : MaxI < val l ∨ (val l : Int) < 1 ∨ MaxT < (val l : Int)
          · rw [if_pos h4] at h; cases h
          · rw [if_neg h4]
            exact ⟨rfl, by show 1 ≤ (val l : Int); omega, by show (val l : Int) ≤ MaxT; omega⟩
  exact ⟨_, h2.1, h2.2.1, h2.2.2, (parsed_back h2.1).2.2⟩
theorem parsed_time {t : Int} (h : 1 ≤ t ∧ t ≤ MaxT) : parsed (Lib.decDigits t.toNat) 1 MaxT = (t, 0, 0) := by
  have hm : MaxT = 1099511627776 := rfl
  rw [parsed_digits (by unfold MaxI; omega), if_neg (by omega), Int.toNat_of_nonneg (by omega)]

/-- A metric that Graphite can say. -/
structure SaidG (name : List UInt8) (d : D) (t : Int) : Prop where
  name : nameR name = true
  val : d.One
  time : 1 ≤ t ∧ t ≤ MaxT
theorem saidG_of {m : Mt} (hc : checkM m = 0) (hs : saysM m 3 = true) : ∃ name d t, m = oneG name d t ∧ SaidG name d t := by
  obtain ⟨h1, h2, h3, h4, h5, h6⟩ := restM_zero.1 hc
  have hv := checkM_ok hc
  unfold saysM at hs
  rw [if_neg (by decide), if_pos rfl] at hs
  unfold says3 bareN at hs
  simp only [Bool.and_eq_true, decide_eq_true_eq] at hs
  obtain ⟨⟨⟨s1, s2⟩, s3⟩, s4⟩ := hs
  obtain ⟨nm, kd, vs, rt, ts, tm⟩ := m
  obtain ⟨d, rfl⟩ := List.length_eq_one_iff.1 s1
  obtain rfl := List.eq_nil_of_length_eq_zero s2
  obtain rfl : kd = 2 := s4
  have h4 : 1 ≤ rt ∧ rt ≤ 1000000 ∧ ((2 : Int) = 2 → rt = 1000000) := of_decide_eq_true h4
  obtain rfl := h4.2.2 rfl
  have h6 : 0 ≤ tm ∧ tm ≤ 1099511627776 := of_decide_eq_true h6
  have s3 : tm ≠ 0 := s3
  unfold okV at hv
  rw [List.all_eq_true] at hv
  have hd := of_decide_eq_true (hv d (List.mem_singleton.2 rfl))
  exact ⟨nm, d, tm, rfl, h1, Dc.check_ok.1 hd, by omega, by unfold MaxT; omega⟩
section
variable {name : List UInt8} {d : D} {t : Int}
theorem SaidG.check (h : SaidG name d t) : checkM (oneG name d t) = 0 ∧ saysM (oneG name d t) 3 = true ∧ isM (oneG name d t) = true := by
  have hm : MaxT = 1099511627776 := rfl
  have ht := h.time
  have hc : checkM (oneG name d t) = 0 := by
    refine restM_zero.2 ⟨h.name, show kindR 2 = true by decide, ?_, show rateR 2 1000000 = true by decide, rfl, show timeR t = true from decide_eq_true ⟨by omega, by omega⟩⟩
    show valsR (okV [d]) 1 = true
    unfold okV
    simp only [List.all_cons, List.all_nil, Bool.and_true, Dc.check_ok.2 h.val]
    decide
  refine ⟨hc, ?_, ?_⟩
  · unfold saysM
    rw [if_neg (by decide), if_pos rfl]
    show says3 1 0 2 t = true
    unfold says3 bareN
    simp only [decide_true, Bool.true_and, Bool.and_true, decide_eq_true_eq]
    omega
  · unfold isM
    rw [decide_eq_true hc]
    rfl
theorem lineG_one (name : List UInt8) (d : D) (t : Int) : lineG (oneG name d t) = name ++ 32 :: (Dc.text d ++ 32 :: Lib.decDigits t.toNat) := rfl
/-- What is written is parsed as the metric. -/
theorem SaidG.back (h : SaidG name d t) : parseG (lineG (oneG name d t)) = (oneG name d t, 0, 0) := by
  rw [lineG_one, parseG_parts (name_blank h.name) (text_blank d) (digits_blank _), Dc.parse_text h.val, parsed_time h.time]
  simp only [h.name, Bool.true_eq_false, if_false, ne_eq, not_true_eq_false]
/-- Whatever stands behind a blank behind a line is refused there. -/
theorem SaidG.behind (h : SaidG name d t) (s : List UInt8) : parseG (lineG (oneG name d t) ++ 32 :: s) = failS 11 (lineG (oneG name d t)).length := by
  have e : lineG (oneG name d t) ++ 32 :: s = name ++ 32 :: (Dc.text d ++ 32 :: (Lib.decDigits t.toNat ++ 32 :: s)) := by
    rw [lineG_one]; simp
  have el : (lineG (oneG name d t)).length = name.length + 1 + (Dc.text d).length + 1 + (Lib.decDigits t.toNat).length := by
    rw [lineG_one]; simp; omega
  rw [e, parseG_four h.name (by rw [Dc.parse_text h.val]) (text_blank d) (digits_blank _) (by rw [parsed_time h.time]), el]
end
/-- What Parse tells: a metric that Graphite can say, whose line is no longer, and which has just two blanks; or a fault in the text. -/
def ToldG (l : List UInt8) (x : Mt × Int × Int) : Prop :=
  (∃ c : Int, ∃ a : Nat, x = failS c a ∧ c ≠ 0 ∧ a ≤ l.length) ∨ ∃ name v d t, x = (oneG name d t, 0, 0) ∧ SaidG name d t ∧ (32 : UInt8) ∉ v ∧ Dc.parse v = (d, 0, 0) ∧ l = name ++ 32 :: (v ++ 32 :: Lib.decDigits t.toNat) ∧ (lineG (oneG name d t)).length ≤ l.length
theorem parseG_told (l : List UInt8) : ToldG l (parseG l) := by
  unfold parseG
  rcases cutB_cases 32 l with ⟨_, e⟩ | ⟨name, l1, _, e1, e⟩
  · rw [e]
    split
    · exact .inl ⟨15, 0, rfl, by omega, by omega⟩
    · rw [if_pos rfl]
      exact .inl ⟨11, l.length, rfl, by omega, by omega⟩
  · rw [e]
    have hl1 := congrArg List.length e1
    rw [List.length_append, List.length_cons] at hl1
    split
    · exact .inl ⟨15, 0, rfl, by omega, by omega⟩
    · rename_i hn
      have hn : nameR name = true := by simpa using hn
      rw [if_neg (by simp)]
      show ToldG l (valueG (name.length + 1) l.length name l1)
      unfold valueG
      split
      · exact .inl ⟨17, name.length + 1, rfl, by omega, by omega⟩
      · rename_i hp
        obtain ⟨d, hd, ho⟩ := parse_zero (v := (cutB 32 l1).1) (by omega)
        rcases cutB_cases 32 l1 with ⟨_, e⟩ | ⟨v, l2, hbv, e2, e⟩
        · rw [e, if_pos rfl]
          exact .inl ⟨11, l.length, rfl, by omega, by omega⟩
        · rw [e] at hd hp ⊢
          have hl2 := congrArg List.length e2
          rw [List.length_append, List.length_cons] at hl2
          rw [if_neg (by simp)]
          have ht : (Dc.text d).length ≤ v.length := Dc.text_short hd
          simp only [hd]
          show ToldG l (timeG (name.length + 1 + v.length + 1) name d l2)
          unfold timeG
          split
          · exact .inl ⟨20, _, rfl, by omega, by omega⟩
          · rename_i hq
            obtain ⟨t, h1, h2, h3, h4⟩ := parsed_zero (l := (cutB 32 l2).1) (by omega)
            rcases cutB_cases 32 l2 with ⟨_, e⟩ | ⟨z, l3, _, e3, e⟩
            · rw [e] at h1 h4 ⊢
              have h4 : Lib.decDigits t.toNat = l2 := h4
              rw [if_neg (by simp)]
              simp only [h1]
              refine .inr ⟨name, v, d, t, rfl, ⟨hn, ho, h2, h3⟩, hbv, hd, by rw [h4, ← e2, ← e1], ?_⟩
              rw [lineG_one, h4]
              simp
              omega
            · rw [e, if_pos rfl]
              have hl3 := congrArg List.length e3
              rw [List.length_append, List.length_cons] at hl3
              refine .inl ⟨11, name.length + 1 + v.length + 1 + z.length, rfl, by omega, by omega⟩
theorem count_none {l : List UInt8} (h : (32 : UInt8) ∉ l) : l.count 32 = 0 := List.count_eq_zero.2 h
theorem count_three {a b c : List UInt8} (ha : (32 : UInt8) ∉ a) (hb : (32 : UInt8) ∉ b) (hc : (32 : UInt8) ∉ c) : (a ++ 32 :: (b ++ 32 :: c)).count 32 = 2 := by
  simp [List.count_append, count_none ha, count_none hb, count_none hc]
/-- What is parsed has two blanks. -/
theorem parseG_two {l : List UInt8} (h : (parseG l).2.1 = 0) : l.count 32 = 2 := by
  rcases parseG_told l with ⟨c, a, e, h1, _⟩ | ⟨name, v, d, t, e, hs, hv, _, el, _⟩
  · rw [e] at h; exact absurd h h1
  · rw [el]
    exact count_three (name_blank hs.name) hv (digits_blank _)
/-- A blank more anywhere is refused. -/
theorem blank_more {name : List UInt8} {d : D} {t : Int} (h : SaidG name d t) (left : Nat) : (parseG ((lineG (oneG name d t)).take left ++ 32 :: (lineG (oneG name d t)).drop left)).2.1 ≠ 0 := fun h0 => by
  have h1 := parseG_two h0
  have h2 : (lineG (oneG name d t)).count 32 = 2 := by rw [lineG_one]; exact count_three (name_blank h.name) (text_blank d) (digits_blank _)
  have h3 : ((lineG (oneG name d t)).take left ++ 32 :: (lineG (oneG name d t)).drop left).count 32 = (lineG (oneG name d t)).count 32 + 1 := by
    conv => rhs; rw [← List.take_append_drop left (lineG (oneG name d t))]
    rw [List.count_append, List.count_append, List.count_cons]
    simp
    omega
  omega
theorem two_same {a b a' b' : List UInt8} {c : UInt8} (h1 : c ∉ a) (h2 : c ∉ a') (h : a ++ c :: b = a' ++ c :: b') : a = a' ∧ b = b' := by
  have e1 := cutB_hit b h1
  have e2 := cutB_hit b' h2
  rw [h, e2] at e1
  injection e1 with e1 e3
  injection e3 with _ e3
  exact ⟨e1.symm, e3.symm⟩
theorem val_prefix {a b : List UInt8} (ha : 0 < val a) (hb : b ≠ []) : val a < val (a ++ b) := by
  rw [val_append]
  obtain ⟨n, hn⟩ : ∃ n, b.length = n + 1 := ⟨b.length - 1, by cases b with | nil => exact absurd rfl hb | cons x r => simp⟩
  rw [hn, Nat.pow_succ]
  have h1 : 1 ≤ 10 ^ n := Nat.pos_of_ne_zero (by simp)
  have h2 : val a * 1 ≤ val a * 10 ^ n := Nat.mul_le_mul_left _ h1
  have h3 : val a * (10 ^ n * 10) = val a * 10 ^ n * 10 := by rw [Nat.mul_assoc]
  omega
/-- A line that is cut off is no line, or one of an earlier time. -/
theorem cut_offG {name : List UInt8} {d : D} {t : Int} (h : SaidG name d t) {left : Nat} (hl : left < (lineG (oneG name d t)).length) :
    (∃ c : Int, ∃ a : Nat, parseG ((lineG (oneG name d t)).take left) = failS c a ∧ c ≠ 0 ∧ a ≤ left) ∨ ∃ d' t', parseG ((lineG (oneG name d t)).take left) = (oneG name d' t', 0, 0) ∧ SaidG name d' t' ∧ t' < t := by
  have hlen : ((lineG (oneG name d t)).take left).length = left := by rw [List.length_take]; omega
  rcases parseG_told ((lineG (oneG name d t)).take left) with ⟨c, a, e, h1, h2⟩ | ⟨nm, v, d', t', e, hs, hv, _, el, _⟩
  · exact .inl ⟨c, a, e, h1, by omega⟩
  · obtain ⟨r, hr, hrne⟩ : ∃ r, lineG (oneG name d t) = (lineG (oneG name d t)).take left ++ r ∧ r ≠ [] := ⟨(lineG (oneG name d t)).drop left, (List.take_append_drop _ _).symm, fun h0 => by
      have := congrArg List.length h0
      rw [List.length_drop, List.length_nil] at this
      omega⟩
    have hr2 := hr
    rw [el, lineG_one] at hr2
    have e1 : nm ++ 32 :: (v ++ 32 :: Lib.decDigits t'.toNat) ++ r = nm ++ 32 :: (v ++ 32 :: (Lib.decDigits t'.toNat ++ r)) := by simp
    rw [e1] at hr2
    obtain ⟨k1, k2⟩ := two_same (name_blank h.name) (name_blank hs.name) hr2
    obtain ⟨k3, k4⟩ := two_same (text_blank d) hv k2
    refine .inr ⟨d', t', by rw [e, k1], by rw [k1]; exact hs, ?_⟩
    have hv1 := (val_decDigits t.toNat).1
    have hv2 := (val_decDigits t'.toNat).1
    have ht := h.time
    have ht' := hs.time
    have := val_prefix (a := Lib.decDigits t'.toNat) (b := r) (by omega) hrne
    rw [← k4, hv1, hv2] at this
    omega
end Go.Proofs.YtbcmchkgamkceaaGreatDoor

/-
  Lines of DogStatsD as plain data: which line a metric has, and which metric a line is. Nothing of the program.
-/
namespace Go.Proofs.YtbcmchkgamkceaaGreatDoor
open Dc (D D0)

/-! A text cut at each of a byte. -/
def cutsB (c : UInt8) : List UInt8 → List (List UInt8)
  | [] => [[]]
  | b :: r => if b = c then [] :: cutsB c r else match cutsB c r with
    | [] => [[b]]
    | p :: ps => (b :: p) :: ps
theorem cutsB_ne (c : UInt8) : ∀ l, cutsB c l ≠ []
  | [] => by simp [cutsB]
  | b :: r => by
    rw [cutsB]
    split
    · simp
    · split <;> simp
theorem cutsB_no {c : UInt8} : ∀ {l : List UInt8}, c ∉ l → cutsB c l = [l]
  | [], _ => rfl
  | b :: r, h => by
    simp only [List.mem_cons, not_or] at h
    rw [cutsB, if_neg (fun e => h.1 e.symm), cutsB_no h.2]
theorem cutsB_append (c : UInt8) : ∀ (a b : List UInt8), cutsB c (a ++ c :: b) = cutsB c a ++ cutsB c b
  | [], b => by simp [cutsB]
  | x :: a, b => by
    have ih := cutsB_append c a b
    rw [List.cons_append, cutsB, cutsB, ih]
    by_cases h : x = c
    · rw [if_pos h, if_pos h]; rfl
    · rw [if_neg h, if_neg h]
      rcases hp : cutsB c a with _ | ⟨p, ps⟩
      · exact absurd hp (cutsB_ne c a)
      · rfl
theorem joinB_two (c : UInt8) (x y : List UInt8) (r : List (List UInt8)) : Lib.join (x :: y :: r) [c] = x ++ c :: Lib.join (y :: r) [c] := by
  rw [Lib.join_cons, Lib.join_cons]
  simp [Lib.joinTail]
theorem cutsB_join (c : UInt8) : ∀ {ps : List (List UInt8)}, ps ≠ [] → (∀ p ∈ ps, c ∉ p) → cutsB c (Lib.join ps [c]) = ps
  | [], h, _ => absurd rfl h
  | [p], _, h => by rw [Lib.join_one]; exact cutsB_no (h p (by simp))
  | p :: q :: r, _, h => by
    rw [joinB_two, cutsB_append, cutsB_join c (ps := q :: r) (by simp) (fun x hx => h x (List.mem_cons_of_mem _ hx)), cutsB_no (h p (by simp))]
    rfl
theorem join_cutsB (c : UInt8) : ∀ l : List UInt8, Lib.join (cutsB c l) [c] = l
  | [] => by simp [cutsB, Lib.join_one]
  | b :: r => by
    have ih := join_cutsB c r
    rw [cutsB]
    by_cases h : b = c
    · rw [if_pos h]
      rcases hp : cutsB c r with _ | ⟨p, ps⟩
      · exact absurd hp (cutsB_ne c r)
      · rw [hp] at ih
        rw [joinB_two, ih, h]; rfl
    · rw [if_neg h]
      rcases hp : cutsB c r with _ | ⟨p, ps⟩
      · exact absurd hp (cutsB_ne c r)
      · rw [hp] at ih
        show Lib.join ((b :: p) :: ps) [c] = b :: r
        rw [Lib.join_cons] at ih ⊢
        rw [List.cons_append, ih]
/-- How long pieces are, each with the byte behind it. -/
def lenB (ps : List (List UInt8)) : Nat := (ps.map fun p => p.length + 1).sum
theorem lenB_cons (p : List UInt8) (ps : List (List UInt8)) : lenB (p :: ps) = p.length + 1 + lenB ps := by unfold lenB; rw [List.map_cons, List.sum_cons]
theorem lenB_append (ps qs : List (List UInt8)) : lenB (ps ++ qs) = lenB ps + lenB qs := by unfold lenB; rw [List.map_append, List.sum_append]
theorem lenB_join (c : UInt8) : ∀ {ps : List (List UInt8)}, ps ≠ [] → lenB ps = (Lib.join ps [c]).length + 1
  | [], h => absurd rfl h
  | [p], _ => by rw [Lib.join_one, lenB_cons]; rfl
  | p :: q :: r, _ => by
    rw [joinB_two, lenB_cons, lenB_join c (ps := q :: r) (by simp)]
    simp; omega
theorem lenB_cuts (c : UInt8) (l : List UInt8) : lenB (cutsB c l) = l.length + 1 := by rw [lenB_join c (cutsB_ne c l), join_cutsB]

/-! Words of kinds. -/
def wordD (k : Int) : List UInt8 := if k = 5 then [100] else wordOf k
def kindD (w : List UInt8) : Int := if w = [100] then 5 else kindOf w
theorem kindD_word {k : Int} (h : 1 ≤ k ∧ k ≤ 5) : kindD (wordD k) = k := by
  rcases (by omega : k = 1 ∨ k = 2 ∨ k = 3 ∨ k = 4 ∨ k = 5) with rfl | rfl | rfl | rfl | rfl <;> decide
theorem wordD_kind {w : List UInt8} (h : kindD w ≠ 0) : wordD (kindD w) = w ∧ 1 ≤ kindD w ∧ kindD w ≤ 5 := by
  unfold kindD at *
  split
  · rename_i e; rw [e]; decide
  · rename_i e
    rw [if_neg e] at h
    obtain ⟨h1, h2, h3⟩ := wordOf_kind h
    refine ⟨?_, by omega, by omega⟩
    unfold wordD
    rw [if_neg (by omega)]
    exact h1
theorem wordD_bar {k : Int} : (124 : UInt8) ∉ wordD k := by
  unfold wordD
  split
  · decide
  · exact wordOf_bar k
theorem wordD_len {k : Int} (h : 1 ≤ k ∧ k ≤ 5) : 1 ≤ (wordD k).length ∧ (wordD k).length ≤ 2 := by
  rcases (by omega : k = 1 ∨ k = 2 ∨ k = 3 ∨ k = 4 ∨ k = 5) with rfl | rfl | rfl | rfl | rfl <;> decide

/-! A metric of a line. -/
/-- The values of texts, of which the first one begins at a place, and is the i-th; or where the first one begins that is wrong. -/
def valsD (i k : Nat) : List (List UInt8) → Nat ⊕ List D
  | [] => .inr []
  | p :: ps => if (Dc.parse p).2.1 ≠ 0 ∨ 64 < i then .inl k else match valsD (i + 1) (k + p.length + 1) ps with
    | .inl e => .inl e
    | .inr ds => .inr ((Dc.parse p).1 :: ds)
/-- What has been told by the pieces behind: which one was the last, the rate, the tags, the time. -/
structure Rt where
  last : Nat
  rate : Int
  tags : List Tg
  time : Int
deriving DecidableEq
def R0 : Rt := ⟨0, 1000000, [], 0⟩
/-- A piece; k: the kind. -/
def pieceD (k : Int) (x : Rt) : List UInt8 → Int ⊕ Rt
  | [] => .inl 11
  | b :: q =>
    if b = 64 then (if 1 ≤ x.last then .inl 11 else if (rated q).2.1 ≠ 0 ∨ (k = 2 ∧ (rated q).1 ≠ 1000000) then .inl 18 else .inr { x with last := 1, rate := (rated q).1 })
    else if b = 35 then (if 2 ≤ x.last then .inl 11 else match parseT q with
      | .inl _ => .inl 19
      | .inr ts => if 32 < ts.length then .inl 19 else .inr { x with last := 2, tags := norm ts })
    else if b = 84 then (if 3 ≤ x.last then .inl 11 else if (parsed q 1 MaxT).2.1 ≠ 0 then .inl 20 else .inr { x with last := 3, time := (parsed q 1 MaxT).1 })
    else .inl 11
theorem pieceD_nil (k : Int) (x : Rt) : pieceD k x [] = .inl 11 := rfl
theorem pieceD_rate (k : Int) (x : Rt) (q : List UInt8) : pieceD k x (64 :: q) = if 1 ≤ x.last then .inl 11 else if (rated q).2.1 ≠ 0 ∨ (k = 2 ∧ (rated q).1 ≠ 1000000) then .inl 18 else .inr { x with last := 1, rate := (rated q).1 } := by rw [pieceD, if_pos rfl]
theorem pieceD_tags (k : Int) (x : Rt) (q : List UInt8) : pieceD k x (35 :: q) = if 2 ≤ x.last then .inl 11 else match parseT q with | .inl _ => .inl 19 | .inr ts => if 32 < ts.length then .inl 19 else .inr { x with last := 2, tags := norm ts } := by rw [pieceD, if_neg (by decide), if_pos rfl]
theorem pieceD_time (k : Int) (x : Rt) (q : List UInt8) : pieceD k x (84 :: q) = if 3 ≤ x.last then .inl 11 else if (parsed q 1 MaxT).2.1 ≠ 0 then .inl 20 else .inr { x with last := 3, time := (parsed q 1 MaxT).1 } := by rw [pieceD, if_neg (by decide), if_neg (by decide), if_pos rfl]
theorem pieceD_none (k : Int) (x : Rt) {b : UInt8} (h1 : b ≠ 64) (h2 : b ≠ 35) (h3 : b ≠ 84) (q : List UInt8) : pieceD k x (b :: q) = .inl 11 := by rw [pieceD, if_neg h1, if_neg h2, if_neg h3]
/-- The pieces behind, of which the first one begins at place n. -/
def restD (k : Int) (n : Nat) (x : Rt) : List (List UInt8) → (Int × Nat) ⊕ Rt
  | [] => .inr x
  | p :: ps => match pieceD k x p with
    | .inl c => .inl (c, n)
    | .inr y => restD k (n + p.length + 1) y ps
def kindsD (n a : Nat) (name : List UInt8) (ds : List D) : List (List UInt8) → Mt × Int × Int
  | [] => failS 11 n
  | w :: ps => if kindD w = 0 then failS 16 a else match restD (kindD w) (a + w.length + 1) R0 ps with
    | .inl e => failS e.1 e.2
    | .inr x => (⟨name, kindD w, ds, x.rate, x.tags, x.time⟩, 0, 0)
def firstD (n : Nat) (p : List UInt8) (ps : List (List UInt8)) : List (List UInt8) → Mt × Int × Int
  | [] => failS 15 0
  | name :: vs => if nameR name = false then failS 15 0 else if vs = [] then failS 11 p.length else match valsD 1 (name.length + 1) vs with
    | .inl e => failS 17 e
    | .inr ds => kindsD n (p.length + 1) name ds ps
def piecesD (n : Nat) : List (List UInt8) → Mt × Int × Int
  | [] => failS 15 0
  | p :: ps => firstD n p ps (cutsB 58 p)
def parseD (l : List UInt8) : Mt × Int × Int := if 8192 < l.length then failS 12 0 else piecesD l.length (cutsB 124 l)

/-- A metric's line, as pieces. -/
def headP (m : Mt) : List UInt8 := Lib.join (m.name :: m.vals.map Dc.text) [58]
def rateP10 (r : Int) : List (List UInt8) := if r = 1000000 then [] else [64 :: rateText r.toNat]
def tagsP (ts : List Tg) : List (List UInt8) := if ts = [] then [] else [35 :: textT ts]
def timeP (t : Int) : List (List UInt8) := if t = 0 then [] else [84 :: Lib.decDigits t.toNat]
def linePs (m : Mt) : List (List UInt8) := headP m :: wordD m.kind :: (rateP10 m.rate ++ (tagsP m.tags ++ timeP m.time))
def lineD (m : Mt) : List UInt8 := Lib.join (linePs m) [124]

theorem restD_nil (k : Int) (n : Nat) (x : Rt) : restD k n x [] = .inr x := rfl
theorem restD_bad {k : Int} {n : Nat} {x : Rt} {p : List UInt8} {ps : List (List UInt8)} {c : Int} (h : pieceD k x p = .inl c) : restD k n x (p :: ps) = .inl (c, n) := by rw [restD, h]
theorem restD_ok {k : Int} {n : Nat} {x y : Rt} {p : List UInt8} {ps : List (List UInt8)} (h : pieceD k x p = .inr y) : restD k n x (p :: ps) = restD k (n + p.length + 1) y ps := by rw [restD, h]
theorem restD_append (k : Int) : ∀ (ps qs : List (List UInt8)) (n : Nat) (x : Rt), restD k n x (ps ++ qs) = match restD k n x ps with
    | .inl e => .inl e
    | .inr y => restD k (n + lenB ps) y qs
  | [], qs, n, x => by rw [List.nil_append, restD_nil]; rfl
  | p :: ps, qs, n, x => by
    rw [List.cons_append]
    rcases h : pieceD k x p with c | y
    · rw [restD_bad h, restD_bad h]
    · rw [restD_ok h, restD_ok h, restD_append k ps qs, lenB_cons, show n + p.length + 1 + lenB ps = n + (p.length + 1 + lenB ps) by omega]
theorem valsD_bad {i k : Nat} {p : List UInt8} {ps : List (List UInt8)} (h : (Dc.parse p).2.1 ≠ 0 ∨ 64 < i) : valsD i k (p :: ps) = .inl k := by rw [valsD, if_pos h]
theorem valsD_ok {i k : Nat} {p : List UInt8} {ps : List (List UInt8)} (h : ¬ ((Dc.parse p).2.1 ≠ 0 ∨ 64 < i)) : valsD i k (p :: ps) = match valsD (i + 1) (k + p.length + 1) ps with | .inl e => .inl e | .inr ds => .inr ((Dc.parse p).1 :: ds) := by rw [valsD, if_neg h]
/-- The texts of values are these values. -/
theorem valsD_text : ∀ (ds : List D) (i k : Nat), (∀ d ∈ ds, d.One) → i + ds.length ≤ 65 → valsD i k (ds.map Dc.text) = .inr ds
  | [], _, _, _, _ => rfl
  | d :: ds, i, k, h, hl => by
    have e := Dc.parse_text (h d (by simp))
    rw [List.length_cons] at hl
    rw [List.map_cons, valsD_ok (by rw [e]; rintro (h1 | h1); exact h1 rfl; omega), valsD_text ds _ _ (fun x hx => h x (List.mem_cons_of_mem _ hx)) (by omega), e]
/-- What values were told: each is in its one form, they are no more than 64, and their texts are no longer than what was told. -/
theorem valsD_told : ∀ (ps : List (List UInt8)) (i k : Nat) {ds : List D}, valsD i k ps = .inr ds → ds.length = ps.length ∧ (∀ d ∈ ds, d.One) ∧ (ps ≠ [] → i + ps.length ≤ 65)
  | [], _, _, ds, h => by
    injection h with h
    subst h
    exact ⟨rfl, by simp, fun h => absurd rfl h⟩
  | p :: ps, i, k, ds, h => by
    by_cases hb : (Dc.parse p).2.1 ≠ 0 ∨ 64 < i
    · rw [valsD_bad hb] at h; cases h
    · rw [valsD_ok hb] at h
      rcases hv : valsD (i + 1) (k + p.length + 1) ps with e | es
      · rw [hv] at h; cases h
      · rw [hv] at h
        injection h with h
        subst h
        obtain ⟨h1, h2, h3⟩ := valsD_told ps _ _ hv
        obtain ⟨d, hd, ho⟩ := parse_zero (v := p) (by
          rcases Decidable.em ((Dc.parse p).2.1 = 0) with h | h
          · exact h
          · exact absurd (.inl h) hb)
        refine ⟨by rw [List.length_cons, List.length_cons, h1], fun x hx => ?_, fun _ => ?_⟩
        · rcases List.mem_cons.1 hx with rfl | hx
          · rw [hd]; exact ho
          · exact h2 x hx
        · rw [List.length_cons]
          rcases ps with _ | ⟨q, qs⟩
          · rw [List.length_nil]
            have : ¬ 64 < i := fun h => hb (.inr h)
            omega
          · have := h3 (by simp)
            rw [List.length_cons] at this ⊢
            omega
theorem valsD_at : ∀ (ps : List (List UInt8)) (i k : Nat) {e : Nat}, valsD i k ps = .inl e → k ≤ e ∧ e < k + lenB ps
  | [], _, _, e, h => by cases h
  | p :: ps, i, k, e, h => by
    rw [lenB_cons]
    by_cases hb : (Dc.parse p).2.1 ≠ 0 ∨ 64 < i
    · rw [valsD_bad hb] at h
      injection h with h
      omega
    · rw [valsD_ok hb] at h
      rcases hv : valsD (i + 1) (k + p.length + 1) ps with e' | es
      · rw [hv] at h
        injection h with h
        subst h
        have := valsD_at ps _ _ hv
        omega
      · rw [hv] at h; cases h
end Go.Proofs.YtbcmchkgamkceaaGreatDoor

/-
  Lines of DogStatsD: words and kinds, the package's and the document's. No statement of the seat is proved here.
-/
namespace Go.Proofs.YtbcmchkgamkceaaGreatDoor
open Go.RowKit
open Dc (D D0)

/-- The fault of a kind's word, and of a word's kind. -/
def codeDW (k : Int) : Int := if 1 ≤ k ∧ k ≤ 5 then 0 else 16
def codeDK (w : List UInt8) : Int := if kindD w = 0 then 16 else 0
theorem wordD_none {k : Int} (h : ¬ (1 ≤ k ∧ k ≤ 5)) : wordD k = [] := by
  unfold wordD
  rw [if_neg (by omega)]
  exact wordOf_none (by omega)
set_option maxRecDepth 100000 in
theorem oword_calls (k : Int) (w : World) : Calls Tryz.prog 10 #[.int .i64 k] w fun e w' => e = .returned (.tuple #[.string ⟨(wordD k).toArray⟩, .int .i64 (codeDW k)]) ∧ w = w' := by
  rcases (by omega : k = 1 ∨ k = 2 ∨ k = 3 ∨ k = 4 ∨ k = 5 ∨ (¬ k = 1 ∧ ¬ k = 2 ∧ ¬ k = 3 ∧ ¬ k = 4 ∧ ¬ k = 5)) with rfl | rfl | rfl | rfl | rfl | ⟨h1, h2, h3, h4, h5⟩
  · go_enter Tryz.func10, Tryz.ntmps10
    go_wp2_with fail
    go_ret2
    exact ⟨rfl, rfl⟩
  · go_enter Tryz.func10, Tryz.ntmps10
    go_wp2_with fail
    go_ret2
    exact ⟨rfl, rfl⟩
  · go_enter Tryz.func10, Tryz.ntmps10
    go_wp2_with fail
    go_ret2
    exact ⟨rfl, rfl⟩
  · go_enter Tryz.func10, Tryz.ntmps10
    go_wp2_with fail
    go_ret2
    exact ⟨rfl, rfl⟩
  · go_enter Tryz.func10, Tryz.ntmps10
    go_wp2_with fail
    go_ret2
    exact ⟨rfl, rfl⟩
  · have HE := Lib.hid (wordD_none (k := k) (by omega))
    have HC := Lib.hid (show codeDW k = 16 from if_neg (by omega))
    go_enter Tryz.func10, Tryz.ntmps10
    go_wp2_with fail
    go_ret2
    exact ⟨by rw [HE.out, HC.out]; first | done | rfl, rfl⟩
theorem kindD_step {w : List UInt8} {i : Nat} (hi : 1 ≤ i ∧ i ≤ 5) (e : wordD i = w) : kindD w = i := by
  subst e
  exact kindD_word (by omega)
theorem kindD_none {w : List UInt8} (h : ∀ j : Nat, 1 ≤ j → j < 6 → wordD j ≠ w) : kindD w = 0 := by
  rcases Decidable.em (kindD w = 0) with h0 | h0
  · exact h0
  · obtain ⟨h1, h2, h3⟩ := wordD_kind h0
    exact absurd (by rw [Int.toNat_of_nonneg (by omega)]; exact h1) (h (kindD w).toNat (by omega) (by omega))
set_option maxRecDepth 100000 in
set_option maxHeartbeats 2000000 in
theorem okind_calls {s : ByteArray} {l : List UInt8} (h : Str s l) (w : World) : Calls Tryz.prog 11 #[.string s] w fun e w' => e = .returned (.tuple #[.int .i64 (kindD l), .int .i64 (codeDK l)]) ∧ w = w' := by
  obtain ⟨q, hq⟩ : ∃ q, kindD l = q := ⟨_, rfl⟩
  obtain ⟨c, hc⟩ : ∃ c, codeDK l = c := ⟨_, rfl⟩
  rw [hq, hc]
  have HQ := Lib.hid (And.intro hq hc)
  have HS := Lib.hid h
  clear hq hc h
  go_enter Tryz.func11, Tryz.ntmps11
  go_wp2_with fail
  go_loopw [4] (fun v3 wr => ∃ i : Nat, v3 = .int .i64 i ∧ 1 ≤ i ∧ i ≤ 6 ∧ w = wr ∧ Hid (∀ j : Nat, 1 ≤ j → j < i → wordD j ≠ l)) (fun v3 _ => 6 - (intOf v3).toNat)
  case atStart => exact ⟨1, rfl, by omega, by omega, rfl, fun j h1 h2 => absurd h2 (by omega)⟩
  case round =>
    obtain ⟨i, rfl, hi1, hi6, rfl, hrel⟩ := hrel
    by_cases hlt : i < 6
    · have g1 : (i : Int) ≤ 5 := by omega
      have HW := Lib.hid (oword_calls (i : Int) w)
      go_wp2_with fail
      refine HW.out.mono ?_
      rintro e w2 ⟨rfl, rfl⟩
      clear HW
      by_cases he : wordD i = l
      · have HE := Lib.hid (show q = (i : Int) ∧ c = 0 by
          have hk := kindD_step ⟨hi1, by omega⟩ he
          refine ⟨by rw [← HQ.out.1]; exact hk, ?_⟩
          rw [← HQ.out.2]
          unfold codeDK
          rw [hk, if_neg (by omega)])
        have hs := HS.out.eq
        rw [← he] at hs
        subst hs
        go_wp2_with fail
        go_ret2
        exact ⟨by rw [HE.out.1, HE.out.2]; first | done | rfl, rfl⟩
      · have HE := Lib.hid he
        have hne : (wordD (i : Int) == s.toList) = false := by rw [HS.out.toList]; simpa using HE.out
        clear he
        go_wp2_with fail
        refine ⟨⟨i + 1, by go_num, by omega, by omega, by trivial, fun j h1 h2 => ?_⟩, by simp [intOf]; omega⟩
        rcases Nat.lt_or_ge j i with h3 | h3
        · exact hrel.out j h1 h3
        · obtain rfl : i = j := by omega
          exact HE.out
    · obtain rfl : i = 6 := by omega
      have HE := Lib.hid (show q = 0 ∧ c = 16 by
        have hk := kindD_none hrel.out
        refine ⟨by rw [← HQ.out.1]; exact hk, ?_⟩
        rw [← HQ.out.2]
        unfold codeDK
        rw [hk]; rfl)
      go_wp2_with fail
      go_ret2
      exact ⟨by rw [HE.out.1, HE.out.2]; first | done | rfl, rfl⟩

/-! The document's. -/
def words5 : List Value := [.string ⟨#[99]⟩, .string ⟨#[103]⟩, .string ⟨#[109, 115]⟩, .string ⟨#[104]⟩, .string ⟨#[100]⟩]
theorem words5_at : ∀ {i : Nat}, i < 5 → words5[i]? = some (.string ⟨(wordD ((i : Int) + 1)).toArray⟩)
  | 0, _ => rfl
  | 1, _ => rfl
  | 2, _ => rfl
  | 3, _ => rfl
  | 4, _ => rfl
  | n + 5, h => absurd h (by omega)
set_option maxRecDepth 100000 in
set_option maxHeartbeats 2000000 in
theorem rwords_calls (w : World) : Calls Tryz.prog 12 #[] w fun e w' => e = .returned (.slice (some ⟨w.heap.size, 0, none⟩) 5 5) ∧ Box w' w.heap.size 9 words5 ∧ Below w.heap.size w w' := by
  have HB := Lib.hid (And.intro (Box.new w 9 words5) ((Below.refl w.heap.size w).alloc (Nat.le_refl _) (.cells words5.toArray 9)))
  go_enter Tryz.func12, Tryz.ntmps12
  go_wp2_with fail
  go_ret
  exact ⟨rfl, HB.out⟩
set_option maxRecDepth 100000 in
set_option maxHeartbeats 2000000 in
theorem okindr_calls {s : ByteArray} {l : List UInt8} (h : Str s l) (w : World) : Calls Tryz.prog 13 #[.string s] w fun e w' => e = .returned (.int .i64 (kindD l)) ∧ Below w.heap.size w w' := by
  obtain ⟨q, hq⟩ : ∃ q, kindD l = q := ⟨_, rfl⟩
  rw [hq]
  have HQ := Lib.hid hq
  have HS := Lib.hid h
  clear hq h
  go_enter Tryz.func13, Tryz.ntmps13
  go_wp2_with fail
  refine (rwords_calls w).mono ?_
  rintro e w1 ⟨rfl, hbx, hb⟩
  have HB := Lib.hid (And.intro hbx hb)
  clear hbx hb
  go_wp2_with fail
  go_loopw [4] (fun v3 wr => ∃ i : Nat, v3 = .int .i64 i ∧ i ≤ 5 ∧ w1 = wr ∧ Hid (∀ j : Nat, j < i → wordD ((j : Int) + 1) ≠ l)) (fun v3 _ => 5 - (intOf v3).toNat)
  case atStart => exact ⟨0, rfl, by omega, rfl, fun j h2 => absurd h2 (by omega)⟩
  case round =>
    obtain ⟨i, rfl, hi6, rfl, hrel⟩ := hrel
    by_cases hlt : i < 5
    · have g1 : (i : Int) < 5 := by omega
      have g0 : (0 : Int) ≤ (i : Int) := by omega
      have hc : w1.cell? ⟨w.heap.size, i, none⟩ = some (.string ⟨(wordD ((i : Int) + 1)).toArray⟩) := by rw [HB.out.1.cell, words5_at hlt]
      by_cases he : wordD ((i : Int) + 1) = l
      · have HE := Lib.hid (show q = (i : Int) + 1 by
          rw [← HQ.out]
          have := kindD_step (i := i + 1) ⟨by omega, by omega⟩ (by simpa using he)
          omega)
        have hs := HS.out.eq
        rw [← he] at hs
        subst hs
        go_wp2_with fail
        go_ret
        exact ⟨by rw [HE.out]; first | done | rfl, HB.out.2⟩
      · have HE := Lib.hid he
        have hne : (wordD ((i : Int) + 1) == s.toList) = false := by rw [HS.out.toList]; simpa using HE.out
        clear he
        go_wp2_with fail
        refine ⟨⟨i + 1, by go_num, by omega, by trivial, fun j h2 => ?_⟩, by simp [intOf]; omega⟩
        rcases Nat.lt_or_ge j i with h3 | h3
        · exact hrel.out j h3
        · obtain rfl : i = j := by omega
          exact HE.out
    · obtain rfl : i = 5 := by omega
      have HE := Lib.hid (show q = 0 by
        rw [← HQ.out]
        refine kindD_none fun j h1 h2 => ?_
        have := hrel.out (j - 1) (by omega)
        rwa [show ((j - 1 : Nat) : Int) + 1 = j by omega] at this)
      go_wp2_with fail
      go_ret
      exact ⟨by rw [HE.out]; first | done | rfl, HB.out.2⟩
end Go.Proofs.YtbcmchkgamkceaaGreatDoor

/-
  The pieces of a text with the places where they begin, and how they grow byte by byte; such pieces as cells (a number and a text). Nothing of the program.
-/
namespace Go.Proofs.YtbcmchkgamkceaaGreatDoor

theorem cutsB_none (c : UInt8) : cutsB c [] = [[]] := rfl
/-- One byte more: a new piece, or the last piece grown. -/
theorem cutsB_by (c : UInt8) (l : List UInt8) : cutsB c (l ++ [c]) = cutsB c l ++ [[]] := cutsB_append c l []
theorem cutsB_snoc {c b : UInt8} (h : b ≠ c) : ∀ l : List UInt8, ∃ ps q, cutsB c l = ps ++ [q] ∧ cutsB c (l ++ [b]) = ps ++ [q ++ [b]]
  | [] => ⟨[], [], rfl, by rw [List.nil_append, cutsB_no (by simpa using fun e => h e.symm)]; rfl⟩
  | x :: l => by
    obtain ⟨ps, q, h1, h2⟩ := cutsB_snoc h l
    rw [List.cons_append, cutsB, cutsB, h1, h2]
    by_cases hx : x = c
    · rw [if_pos hx, if_pos hx]
      exact ⟨[] :: ps, q, rfl, rfl⟩
    · rw [if_neg hx, if_neg hx]
      rcases ps with _ | ⟨p, ps⟩
      · exact ⟨[], x :: q, rfl, rfl⟩
      · exact ⟨(x :: p) :: ps, q, rfl, rfl⟩

/-- Pieces and where each begins, the first one at a place. -/
def placed : Nat → List (List UInt8) → List (Nat × List UInt8)
  | _, [] => []
  | k, p :: ps => (k, p) :: placed (k + p.length + 1) ps
theorem placed_append : ∀ (k : Nat) (ps qs : List (List UInt8)), placed k (ps ++ qs) = placed k ps ++ placed (k + lenB ps) qs
  | k, [], qs => by simp [placed, lenB]
  | k, p :: ps, qs => by
    rw [List.cons_append, placed, placed, placed_append, lenB_cons, List.cons_append, show k + p.length + 1 + lenB ps = k + (p.length + 1 + lenB ps) by omega]
theorem placed_length : ∀ (k : Nat) (ps : List (List UInt8)), (placed k ps).length = ps.length
  | _, [] => rfl
  | k, p :: ps => by rw [placed, List.length_cons, placed_length, List.length_cons]
theorem placed_text : ∀ (k : Nat) (ps : List (List UInt8)), (placed k ps).map (·.2) = ps
  | _, [] => rfl
  | k, p :: ps => by rw [placed, List.map_cons, placed_text]
theorem placed_drop : ∀ (k : Nat) (ps : List (List UInt8)) (j : Nat), (placed k ps).drop j = placed (k + lenB (ps.take j)) (ps.drop j)
  | k, ps, 0 => by simp [lenB]
  | _, [], j + 1 => by simp [placed]
  | k, p :: ps, j + 1 => by
    rw [placed, List.drop_succ_cons, placed_drop, List.take_succ_cons, List.drop_succ_cons, lenB_cons, show k + p.length + 1 + lenB (ps.take j) = k + (p.length + 1 + lenB (ps.take j)) by omega]
theorem placed_le {k : Nat} {ps : List (List UInt8)} {x : Nat × List UInt8} (h : x ∈ placed k ps) : x.1 + x.2.length < k + lenB ps := by
  induction ps generalizing k with
  | nil => simp [placed] at h
  | cons p ps ih =>
    rw [placed, List.mem_cons] at h
    rw [lenB_cons]
    rcases h with rfl | h
    · show k + p.length < _
      omega
    · have := ih h
      omega

/-- The pieces of a text, each with its place. -/
def cutsP (c : UInt8) (k : Nat) (l : List UInt8) : List (Nat × List UInt8) := placed k (cutsB c l)
theorem cutsP_nil (c : UInt8) (k : Nat) : cutsP c k [] = [(k, [])] := rfl
theorem cutsP_ne (c : UInt8) (k : Nat) (l : List UInt8) : cutsP c k l ≠ [] := fun e => by
  have h1 : (cutsP c k l).length = (cutsB c l).length := placed_length _ _
  rw [e] at h1
  exact cutsB_ne c l (List.eq_nil_of_length_eq_zero h1.symm)
theorem cutsP_by (c : UInt8) (k : Nat) (l : List UInt8) : cutsP c k (l ++ [c]) = cutsP c k l ++ [(k + l.length + 1, [])] := by
  unfold cutsP
  rw [cutsB_by, placed_append, lenB_cuts]
  rfl
theorem cutsP_snoc {c b : UInt8} (h : b ≠ c) (k : Nat) (l : List UInt8) : ∃ ps j q, cutsP c k l = ps ++ [(j, q)] ∧ cutsP c k (l ++ [b]) = ps ++ [(j, q ++ [b])] := by
  obtain ⟨ps, q, h1, h2⟩ := cutsB_snoc h l
  refine ⟨placed k ps, k + lenB ps, q, ?_, ?_⟩
  · unfold cutsP; rw [h1, placed_append]; rfl
  · unfold cutsP; rw [h2, placed_append]; rfl
theorem cutsP_length (c : UInt8) (k : Nat) : ∀ l : List UInt8, (cutsP c k l).length ≤ l.length + 1 := fun l => by
  unfold cutsP
  rw [placed_length]
  have h : ∀ ps : List (List UInt8), ps.length ≤ lenB ps := fun ps => by
    induction ps with
    | nil => simp
    | cons p ps ih => rw [lenB_cons, List.length_cons]; omega
  exact Nat.le_trans (h _) (Nat.le_of_eq (lenB_cuts c l))
theorem cutsP_le {c : UInt8} {k : Nat} {l : List UInt8} {x : Nat × List UInt8} (h : x ∈ cutsP c k l) : x.1 + x.2.length ≤ k + l.length := by
  have := placed_le h
  rw [lenB_cuts] at this
  omega
/-- The loop over a text's bytes: one round. -/
theorem cutsP_step (c : UInt8) (k : Nat) (l : List UInt8) (i : Nat) (hi : i < l.length) :
    (l[i] = c → cutsP c k (l.take (i + 1)) = cutsP c k (l.take i) ++ [(k + i + 1, [])]) ∧
    (l[i] ≠ c → ∃ ps j q, cutsP c k (l.take i) = ps ++ [(j, q)] ∧ cutsP c k (l.take (i + 1)) = ps ++ [(j, q ++ [l[i]])]) := by
  have ht : l.take (i + 1) = l.take i ++ [l[i]] := List.take_succ_eq_append_getElem hi
  rw [ht]
  refine ⟨fun e => ?_, fun e => cutsP_snoc e k _⟩
  have := cutsP_by c k (l.take i)
  rw [List.length_take, Nat.min_eq_left (Nat.le_of_lt hi)] at this
  rw [e]
  exact this

/-- A piece's two cells. -/
def encP (x : Nat × List UInt8) : List Value := [.int .i64 x.1, .string ⟨x.2.toArray⟩]
def flatP (ps : List (Nat × List UInt8)) : List Value := ps.flatMap encP
theorem flatP_nil : flatP [] = [] := rfl
theorem flatP_cons (x : Nat × List UInt8) (ps : List (Nat × List UInt8)) : flatP (x :: ps) = .int .i64 x.1 :: .string ⟨x.2.toArray⟩ :: flatP ps := rfl
theorem flatP_append (a b : List (Nat × List UInt8)) : flatP (a ++ b) = flatP a ++ flatP b := by unfold flatP; rw [List.flatMap_append]
theorem flatP_one (x : Nat × List UInt8) : flatP [x] = encP x := rfl
theorem flatP_length : ∀ ps : List (Nat × List UInt8), (flatP ps).length = ps.length * 2
  | [] => rfl
  | x :: ps => by rw [flatP_cons, List.length_cons, List.length_cons, flatP_length ps, List.length_cons]; omega
theorem flatP_get0 : ∀ (ps : List (Nat × List UInt8)) (i : Nat), (flatP ps)[i * 2]? = ps[i]?.map fun x => .int .i64 x.1
  | [], i => by simp [flatP_nil]
  | x :: ps, 0 => rfl
  | x :: ps, i + 1 => by rw [flatP_cons, show (i + 1) * 2 = i * 2 + 1 + 1 by omega]; simp only [List.getElem?_cons_succ]; exact flatP_get0 ps i
theorem flatP_get1 : ∀ (ps : List (Nat × List UInt8)) (i : Nat), (flatP ps)[i * 2 + 1]? = ps[i]?.map fun x => .string ⟨x.2.toArray⟩
  | [], i => by simp [flatP_nil]
  | x :: ps, 0 => rfl
  | x :: ps, i + 1 => by rw [flatP_cons, show (i + 1) * 2 + 1 = i * 2 + 1 + 1 + 1 by omega]; simp only [List.getElem?_cons_succ]; exact flatP_get1 ps i
theorem flatP_cells {ps : List (Nat × List UInt8)} : ∀ u ∈ flatP ps, u.oneCell' = true := by
  intro u hu
  obtain ⟨x, _, hu⟩ := List.mem_flatMap.1 hu
  simp [encP] at hu
  rcases hu with rfl | rfl <;> rfl
/-- The last piece's text, written anew. -/
theorem flatP_set (ps : List (Nat × List UInt8)) (j : Nat) (q q' : List UInt8) : (flatP (ps ++ [(j, q)])).set (ps.length * 2 + 1) (.string ⟨q'.toArray⟩) = flatP (ps ++ [(j, q')]) := by
  rw [flatP_append, flatP_append, flatP_one, flatP_one, show ps.length * 2 + 1 = (flatP ps).length + 1 by rw [flatP_length], List.set_append_right _ _ (by omega)]
  simp [encP]
end Go.Proofs.YtbcmchkgamkceaaGreatDoor

/-
  A row of pieces of the call's own, and its last piece's text written anew. Nothing of the program.
-/
namespace Go.Proofs.YtbcmchkgamkceaaGreatDoor
open Go.RowKit

theorem pieces_last {w : World} {base n cap g j : Nat} {e : TypeId} {ps : List (Nat × List UInt8)} {q : List UInt8}
    (h : w.ownsRow base e 2 (.slice (some ⟨g, 0, none⟩) n cap) n (flatP (ps ++ [(j, q)]))) (q' : List UInt8) :
    (w.setCell ⟨g, ps.length * 2 + 1, none⟩ (.string ⟨q'.toArray⟩)).ownsRow base e 2 (.slice (some ⟨g, 0, none⟩) n cap) n (flatP (ps ++ [(j, q')])) ∧
      w.grownBy (w.setCell ⟨g, ps.length * 2 + 1, none⟩ (.string ⟨q'.toArray⟩)) (some g) := by
  have := World.ownsRow.stored h (ps.length * 2 + 1) (.string ⟨q'.toArray⟩)
  rwa [flatP_set] at this
theorem pieces_count {w : World} {base n : Nat} {e : TypeId} {v : Value} {ps : List (Nat × List UInt8)} (h : w.ownsRow base e 2 v n (flatP ps)) : ps.length = n := by
  have := h.1
  rw [flatP_length] at this
  omega
end Go.Proofs.YtbcmchkgamkceaaGreatDoor

/-
  How the values of a line are gone through, as plain data; which texts stand where. Nothing of the program.
-/
namespace Go.Proofs.YtbcmchkgamkceaaGreatDoor
open Dc (D D0)

theorem placed_get (k : Nat) (vs : List (List UInt8)) {j : Nat} (hj : j < vs.length) : (placed k vs)[j]? = some (k + lenB (vs.take j), vs[j]) := by
  have h := placed_drop k vs j
  rw [List.drop_eq_getElem_cons hj, placed] at h
  have h2 := congrArg (fun l => l[0]?) h
  simpa using h2
theorem lenB_take (vs : List (List UInt8)) {j : Nat} (hj : j < vs.length) : lenB (vs.take (j + 1)) = lenB (vs.take j) + vs[j].length + 1 := by
  rw [List.take_succ_eq_append_getElem hj, lenB_append, lenB_cons]
  simp [lenB]
  omega
theorem lenB_take_le : ∀ (vs : List (List UInt8)) (j : Nat), lenB (vs.take j) ≤ lenB vs
  | [], j => by simp [lenB]
  | v :: vs, 0 => by simp [lenB]
  | v :: vs, j + 1 => by
    rw [List.take_succ_cons, lenB_cons, lenB_cons]
    have := lenB_take_le vs j
    omega
theorem lenB_all (vs : List (List UInt8)) {j : Nat} (hj : j < vs.length) : lenB (vs.take j) + vs[j].length + 1 ≤ lenB vs := by
  rw [← lenB_take vs hj]
  exact lenB_take_le vs (j + 1)
theorem length_lenB : ∀ vs : List (List UInt8), vs.length ≤ lenB vs
  | [] => by simp
  | v :: vs => by
    rw [lenB_cons, List.length_cons]
    have := length_lenB vs
    omega

/-- After j texts of values: the values so far. -/
def VG (k0 : Nat) (vs : List (List UInt8)) (j : Nat) (acc : List D) : Prop :=
  valsD 1 k0 vs = match valsD (j + 1) (k0 + lenB (vs.take j)) (vs.drop j) with | .inl e => .inl e | .inr es => .inr (acc ++ es)
section
variable {k0 : Nat} {vs : List (List UInt8)} {j : Nat} {acc : List D}
theorem VG.start (k0 : Nat) (vs : List (List UInt8)) : VG k0 vs 0 [] := by
  unfold VG
  rw [List.take_zero, List.drop_zero, show k0 + lenB [] = k0 from rfl]
  cases valsD 1 k0 vs <;> rfl
theorem VG.bad (h : VG k0 vs j acc) (hj : j < vs.length) (hb : (Dc.parse vs[j]).2.1 ≠ 0 ∨ 64 < j + 1) : valsD 1 k0 vs = .inl (k0 + lenB (vs.take j)) := by
  unfold VG at h
  rw [List.drop_eq_getElem_cons hj, valsD_bad hb] at h
  exact h
theorem VG.ok (h : VG k0 vs j acc) (hj : j < vs.length) (hb : ¬ ((Dc.parse vs[j]).2.1 ≠ 0 ∨ 64 < j + 1)) : VG k0 vs (j + 1) (acc ++ [(Dc.parse vs[j]).1]) := by
  unfold VG at h ⊢
  rw [List.drop_eq_getElem_cons hj, valsD_ok hb] at h
  rw [h, lenB_take vs hj, ← Nat.add_assoc, ← Nat.add_assoc]
  cases valsD (j + 1 + 1) (k0 + lenB (vs.take j) + vs[j].length + 1) (vs.drop (j + 1)) with
  | inl e => rfl
  | inr es => simp
theorem VG.end_ (h : VG k0 vs j acc) (hj : ¬ j < vs.length) : valsD 1 k0 vs = .inr acc := by
  unfold VG at h
  rw [List.drop_eq_nil_of_le (by omega), valsD] at h
  rw [h]
  show Sum.inr (acc ++ []) = _
  rw [List.append_nil]
end
end Go.Proofs.YtbcmchkgamkceaaGreatDoor

/-
  The document's answer for lines of StatsD: words, places of bytes, names. No statement of the seat is proved here.
-/
namespace Go.Proofs.YtbcmchkgamkceaaGreatDoor
open Go.RowKit
open Dc (D D0)

/-- Where a byte stands, from one on. -/
def findB (l : List UInt8) (n : Nat) (c : UInt8) : Nat := n + (cutB c (l.drop n)).1.length
theorem findB_at {l : List UInt8} {n i : Nat} {c : UInt8} (hn : n ≤ i) (hi : i < l.length) (hc : l[i] = c) (h : ∀ j (hj : j < l.length), n ≤ j → j < i → l[j] ≠ c) : findB l n c = i := by
  have e : l.drop n = (l.drop n).take (i - n) ++ c :: l.drop (i + 1) := by
    conv => lhs; rw [← List.take_append_drop (i - n) (l.drop n)]
    rw [List.drop_drop, show n + (i - n) = i by omega, List.drop_eq_getElem_cons hi, hc]
  have hb : c ∉ (l.drop n).take (i - n) := fun hm => by
    obtain ⟨j, hj, ej⟩ := List.mem_iff_getElem.1 hm
    rw [List.length_take, List.length_drop] at hj
    rw [List.getElem_take, List.getElem_drop] at ej
    exact h (n + j) (by omega) (by omega) (by omega) ej
  unfold findB
  rw [e, cutB_hit _ hb]
  show n + ((l.drop n).take (i - n)).length = i
  rw [List.length_take, List.length_drop]
  omega
theorem findB_none {l : List UInt8} {n : Nat} {c : UInt8} (hn : n ≤ l.length) (h : ∀ j (hj : j < l.length), n ≤ j → l[j] ≠ c) : findB l n c = l.length := by
  have hb : c ∉ l.drop n := fun hm => by
    obtain ⟨j, hj, ej⟩ := List.mem_iff_getElem.1 hm
    rw [List.length_drop] at hj
    rw [List.getElem_drop] at ej
    exact h (n + j) (by omega) (by omega) ej
  unfold findB
  rw [cutB_miss hb]
  show n + (l.drop n).length = _
  rw [List.length_drop]
  omega
theorem findB_le (l : List UInt8) {n : Nat} (hn : n ≤ l.length) (c : UInt8) : n ≤ findB l n c ∧ findB l n c ≤ l.length := by
  unfold findB
  rcases cutB_cases c (l.drop n) with ⟨_, e⟩ | ⟨p, r, _, e1, e⟩
  · rw [e]
    show n ≤ n + (l.drop n).length ∧ n + (l.drop n).length ≤ _
    rw [List.length_drop]; omega
  · rw [e]
    have := congrArg List.length e1
    rw [List.length_append, List.length_cons, List.length_drop] at this
    show n ≤ n + p.length ∧ n + p.length ≤ _
    omega

theorem words_str : Str ⟨#[99]⟩ [99] ∧ Str ⟨#[103]⟩ [103] ∧ Str ⟨#[109, 115]⟩ [109, 115] ∧ Str ⟨#[104]⟩ [104] ∧ Str ⟨#[]⟩ [] := ⟨rfl, rfl, rfl, rfl, rfl⟩
theorem kind_step {w : List UInt8} {i : Nat} (hi : 1 ≤ i ∧ i ≤ 4) (h : ∀ j : Nat, 1 ≤ j → j < i → wordOf j ≠ w) (e : wordOf i = w) : kindOf w = i := by
  subst e
  exact kindOf_word (by omega)
theorem kind_none {w : List UInt8} (h : ∀ j : Nat, 1 ≤ j → j < 5 → wordOf j ≠ w) : kindOf w = 0 := by
  rcases Decidable.em (kindOf w = 0) with h0 | h0
  · exact h0
  · obtain ⟨h1, h2, h3⟩ := wordOf_kind h0
    exact absurd (by rw [Int.toNat_of_nonneg (by omega)]; exact h1) (h (kindOf w).toNat (by omega) (by omega))
end Go.Proofs.YtbcmchkgamkceaaGreatDoor

/-
  Lines of StatsD by places: what parseS says, by where the marks stand. Nothing of the program.
-/
namespace Go.Proofs.YtbcmchkgamkceaaGreatDoor
open Dc (D D0)

theorem cut_find {l : List UInt8} {n b : Nat} {c : UInt8} (hn : n ≤ l.length) (hb : findB l n c = b) :
    n ≤ b ∧ b ≤ l.length ∧ (cutB c (l.drop n)).1 = (l.drop n).take (b - n) ∧ ((b = l.length ∧ (cutB c (l.drop n)).2.1 = false ∧ (cutB c (l.drop n)).2.2 = []) ∨ (b < l.length ∧ (cutB c (l.drop n)).2.1 = true ∧ (cutB c (l.drop n)).2.2 = l.drop (b + 1))) := by
  have hle := findB_le l hn c
  rw [hb] at hle
  unfold findB at hb
  rcases cutB_cases c (l.drop n) with ⟨_, e⟩ | ⟨p, r, _, e1, e⟩
  · rw [e] at hb ⊢
    have hb : n + (l.drop n).length = b := hb
    rw [List.length_drop] at hb
    refine ⟨hle.1, hle.2, ?_, .inl ⟨by omega, rfl, rfl⟩⟩
    show l.drop n = _
    rw [List.take_of_length_le (by rw [List.length_drop]; omega)]
  · rw [e] at hb ⊢
    have hb : n + p.length = b := hb
    have hlen := congrArg List.length e1
    rw [List.length_append, List.length_cons, List.length_drop] at hlen
    refine ⟨hle.1, hle.2, ?_, .inr ⟨by omega, rfl, ?_⟩⟩
    · show p = _
      rw [e1, show b - n = p.length by omega, List.take_left]
    · show r = _
      rw [show b + 1 = n + (p.length + 1) by omega, ← List.drop_drop, e1, ← List.drop_drop, List.drop_left]
      rfl
/-- The text between two places. -/
def btw (l : List UInt8) (n b : Nat) : List UInt8 := (l.drop n).take (b - n)
theorem btw_len {l : List UInt8} {n b : Nat} (h1 : n ≤ b) (h2 : b ≤ l.length) : (btw l n b).length = b - n := by
  unfold btw
  rw [List.length_take, List.length_drop]; omega
theorem btw_zero (l : List UInt8) (b : Nat) : btw l 0 b = l.take b := by unfold btw; rw [List.drop_zero, Nat.sub_zero]
section
variable {l : List UInt8} {a b c e : Nat}
theorem parseS_num (ha : findB l 0 58 = a) : parseS l = if nameR (btw l 0 a) = false then failS 15 0 else if a = l.length then failS 11 l.length else valueS (a + 1) l.length (btw l 0 a) (l.drop (a + 1)) := by
  obtain ⟨_, h2, h3, h4⟩ := cut_find (Nat.zero_le _) ha
  rw [List.drop_zero] at h3 h4
  unfold parseS btw
  rw [List.drop_zero, h3]
  rcases h4 with ⟨h4, h5, _⟩ | ⟨h4, h5, h6⟩
  · rw [h5, if_pos rfl, if_pos h4]
  · rw [h5, h6, if_neg (show ¬ (true = false) by decide), if_neg (show ¬ a = l.length by omega), List.length_take, Nat.sub_zero, Nat.min_eq_left (by omega)]
theorem valueS_num (hn : a + 1 ≤ l.length) (hb : findB l (a + 1) 124 = b) (n : Nat) (name : List UInt8) : valueS (a + 1) n name (l.drop (a + 1)) = if (Dc.parse (btw l (a + 1) b)).2.1 ≠ 0 then failS 17 (a + 1) else if b = l.length then failS 11 n else wordS (a + 1) (b + 1) name (btw l (a + 1) b) (Dc.parse (btw l (a + 1) b)).1 (l.drop (b + 1)) := by
  obtain ⟨h1, h2, h3, h4⟩ := cut_find hn hb
  unfold valueS btw
  rw [h3]
  rcases h4 with ⟨h4, h5, _⟩ | ⟨h4, h5, h6⟩
  · rw [h5, if_pos rfl, if_pos h4]
  · rw [h5, h6, if_neg (show ¬ (true = false) by decide), if_neg (show ¬ b = l.length by omega), List.length_take, List.length_drop, Nat.min_eq_left (by omega), show a + 1 + (b - (a + 1)) + 1 = b + 1 by omega]
theorem wordS_num (hn : b + 1 ≤ l.length) (hc : findB l (b + 1) 124 = c) (a1 : Nat) (name v : List UInt8) (d : D) : wordS a1 (b + 1) name v d (l.drop (b + 1)) = if kindOf (btw l (b + 1) c) = 0 then failS 16 (b + 1) else if kindOf (btw l (b + 1) c) = 2 ∧ v.head? = some 45 then failS 26 a1 else if c = l.length then (oneS name (kindOf (btw l (b + 1) c)) d 1000000, 0, 0) else restS (c + 1) name (kindOf (btw l (b + 1) c)) d (l.drop (c + 1)) := by
  obtain ⟨h1, h2, h3, h4⟩ := cut_find hn hc
  unfold wordS btw
  rw [h3]
  rcases h4 with ⟨h4, h5, _⟩ | ⟨h4, h5, h6⟩
  · rw [h5, if_pos rfl, if_pos h4]
  · rw [h5, h6, if_neg (show ¬ (true = false) by decide), if_neg (show ¬ c = l.length by omega), List.length_take, List.length_drop, Nat.min_eq_left (by omega), show b + 1 + (c - (b + 1)) + 1 = c + 1 by omega]
theorem restS_end (c : Nat) (name : List UInt8) (k : Int) (d : D) {t : List UInt8} (h : t.head? ≠ some 64) : restS c name k d t = failS 11 c := restS_none h
theorem restS_num (h64 : (l.drop (c + 1)).head? = some 64) (he : findB l (c + 2) 124 = e) (name : List UInt8) (k : Int) (d : D) : restS (c + 1) name k d (l.drop (c + 1)) = if (rated (btw l (c + 2) e)).2.1 ≠ 0 ∨ (k = 2 ∧ (rated (btw l (c + 2) e)).1 ≠ 1000000) then failS 18 (c + 2) else if e = l.length then (oneS name k d (rated (btw l (c + 2) e)).1, 0, 0) else failS 11 e := by
  obtain ⟨t, ht⟩ : ∃ t, l.drop (c + 1) = 64 :: t := by
    cases hd : l.drop (c + 1) with
    | nil => rw [hd] at h64; cases h64
    | cons x t => rw [hd] at h64; injection h64 with h64; subst h64; exact ⟨t, rfl⟩
  have hl := congrArg List.length ht
  rw [List.length_drop, List.length_cons] at hl
  have ht2 : l.drop (c + 2) = t := by rw [show c + 2 = (c + 1) + 1 from rfl, ← List.drop_drop, ht]; rfl
  obtain ⟨h1, h2, h3, h4⟩ := cut_find (n := c + 2) (by omega) he
  rw [ht, restS_cons]
  rw [if_neg (by simp)]
  rw [ht2] at h3 h4
  unfold btw
  rw [ht2, h3]
  rcases h4 with ⟨h4, h5, _⟩ | ⟨h4, h5, h6⟩
  · rw [h5, if_pos h4, if_neg (show ¬ (false = true) by decide)]
  · rw [h5, if_neg (show ¬ e = l.length by omega), if_pos rfl, List.length_take, show t.length = l.length - (c + 2) by omega, Nat.min_eq_left (by omega), show c + 1 + 1 + (e - (c + 2)) = e by omega]
end
end Go.Proofs.YtbcmchkgamkceaaGreatDoor

/-
  Lines of DogStatsD as plain data: what is written is parsed, and what is parsed is written. Nothing of the program.
-/
namespace Go.Proofs.YtbcmchkgamkceaaGreatDoor
open Dc (D D0)

theorem mem_join {b c : UInt8} : ∀ {ps : List (List UInt8)}, b ∈ Lib.join ps [c] → b = c ∨ ∃ p ∈ ps, b ∈ p
  | [], h => by rw [Lib.join_nil] at h; cases h
  | [p], h => by rw [Lib.join_one] at h; exact .inr ⟨p, by simp, h⟩
  | p :: q :: r, h => by
    rw [joinB_two] at h
    rcases List.mem_append.1 h with h | h
    · exact .inr ⟨p, by simp, h⟩
    · rcases List.mem_cons.1 h with h | h
      · exact .inl h
      · rcases mem_join (ps := q :: r) h with h | ⟨x, hx, hb⟩
        · exact .inl h
        · exact .inr ⟨x, List.mem_cons_of_mem _ hx, hb⟩
theorem text_colon (d : D) : (58 : UInt8) ∉ Dc.text d := by
  have dg : ∀ {l : List UInt8}, Digs l → (58 : UInt8) ∉ l := fun h hm => by have := h _ hm; unfold Dig at this; revert this; decide
  rw [Dc.text_sgn]
  intro hm
  rcases List.mem_append.1 hm with hm | hm
  · unfold Dc.sgn at hm
    split at hm
    · rcases List.mem_singleton.1 hm with h; revert h; decide
    · cases hm
  · rcases (by omega : 0 ≤ d.e ∨ d.e < 0) with h | h
    · exact dg ((Dc.sized_split d.c d.e).1 h).1 hm
    · obtain ⟨a, b, e1, ha, _, hb, _⟩ := (Dc.sized_split d.c d.e).2 h
      rw [e1] at hm
      rcases List.mem_append.1 hm with hm | hm
      · rcases List.mem_append.1 hm with hm | hm
        · exact dg ha hm
        · rcases List.mem_singleton.1 hm with h; revert h; decide
      · exact dg hb hm
theorem tags_bar {ts : List Tg} (h : ∀ t ∈ ts, rightT t = true) : (124 : UInt8) ∉ textT ts := by
  unfold textT
  intro hm
  rcases mem_join hm with h1 | ⟨p, hp, hb⟩
  · revert h1; decide
  · obtain ⟨t, ht, rfl⟩ := List.mem_map.1 hp
    have hr := right_parts (h t ht)
    have k1 : (124 : UInt8) ∉ t.1 := fun m => by have := hr.1.2.2 124 m; exact absurd this (by decide)
    have k2 : (124 : UInt8) ∉ t.2 := fun m => by have := hr.2.2 124 m; exact absurd this (by decide)
    unfold txt at hb
    split at hb
    · exact k1 hb
    · rcases List.mem_append.1 hb with hb | hb
      · exact k1 hb
      · rcases List.mem_cons.1 hb with hb | hb
        · revert hb; decide
        · exact k2 hb
theorem digs_bar2 (n : Nat) : (124 : UInt8) ∉ Lib.decDigits n := digs_bar (val_decDigits n).2

/-- A metric that is right, in parts. -/
structure RightM (m : Mt) : Prop where
  name : nameR m.name = true
  kind : 1 ≤ m.kind ∧ m.kind ≤ 5
  vals : ∀ d ∈ m.vals, d.One
  many : 1 ≤ m.vals.length ∧ m.vals.length ≤ 64
  rate : 1 ≤ m.rate ∧ m.rate ≤ 1000000 ∧ (m.kind = 2 → m.rate = 1000000)
  tags : m.tags.length ≤ 32 ∧ ∀ t ∈ m.tags, rightT t = true
  time : 0 ≤ m.time ∧ m.time ≤ MaxT
theorem right_of {m : Mt} (h : checkM m = 0) : RightM m := by
  obtain ⟨h1, h2, h3, h4, h5, h6⟩ := restM_zero.1 h
  have hv := checkM_ok h
  unfold okV at hv
  rw [List.all_eq_true] at hv
  unfold tagsR at h5
  rw [Bool.and_eq_true, decide_eq_true_eq, List.all_eq_true] at h5
  exact ⟨h1, of_decide_eq_true h2, fun d hd => Dc.check_ok.1 (of_decide_eq_true (hv d hd)), (valsR_ok h3).2, of_decide_eq_true h4, h5, of_decide_eq_true h6⟩
theorem RightM.check {m : Mt} (h : RightM m) : checkM m = 0 := by
  refine restM_zero.2 ⟨h.name, decide_eq_true h.kind, ?_, decide_eq_true h.rate, ?_, decide_eq_true h.time⟩
  · unfold valsR
    rw [decide_eq_true h.many, Bool.and_true]
    unfold okV
    rw [List.all_eq_true]
    exact fun d hd => decide_eq_true (Dc.check_ok.2 (h.vals d hd))
  · unfold tagsR
    rw [Bool.and_eq_true, decide_eq_true_eq, List.all_eq_true]
    exact h.tags

theorem headP_ne (m : Mt) : m.name :: m.vals.map Dc.text ≠ [] := by simp
theorem RightM.head_cut {m : Mt} (h : RightM m) : cutsB 58 (headP m) = m.name :: m.vals.map Dc.text := by
  unfold headP
  refine cutsB_join 58 (headP_ne m) fun p hp => ?_
  rcases List.mem_cons.1 hp with rfl | hp
  · exact (name_bytes h.name).2.2.1
  · obtain ⟨d, _, rfl⟩ := List.mem_map.1 hp
    exact text_colon d
theorem RightM.head_bar {m : Mt} (h : RightM m) : (124 : UInt8) ∉ headP m := by
  unfold headP
  intro hm
  rcases mem_join hm with h1 | ⟨p, hp, hb⟩
  · revert h1; decide
  · rcases List.mem_cons.1 hp with rfl | hp
    · exact (name_bytes h.name).2.2.2 hb
    · obtain ⟨d, _, rfl⟩ := List.mem_map.1 hp
      exact text_bar d hb
theorem RightM.rateText_bar {m : Mt} (h : RightM m) : (124 : UInt8) ∉ rateText m.rate.toNat := Go.Proofs.YtbcmchkgamkceaaGreatDoor.rateText_bar (by have := h.rate; omega) (by have := h.rate; omega)
theorem RightM.line_bar {m : Mt} (h : RightM m) : ∀ p ∈ linePs m, (124 : UInt8) ∉ p := by
  intro p hp
  unfold linePs at hp
  rcases List.mem_cons.1 hp with rfl | hp
  · exact h.head_bar
  · rcases List.mem_cons.1 hp with rfl | hp
    · exact wordD_bar
    · rcases List.mem_append.1 hp with hp | hp
      · unfold rateP10 at hp
        split at hp
        · cases hp
        · rcases List.mem_singleton.1 hp with rfl
          simp only [List.mem_cons, not_or]
          exact ⟨by decide, h.rateText_bar⟩
      · rcases List.mem_append.1 hp with hp | hp
        · unfold tagsP at hp
          split at hp
          · cases hp
          · rcases List.mem_singleton.1 hp with rfl
            simp only [List.mem_cons, not_or]
            exact ⟨by decide, tags_bar h.tags.2⟩
        · unfold timeP at hp
          split at hp
          · cases hp
          · rcases List.mem_singleton.1 hp with rfl
            simp only [List.mem_cons, not_or]
            exact ⟨by decide, digs_bar2 _⟩
theorem RightM.cut {m : Mt} (h : RightM m) : cutsB 124 (lineD m) = linePs m := cutsB_join 124 (by unfold linePs; simp) h.line_bar

/-! The pieces behind. -/
theorem restD_rate {k : Int} {r : Int} (h : 1 ≤ r ∧ r ≤ 1000000 ∧ (k = 2 → r = 1000000)) (n : Nat) : restD k n R0 (rateP10 r) = .inr ⟨if r = 1000000 then 0 else 1, r, [], 0⟩ := by
  unfold rateP10
  by_cases hr : r = 1000000
  · rw [if_pos hr, restD_nil, if_pos hr, hr]; rfl
  · rw [if_neg hr, if_neg hr]
    have e := rated_text (n := r.toNat) (by omega) (by omega)
    rw [Int.toNat_of_nonneg (by omega)] at e
    have hp : pieceD k R0 (64 :: rateText r.toNat) = .inr ⟨1, r, [], 0⟩ := by
      rw [pieceD_rate, if_neg (by decide), if_neg (by rw [e]; rintro (h1 | ⟨h1, h2⟩); exact h1 rfl; exact h2 (h.2.2 h1)), e]
      rfl
    rw [restD_ok hp, restD_nil]
theorem restD_tags {k : Int} {ts : List Tg} (h1 : ts.length ≤ 32) (h2 : ∀ t ∈ ts, rightT t = true) {x : Rt} (hl : x.last < 2) (ht : x.tags = []) (n : Nat) : restD k n x (tagsP ts) = .inr ⟨if ts = [] then x.last else 2, x.rate, norm ts, x.time⟩ := by
  unfold tagsP
  by_cases h0 : ts = []
  · subst h0
    rw [if_pos rfl, restD_nil, if_pos rfl]
    obtain ⟨a, b, c, d⟩ := x
    simp only at ht
    subst ht
    rfl
  · rw [if_neg h0, if_neg h0]
    have hp : pieceD k x (35 :: textT ts) = .inr ⟨2, x.rate, norm ts, x.time⟩ := by
      rw [pieceD_tags, if_neg (by omega), parse_text h0 h2]
      show (if 32 < ts.length then _ else _) = _
      rw [if_neg (by omega)]
    rw [restD_ok hp, restD_nil]
theorem restD_time {k : Int} {t : Int} (h : 0 ≤ t ∧ t ≤ MaxT) {x : Rt} (hl : x.last < 3) (ht : x.time = 0) (n : Nat) : ∃ l, restD k n x (timeP t) = .inr ⟨l, x.rate, x.tags, t⟩ := by
  unfold timeP
  by_cases h0 : t = 0
  · subst h0
    refine ⟨x.last, ?_⟩
    rw [if_pos rfl, restD_nil, ← ht]
  · refine ⟨3, ?_⟩
    rw [if_neg h0]
    have hp : pieceD k x (84 :: Lib.decDigits t.toNat) = .inr ⟨3, x.rate, x.tags, t⟩ := by
      rw [pieceD_time, if_neg (by omega), parsed_time (by omega), if_neg (by simp)]
    rw [restD_ok hp, restD_nil]
theorem RightM.rest {m : Mt} (h : RightM m) (n : Nat) : ∃ l, restD m.kind n R0 (rateP10 m.rate ++ (tagsP m.tags ++ timeP m.time)) = .inr ⟨l, m.rate, norm m.tags, m.time⟩ := by
  rw [restD_append, restD_rate h.rate]
  show ∃ l, restD m.kind _ ⟨if m.rate = 1000000 then 0 else 1, m.rate, [], 0⟩ (tagsP m.tags ++ timeP m.time) = _
  rw [restD_append, restD_tags h.tags.1 h.tags.2 (by show (if m.rate = 1000000 then 0 else 1) < 2; split <;> omega) rfl]
  refine restD_time h.time ?_ rfl _
  show (if m.tags = [] then (if m.rate = 1000000 then 0 else 1) else 2) < 3
  split
  · split <;> omega
  · omega

/-! How long a line is. -/
theorem time_len {t : Int} (h : 0 ≤ t ∧ t ≤ MaxT) : (Lib.decDigits t.toNat).length ≤ 13 := by
  rcases Nat.lt_or_ge 13 (Lib.decDigits t.toNat).length with hl | hl
  · exfalso
    by_cases h0 : t.toNat = 0
    · rw [h0] at hl; revert hl; decide +kernel
    · obtain ⟨b, r, e1, e2⟩ := decDigits_head t.toNat h0
      obtain ⟨hv, hd⟩ := val_decDigits t.toNat
      have hg := val_ge (r := r) (hd b (by rw [e1]; simp)) e2
      rw [← e1, hv] at hg
      rw [e1, List.length_cons] at hl
      have hp := Nat.pow_le_pow_right (n := 10) (by decide) (show 13 ≤ r.length by omega)
      have hq : (10 : Nat) ^ 13 = 10000000000000 := by decide
      have hm : t ≤ 1099511627776 := h.2
      omega
  · exact hl
theorem tags_len : ∀ (us : List Tg), (∀ t ∈ us, rightT t = true) → (Lib.join (us.map txt) [44]).length ≤ 166 * us.length
  | [], _ => by simp [Lib.join_nil]
  | t :: us, h => by
    have h1 := txt_len (h t (by simp))
    have h2 := tags_len us (fun x hx => h x (List.mem_cons_of_mem _ hx))
    rcases us with _ | ⟨u, us⟩
    · simp only [List.map_cons, List.map_nil, Lib.join_one, List.length_cons, List.length_nil]; omega
    · simp only [List.map_cons] at h2 ⊢
      rw [join_two]
      simp only [List.length_append, List.length_cons] at h2 ⊢
      omega
theorem vals_len : ∀ (ds : List D), (∀ d ∈ ds, d.One) → lenB (ds.map Dc.text) ≤ 40 * ds.length
  | [], _ => by simp [lenB]
  | d :: ds, h => by
    have h1 := Dc.text_length (h d (by simp))
    have h2 := vals_len ds (fun x hx => h x (List.mem_cons_of_mem _ hx))
    rw [List.map_cons, lenB_cons, List.length_cons]
    omega
theorem RightM.len {m : Mt} (h : RightM m) : (lineD m).length ≤ 8192 := by
  have e0 : lenB (linePs m) = (lineD m).length + 1 := lenB_join 124 (by unfold linePs; simp)
  have e1 : lenB (m.name :: m.vals.map Dc.text) = (headP m).length + 1 := lenB_join 58 (headP_ne m)
  rw [lenB_cons] at e1
  have h1 := (name_bytes h.name).2.1
  have h2 := vals_len m.vals h.vals
  have h3 := h.many
  have h4 := (wordD_len h.kind).2
  have h5 : lenB (rateP10 m.rate) ≤ 10 := by
    unfold rateP10
    split
    · simp [lenB]
    · have := (rateText_len (n := m.rate.toNat) (by have := h.rate; omega) (by have := h.rate; omega)).2
      simp [lenB]; omega
  have h6 : lenB (tagsP m.tags) ≤ 5314 := by
    unfold tagsP
    split
    · simp [lenB]
    · have := tags_len m.tags h.tags.2
      have h7 := h.tags.1
      unfold textT
      simp [lenB]; omega
  have h7 : lenB (timeP m.time) ≤ 15 := by
    unfold timeP
    split
    · simp [lenB]
    · have := time_len h.time
      simp [lenB]; omega
  unfold linePs at e0
  rw [lenB_cons, lenB_cons, lenB_append, lenB_append] at e0
  omega

/-- What is written is parsed as the metric, its tags in order, each once. -/
theorem RightM.back {m : Mt} (h : RightM m) : parseD (lineD m) = ({ m with tags := norm m.tags }, 0, 0) := by
  unfold parseD
  rw [if_neg (by have := h.len; omega), h.cut]
  unfold linePs
  show firstD _ (headP m) _ (cutsB 58 (headP m)) = _
  rw [h.head_cut]
  rw [firstD, h.name, if_neg (by decide), if_neg (by
    have := h.many.1
    intro e
    have e2 := congrArg List.length e
    rw [List.length_map, List.length_nil] at e2
    omega), valsD_text m.vals 1 _ h.vals (by have := h.many.2; omega)]
  show kindsD _ _ m.name m.vals (wordD m.kind :: (rateP10 m.rate ++ (tagsP m.tags ++ timeP m.time))) = _
  rw [kindsD, kindD_word h.kind, if_neg (by have := h.kind; omega)]
  obtain ⟨l, e⟩ := h.rest (((headP m).length + 1) + (wordD m.kind).length + 1)
  rw [e]
end Go.Proofs.YtbcmchkgamkceaaGreatDoor

/-
  Lines of DogStatsD as plain data: what is parsed, what stands behind a line, and that lines tell metrics apart. Nothing of the program.
-/
namespace Go.Proofs.YtbcmchkgamkceaaGreatDoor
open Dc (D D0)

/-- What pieces have told is right. -/
structure OkR (k : Int) (x : Rt) : Prop where
  rate : 1 ≤ x.rate ∧ x.rate ≤ 1000000 ∧ (k = 2 → x.rate = 1000000)
  tags : x.tags.length ≤ 32 ∧ ∀ t ∈ x.tags, rightT t = true
  norm_ : x.tags = norm x.tags
  time : 0 ≤ x.time ∧ x.time ≤ MaxT
theorem okR0 (k : Int) : OkR k R0 := ⟨⟨by decide, by decide, fun _ => rfl⟩, ⟨by decide, fun t ht => (by cases ht)⟩, rfl, ⟨by decide, by decide⟩⟩
theorem pieceD_told {k : Int} {x : Rt} (h : OkR k x) (p : List UInt8) : (∃ c : Int, pieceD k x p = .inl c ∧ c ≠ 0) ∨ ∃ y, pieceD k x p = .inr y ∧ OkR k y := by
  rcases p with _ | ⟨b, q⟩
  · exact .inl ⟨11, rfl, by decide⟩
  · by_cases h1 : b = 64
    · subst h1
      rw [pieceD_rate]
      split
      · exact .inl ⟨11, rfl, by decide⟩
      · split
        · exact .inl ⟨18, rfl, by decide⟩
        · rename_i hb
          obtain ⟨r, hr, r1, r2, _⟩ := rated_zero (q := q) (by
            rcases Decidable.em ((rated q).2.1 = 0) with h | h
            · exact h
            · exact absurd (.inl h) hb)
          refine .inr ⟨_, rfl, ⟨?_, h.tags, h.norm_, h.time⟩⟩
          rw [hr] at hb ⊢
          exact ⟨r1, r2, fun hk => by
            rcases Decidable.em (r = 1000000) with h | h
            · exact h
            · exact absurd (.inr ⟨hk, h⟩) hb⟩
    · by_cases h2 : b = 35
      · subst h2
        rw [pieceD_tags]
        split
        · exact .inl ⟨11, rfl, by decide⟩
        · rcases ht : parseT q with e | ts
          · exact .inl ⟨19, rfl, by decide⟩
          · show (∃ c : Int, (if 32 < ts.length then _ else _) = _ ∧ _) ∨ _
            by_cases hl : 32 < ts.length
            · exact .inl ⟨19, by rw [if_pos hl], by decide⟩
            · obtain ⟨_, _, hr⟩ := text_parse ht
              refine .inr ⟨{ x with last := 2, tags := norm ts }, by show (if 32 < ts.length then _ else _) = _; rw [if_neg hl], ⟨h.rate, ⟨?_, ?_⟩, (norm_norm ts).symm, h.time⟩⟩
              · show (norm ts).length ≤ 32
                have := norm_length ts
                omega
              · exact fun t ht => hr t (mem_norm.1 ht)
      · by_cases h3 : b = 84
        · subst h3
          rw [pieceD_time]
          split
          · exact .inl ⟨11, rfl, by decide⟩
          · split
            · exact .inl ⟨20, rfl, by decide⟩
            · rename_i hb
              obtain ⟨n, hn, n1, n2, _⟩ := parsed_zero (l := q) (by
                rcases Decidable.em ((parsed q 1 MaxT).2.1 = 0) with h | h
                · exact h
                · exact absurd h hb)
              refine .inr ⟨_, rfl, ⟨h.rate, h.tags, h.norm_, ?_⟩⟩
              show 0 ≤ (parsed q 1 MaxT).1 ∧ (parsed q 1 MaxT).1 ≤ MaxT
              rw [hn]
              exact ⟨by show (0 : Int) ≤ n; omega, n2⟩
        · exact .inl ⟨11, pieceD_none k x h1 h2 h3 q, by decide⟩
theorem restD_told {k : Int} : ∀ (ps : List (List UInt8)) (n : Nat) {x : Rt}, OkR k x → (∃ c : Int, ∃ a : Nat, restD k n x ps = .inl (c, a) ∧ c ≠ 0 ∧ n ≤ a ∧ a < n + lenB ps) ∨ ∃ y, restD k n x ps = .inr y ∧ OkR k y
  | [], n, x, h => .inr ⟨x, rfl, h⟩
  | p :: ps, n, x, h => by
    rw [lenB_cons]
    rcases pieceD_told h p with ⟨c, e, hc⟩ | ⟨y, e, hy⟩
    · exact .inl ⟨c, n, restD_bad e, hc, Nat.le_refl _, by omega⟩
    · rw [restD_ok e]
      rcases restD_told ps (n + p.length + 1) hy with ⟨c, a, e2, h1, h2, h3⟩ | h2
      · exact .inl ⟨c, a, e2, h1, by omega, by omega⟩
      · exact .inr h2
/-- What Parse tells: a metric in its one form; or a fault in the text. -/
theorem parseD_told (l : List UInt8) : (∃ c a : Int, parseD l = (M0, c, a) ∧ c ≠ 0 ∧ 0 ≤ a ∧ a ≤ (l.length : Int)) ∨ ∃ m, parseD l = (m, 0, 0) ∧ RightM m ∧ m.tags = norm m.tags := by
  unfold parseD
  by_cases hl : 8192 < l.length
  · rw [if_pos hl]
    exact .inl ⟨12, 0, rfl, by decide, by omega, by omega⟩
  · rw [if_neg hl]
    have hc := lenB_cuts 124 l
    rcases hps : cutsB 124 l with _ | ⟨p, ps⟩
    · exact absurd hps (cutsB_ne 124 l)
    · rw [hps, lenB_cons] at hc
      show (∃ c a : Int, firstD l.length p ps (cutsB 58 p) = _ ∧ _) ∨ ∃ m, firstD l.length p ps (cutsB 58 p) = _ ∧ _
      have hc2 := lenB_cuts 58 p
      rcases hqs : cutsB 58 p with _ | ⟨name, vs⟩
      · exact absurd hqs (cutsB_ne 58 p)
      · rw [hqs, lenB_cons] at hc2
        rw [firstD]
        by_cases hn : nameR name = false
        · rw [if_pos hn]
          exact .inl ⟨15, 0, rfl, by decide, by omega, by omega⟩
        · rw [if_neg hn]
          have hn : nameR name = true := by simpa using hn
          by_cases hv0 : vs = []
          · rw [if_pos hv0]
            exact .inl ⟨11, (p.length : Int), rfl, by decide, by omega, by omega⟩
          · rw [if_neg hv0]
            rcases hvs : valsD 1 (name.length + 1) vs with e | ds
            · have := valsD_at _ _ _ hvs
              exact .inl ⟨17, (e : Int), rfl, by decide, by omega, by omega⟩
            · obtain ⟨d1, d2, d3⟩ := valsD_told _ _ _ hvs
              have d4 := d3 hv0
              have d5 : 0 < vs.length := List.length_pos_iff.2 hv0
              show (∃ c a : Int, kindsD l.length (p.length + 1) name ds ps = _ ∧ _) ∨ ∃ m, kindsD l.length (p.length + 1) name ds ps = _ ∧ _
              rcases ps with _ | ⟨w, ps⟩
              · exact .inl ⟨11, (l.length : Int), rfl, by decide, by omega, by omega⟩
              · rw [lenB_cons] at hc
                rw [kindsD]
                by_cases hk : kindD w = 0
                · rw [if_pos hk]
                  exact .inl ⟨16, ((p.length + 1 : Nat) : Int), rfl, by decide, by omega, by omega⟩
                · rw [if_neg hk]
                  obtain ⟨_, k1, k2⟩ := wordD_kind hk
                  rcases restD_told ps (p.length + 1 + w.length + 1) (okR0 (kindD w)) with ⟨c, a, e, h1, h2, h3⟩ | ⟨y, e, hy⟩
                  · rw [e]
                    exact .inl ⟨c, (a : Int), rfl, h1, by omega, by omega⟩
                  · rw [e]
                    exact .inr ⟨_, rfl, ⟨hn, ⟨k1, k2⟩, d2, ⟨by show 1 ≤ ds.length; omega, by show ds.length ≤ 64; omega⟩, hy.rate, hy.tags, hy.time⟩, hy.norm_⟩
theorem RightM.isM {m : Mt} (h : RightM m) (hn : m.tags = norm m.tags) : isM m = true := by
  unfold Go.Proofs.YtbcmchkgamkceaaGreatDoor.isM
  rw [decide_eq_true h.check, decide_eq_true hn]
  rfl
/-- A metric in its one form is parsed as itself. -/
theorem RightM.self {m : Mt} (h : RightM m) (hn : m.tags = norm m.tags) : parseD (lineD m) = (m, 0, 0) := by
  rw [h.back, ← hn]
/-- The one form of a metric: right, its tags in order. -/
theorem nM_right {m : Mt} (h : codeM m = 0) : RightM (nM m) ∧ (nM m).tags = norm (nM m).tags := by
  rw [nM_ok h]
  exact ⟨right_of (formM_check h), (norm_norm m.tags).symm⟩
/-- Lines tell metrics apart. -/
theorem lineD_apart {a b : Mt} (ha : RightM a) (na : a.tags = norm a.tags) (hb : RightM b) (nb : b.tags = norm b.tags) : lineD a = lineD b ↔ a = b := by
  refine ⟨fun e => ?_, fun e => by rw [e]⟩
  have h1 := ha.self na
  rw [e, hb.self nb] at h1
  exact (congrArg Prod.fst h1).symm

/-! What stands behind a line without a rate, tags and a time. -/
theorem bare_line {m : Mt} (hr : m.rate = 1000000) (ht : m.tags = []) (hm : m.time = 0) : lineD m = headP m ++ 124 :: wordD m.kind := by
  have e : linePs m = [headP m, wordD m.kind] := by
    unfold linePs rateP10 tagsP timeP
    rw [if_pos hr, if_pos ht, if_pos hm]; rfl
  unfold lineD
  rw [e, joinB_two, Lib.join_one]
theorem bare_more {m : Mt} (h : RightM m) (hr : m.rate = 1000000) (ht : m.tags = []) (hm : m.time = 0) {x : List UInt8} (hl : (lineD m ++ 124 :: x).length ≤ 8192) :
    parseD (lineD m ++ 124 :: x) = match restD m.kind ((lineD m).length + 1) R0 (cutsB 124 x) with
      | .inl e => failS e.1 e.2
      | .inr y => (⟨m.name, m.kind, m.vals, y.rate, y.tags, y.time⟩, 0, 0) := by
  have e : linePs m = [headP m, wordD m.kind] := by
    unfold linePs rateP10 tagsP timeP
    rw [if_pos hr, if_pos ht, if_pos hm]; rfl
  have hlen : (lineD m).length = (headP m).length + 1 + (wordD m.kind).length := by rw [bare_line hr ht hm]; simp; omega
  unfold parseD
  rw [if_neg (by omega), cutsB_append, h.cut, e]
  show firstD _ (headP m) (wordD m.kind :: cutsB 124 x) (cutsB 58 (headP m)) = _
  rw [h.head_cut, firstD, h.name, if_neg (by decide), if_neg (by
    have := h.many.1
    intro e
    have e2 := congrArg List.length e
    rw [List.length_map, List.length_nil] at e2
    omega), valsD_text m.vals 1 _ h.vals (by have := h.many.2; omega)]
  show kindsD _ _ m.name m.vals (wordD m.kind :: cutsB 124 x) = _
  rw [kindsD, kindD_word h.kind, if_neg (by have := h.kind; omega), hlen]
  all_goals (cases restD m.kind ((headP m).length + 1 + (wordD m.kind).length + 1) R0 (cutsB 124 x) <;> rfl)
end Go.Proofs.YtbcmchkgamkceaaGreatDoor

/-
  A line of DogStatsD, put together part by part. Nothing of the program.
-/
namespace Go.Proofs.YtbcmchkgamkceaaGreatDoor
open Dc (D D0)

/-- The name, and values behind it. -/
def hdT (name : List UInt8) (ds : List D) : List UInt8 := name ++ Lib.joinTail [58] (ds.map Dc.text)
theorem hdT_nil (name : List UInt8) : hdT name [] = name := by unfold hdT Lib.joinTail; simp
theorem hdT_snoc (name : List UInt8) (ds : List D) (d : D) : hdT name (ds ++ [d]) = hdT name ds ++ 58 :: Dc.text d := by
  unfold hdT Lib.joinTail
  simp
theorem headP_is (m : Mt) : headP m = hdT m.name m.vals := by unfold headP hdT; rw [Lib.join_cons]
def rateB (r : Int) : List UInt8 := if r = 1000000 then [] else 124 :: 64 :: rateText r.toNat
def tagsB (ts : List Tg) : List UInt8 := if ts = [] then [] else 124 :: 35 :: textT ts
def timeB (t : Int) : List UInt8 := if t = 0 then [] else 124 :: 84 :: Lib.decDigits t.toNat
theorem lineD_parts (m : Mt) : lineD m = hdT m.name m.vals ++ 124 :: (wordD m.kind ++ (rateB m.rate ++ (tagsB m.tags ++ timeB m.time))) := by
  unfold lineD linePs rateP10 tagsP timeP rateB tagsB timeB
  rw [joinB_two, headP_is]
  congr 2
  by_cases h1 : m.rate = 1000000 <;> by_cases h2 : m.tags = [] <;> by_cases h3 : m.time = 0 <;> simp only [h1, h2, h3, if_true, if_false, List.nil_append, List.cons_append, List.append_nil, joinB_two, Lib.join_one]
theorem rateB_one : rateB 1000000 = [] := rfl
theorem rateB_no {r : Int} (h : r ≠ 1000000) : rateB r = 124 :: 64 :: rateText r.toNat := if_neg h
theorem tagsB_no {ts : List Tg} (h : ts ≠ []) : tagsB ts = 124 :: 35 :: textT ts := if_neg h
theorem timeB_no {t : Int} (h : t ≠ 0) : timeB t = 124 :: 84 :: Lib.decDigits t.toNat := if_neg h
/-- What Line tells of a metric. -/
def lineO (m : Mt) : List UInt8 := if codeM m = 0 then lineD (nM m) else []
/-- How long the parts are. -/
theorem RightM.parts {m : Mt} (h : RightM m) : (hdT m.name m.vals).length + 1 + (wordD m.kind).length + (rateB m.rate).length + (tagsB m.tags).length + (timeB m.time).length ≤ 8192 := by
  have := h.len
  rw [lineD_parts] at this
  simp only [List.length_append, List.length_cons] at this
  omega
theorem joinTail_take (ds : List D) (j : Nat) (name : List UInt8) : (hdT name (ds.take j)).length ≤ (hdT name ds).length := by
  unfold hdT Lib.joinTail
  conv => rhs; rw [← List.take_append_drop j ds]
  simp only [List.map_append, List.map_map, List.length_append, List.flatten_append]
  omega
end Go.Proofs.YtbcmchkgamkceaaGreatDoor
