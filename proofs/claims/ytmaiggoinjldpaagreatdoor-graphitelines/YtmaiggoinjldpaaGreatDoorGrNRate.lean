/-
  NRate, NRMath, SdMath, SdLine, SdTell, SdBack, SdRef, SdNum, GrBack, GrNum, SdSmall. No statement of the seat is proved here.
-/
import Derived.Test.YtmaiggoinjldpaaGreatDoorGrNPut
import Derived.Test.YtmaiggoinjldpaaGreatDoorNText
import Derived.Deep.RegionHeld3
import Derived.Test.YtmaiggoinjldpaaGreatDoorGrMem
import Derived.Test.YtmaiggoinjldpaaGreatDoorGrMMath
import Derived.Test.YtmaiggoinjldpaaGreatDoorGrMRef1
import Derived.Test.YtmaiggoinjldpaaGreatDoorGrTText
import Derived.Test.YtmaiggoinjldpaaGreatDoorGrKIs
/-
  Package num: Rate. No statement of the seat is proved here.
-/
namespace Go.Proofs.YtmaiggoinjldpaaGreatDoor
open Go.RowKit

theorem repeat_is (c : Nat) : Lib.repeatL [48] c = List.replicate c (48 : UInt8) := by
  induction c with
  | zero => rfl
  | succ c ih => rw [Lib.repeatL, ih]; rfl
theorem zeros5_calls (c : Nat) (hc : c ≤ 1000) (w : World) : Calls Tryz.prog 26 #[.string ⟨#[48]⟩, .int .i64 c] w fun e w' => (∃ t, e = .returned (.string t) ∧ Str t (List.replicate c 48)) ∧ Below w.heap.size w w' := by
  refine (Tryz.strings_Repeat ⟨#[48]⟩ c w (by omega) (by show 1 * c ≤ _; omega)).mono ?_
  rintro e w' ⟨rfl, hb⟩
  exact ⟨⟨_, rfl, by show Str ⟨(Lib.repeatL [48] c).toArray⟩ _; rw [repeat_is]; exact Str.mk _⟩, hb⟩

/-- The six digits that a rate's text has. -/
def sixOf (l : List UInt8) : List UInt8 := l.drop 2 ++ List.replicate (8 - l.length) 48
/-- Which rate a text is, or how it is wrong. -/
def rated (l : List UInt8) : Int × Int × Int :=
  if l = [49] then (1000000, 0, 0) else if (rfault l).1 ≠ 0 then (0, (rfault l).1, (rfault l).2) else if val (sixOf l) = 0 then (0, 10, 0) else ((val (sixOf l) : Int), 0, 0)

/-- What rates are written as. -/
theorem rf_right {l : List UInt8} (h : (rfault l).1 = 0) : ∃ d, l = 48 :: 46 :: d ∧ d ≠ [] ∧ Digs d ∧ d.length ≤ 6 := by
  match l, h with
  | [], h => exact absurd h (by decide)
  | [a], h =>
    rw [rf_eq1] at h
    split at h <;> exact absurd h (by decide)
  | a :: b :: d, h =>
    rw [rf_eq2] at h
    by_cases ha : a = 48
    · by_cases hb : b = 46
      · subst ha hb
        rw [if_neg (by simp), if_neg (by simp)] at h
        by_cases hd : d = []
        · rw [if_pos hd] at h; exact absurd h (by decide)
        · rw [if_neg hd] at h
          by_cases hbd : 0 ≤ bad 4 d
          · rw [if_pos hbd] at h; exact absurd h (by simp)
          · rw [if_neg hbd] at h
            by_cases h6 : 6 < d.length
            · rw [if_pos h6] at h; exact absurd h (by decide)
            · exact ⟨d, rfl, hd, digs_of_bad hbd, by omega⟩
      · rw [if_neg (by simp [ha]), if_pos (by simpa using hb)] at h; exact absurd h (by decide)
    · rw [if_pos (by simpa using ha)] at h; exact absurd h (by decide)
theorem rf_zero0 {l : List UInt8} (h : (rfault l).1 = 0) : rfault l = (0, 0) := by
  obtain ⟨d, rfl, h1, h2, h3⟩ := rf_right h
  rw [rf_dots, if_neg h1, bad_of_digs h2, if_neg (by decide), if_neg (by omega)]
theorem rf_dots0 {d : List UInt8} (h1 : d ≠ []) (h2 : Digs d) (h3 : d.length ≤ 6) : rfault (48 :: 46 :: d) = (0, 0) := by
  rw [rf_dots, if_neg h1, bad_of_digs h2, if_neg (by decide), if_neg (by omega)]

structure OneF (w w' : World) : Prop where
  own : Box w' w.heap.size 36 [.int .i64 0, .int .i64 0]
  kept : Below w.heap.size w w'
theorem OneF.next {w w1 w2 : World} (h : OneF w w1) (hb : Below w1.heap.size w1 w2) : OneF w w2 := ⟨h.own.keep hb, below_then h.kept hb⟩
theorem OneF.alloc {w w1 : World} (h : OneF w w1) (o : Obj) : OneF w (w1.alloc o) := ⟨h.own.alloc o, h.kept.alloc (Nat.le_of_lt h.own.lt) o⟩

end Go.Proofs.YtmaiggoinjldpaaGreatDoor

/-
  Numbers and rates as texts, there and back, and in order. Nothing of the program is walked.
-/
namespace Go.Proofs.YtmaiggoinjldpaaGreatDoor

/-! Numbers. -/
/-- Digits without a 0 ahead are those of their number. -/
theorem digits_unique {l : List UInt8} (hd : Digs l) (hne : l ≠ []) (h0 : l.head? ≠ some 48 ∨ l.length = 1) : l = Lib.decDigits (val l) := by
  obtain ⟨hv, hdd⟩ := val_decDigits (val l)
  refine val_inj hd hdd ?_ hv.symm
  rw [Lib.decDigits_length]
  match l, hne, h0, hd with
  | b :: r, _, h0, hd =>
    have hlt := val_lt hd
    by_cases hb : b = 48
    · subst hb
      have hr : r = [] := by
        rcases h0 with h | h
        · exact absurd rfl h
        · simpa using h
      subst hr
      exact (Lib.nDigits_small (u := val [48]) (by decide)).symm
    · have hb' := hd b (by simp)
      have hge := val_ge (r := r) hb' (fun h => hb (UInt8.toNat_inj.1 h))
      rw [List.length_cons] at hlt ⊢
      exact (Lib.nDigits_unique r.length _ hge hlt).symm
theorem digits_head (n : Nat) : (Lib.decDigits n).head? ≠ some 48 ∨ (Lib.decDigits n).length = 1 := by
  by_cases h : n = 0
  · right; rw [Lib.decDigits_length]; subst h; exact Lib.nDigits_small (by decide)
  · obtain ⟨b, r, h1, h2⟩ := decDigits_head n h
    left
    rw [h1]
    intro e
    simp only [List.head?_cons, Option.some.injEq] at e
    subst e
    exact h2 rfl
theorem parsed_digits {n : Nat} (h : n ≤ MaxI) {lo hi : Int} : parsed (Lib.decDigits n) lo hi = if (n : Int) < lo ∨ hi < (n : Int) then (0, 10, 0) else ((n : Int), 0, 0) := by
  obtain ⟨hv, hd⟩ := val_decDigits n
  unfold parsed
  rw [if_neg (decDigits_ne n), bad_of_digs hd, if_neg (by decide), if_neg, hv]
  · by_cases hc : (n : Int) < lo ∨ hi < (n : Int)
    · rw [if_pos (.inr hc), if_pos hc]
    · rw [if_neg (by omega), if_neg hc]
  · rintro ⟨h1, h2⟩
    rcases digits_head n with h' | h'
    · exact h' h1
    · omega
/-- What is read is written as just what was read. -/
theorem parsed_back {l : List UInt8} {lo hi n : Int} (h : parsed l lo hi = (n, 0, 0)) : 0 ≤ n ∧ n ≤ 9223372036854775807 ∧ Lib.decDigits n.toNat = l := by
  unfold parsed at h
  by_cases h1 : l = []
  · rw [if_pos h1] at h; injection h with _ h; injection h with h; exact absurd h (by decide)
  · rw [if_neg h1] at h
    by_cases h2 : 0 ≤ bad 4 l
    · rw [if_pos h2] at h; injection h with _ h; injection h with h; exact absurd h (by decide)
    · rw [if_neg h2] at h
      by_cases h3 : l.head? = some 48 ∧ 1 < l.length
      · rw [if_pos h3] at h; injection h with _ h; injection h with h; exact absurd h (by decide)
      · rw [if_neg h3] at h
        by_cases h4 : MaxI < val l ∨ (val l : Int) < lo ∨ hi < (val l : Int)
        · rw [if_pos h4] at h; injection h with _ h; injection h with h; exact absurd h (by decide)
        · rw [if_neg h4] at h
          injection h with h _
          subst h
          refine ⟨by omega, by unfold MaxI at h4; omega, ?_⟩
          rw [Int.toNat_natCast]
          have hl : 0 < l.length := List.length_pos_iff.2 h1
          refine (digits_unique (digs_of_bad h2) h1 ?_).symm
          by_cases hh : l.head? = some 48
          · right; have : ¬ 1 < l.length := fun h => h3 ⟨hh, h⟩; omega
          · left; exact hh
theorem parsed_wrong {l : List UInt8} {lo hi n a b : Int} (h : parsed l lo hi = (n, a, b)) (hab : ¬ (a = 0 ∧ b = 0)) : n = 0 := by
  unfold parsed at h
  repeat' split at h
  all_goals
    injection h with h1 h2
    injection h2 with h2 h3
    first | exact h1.symm | (exfalso; exact hab ⟨h2.symm, h3.symm⟩)

/-! Rates. -/
theorem drop_form (c : UInt8) : ∀ r : List UInt8, ∃ k, r = List.replicate k c ++ r.dropWhile (· == c) ∧ (r.dropWhile (· == c) = [] ∨ ∃ x t, r.dropWhile (· == c) = x :: t ∧ x ≠ c)
  | [] => ⟨0, rfl, .inl rfl⟩
  | x :: r => by
    by_cases h : x = c
    · subst h
      obtain ⟨k, h1, h2⟩ := drop_form x r
      have e : (x :: r).dropWhile (· == x) = r.dropWhile (· == x) := by simp
      rw [e]
      refine ⟨k + 1, ?_, h2⟩
      rw [List.replicate_succ, List.cons_append, ← h1]
    · have e : (x :: r).dropWhile (· == c) = x :: r := by simp [h]
      rw [e]
      exact ⟨0, rfl, .inr ⟨x, r, rfl, h⟩⟩
theorem trim_form (l : List UInt8) (c : UInt8) : ∃ k, l = Lib.trimRightB l c ++ List.replicate k c ∧ (Lib.trimRightB l c = [] ∨ ∃ t x, Lib.trimRightB l c = t ++ [x] ∧ x ≠ c) := by
  obtain ⟨k, h1, h2⟩ := drop_form c l.reverse
  unfold Lib.trimRightB
  refine ⟨k, ?_, ?_⟩
  · have := congrArg List.reverse h1
    rw [List.reverse_reverse, List.reverse_append, List.reverse_replicate] at this
    exact this
  · rcases h2 with h2 | ⟨x, t, h2, hx⟩
    · left; rw [h2]; rfl
    · right; exact ⟨t.reverse, x, by rw [h2, List.reverse_cons], hx⟩
theorem trim_zeros (l : List UInt8) (c : UInt8) (k : Nat) : Lib.trimRightB (l ++ List.replicate k c) c = Lib.trimRightB l c := by
  unfold Lib.trimRightB
  rw [List.reverse_append, List.reverse_replicate, List.dropWhile_append_of_pos]
  intro a ha
  rw [(List.mem_replicate.1 ha).2]
  simp
theorem trim_ahead {a d : List UInt8} {c : UInt8} (h : Lib.trimRightB d c ≠ []) : Lib.trimRightB (a ++ d) c = a ++ Lib.trimRightB d c := by
  unfold Lib.trimRightB at h ⊢
  rw [List.reverse_append, List.dropWhile_append]
  rw [if_neg (by simpa using h), List.reverse_append, List.reverse_reverse]

/-- The digits of a rate, without the zeros at their end. -/
theorem rate_digits {n : Nat} (h0 : n ≠ 0) (h : n < 1000000) : ∃ t x, Lib.trimRightB (six n) 48 = t ++ [x] ∧ x ≠ 48 ∧ Digs (t ++ [x]) ∧ (t ++ [x]).length ≤ 6 ∧ t ++ [x] ++ List.replicate (6 - (t ++ [x]).length) 48 = six n := by
  obtain ⟨_, hd, hl, hv⟩ := six_is h
  obtain ⟨k, h1, h2⟩ := trim_form (six n) 48
  rcases h2 with h2 | ⟨t, x, h2, hx⟩
  · rw [h2, List.nil_append] at h1
    rw [h1, val_zeros] at hv
    omega
  · rw [h2] at h1
    have hlen := congrArg List.length h1
    rw [hl, List.length_append, List.length_replicate] at hlen
    refine ⟨t, x, h2, hx, ?_, by omega, ?_⟩
    · rw [h1] at hd; exact hd.left
    · rw [show 6 - (t ++ [x]).length = k by omega]; exact h1.symm
theorem rateText_is {n : Nat} (h : n < 1000000) : rateText n = 48 :: 46 :: Lib.trimRightB (six n) 48 := by
  unfold rateText; rw [if_neg (by omega)]; rfl

theorem rated_dots {d : List UInt8} (h1 : d ≠ []) (h2 : Digs d) (h3 : d.length ≤ 6) : rated (48 :: 46 :: d) = if val (d ++ List.replicate (6 - d.length) 48) = 0 then (0, 10, 0) else ((val (d ++ List.replicate (6 - d.length) 48) : Int), 0, 0) := by
  have e : sixOf (48 :: 46 :: d) = d ++ List.replicate (6 - d.length) 48 := by unfold sixOf; simp
  unfold rated
  rw [if_neg (by simp), rf_dots0 h1 h2 h3, if_neg (by simp), e]
theorem rated_long {d : List UInt8} (h2 : Digs d) (h3 : 6 < d.length) : rated (48 :: 46 :: d) = (0, 12, 8) := by
  have e : rfault (48 :: 46 :: d) = (12, 8) := by
    rw [rf_dots, if_neg (by rintro rfl; simp at h3), bad_of_digs h2, if_neg (by decide), if_pos h3]
  unfold rated
  rw [if_neg (by simp), e, if_pos (by decide)]

/-- A rate's text, with zeros behind, is read as it. -/
theorem rated_zeros {n : Nat} (h0 : n ≠ 0) (h : n < 1000000) (z : Nat) : rated (rateText n ++ List.replicate z 48) = if (rateText n ++ List.replicate z 48).length ≤ 8 then ((n : Int), 0, 0) else (0, 12, 8) := by
  obtain ⟨t, x, h1, hx, hd, hl, h6⟩ := rate_digits h0 h
  rw [rateText_is h, h1]
  generalize ht : t ++ [x] = d at *
  have hdz : Digs (d ++ List.replicate z 48) := hd.append (digs_zeros _)
  rw [List.cons_append, List.cons_append]
  by_cases hc : (d ++ List.replicate z (48 : UInt8)).length ≤ 6
  · have hne : d ++ List.replicate z 48 ≠ [] := by rw [← ht]; simp
    have e : d ++ List.replicate z 48 ++ List.replicate (6 - (d ++ List.replicate z (48 : UInt8)).length) 48 = six n := by
      rw [List.append_assoc, List.replicate_append_replicate, ← h6]
      simp only [List.length_append, List.length_replicate] at hc ⊢
      congr 2; omega
    rw [rated_dots hne hdz hc, e, (six_is h).2.2.2, if_neg h0, if_pos (by simp only [List.length_cons]; omega)]
  · rw [rated_long hdz (by omega), if_neg (by simp only [List.length_cons]; omega)]
theorem rated_text {n : Nat} (h0 : n ≠ 0) (h : n ≤ 1000000) : rated (rateText n) = ((n : Int), 0, 0) := by
  by_cases he : n = 1000000
  · subst he; decide
  · have h' : n < 1000000 := by omega
    have := rated_zeros h0 h' 0
    rw [List.replicate_zero, List.append_nil] at this
    obtain ⟨t, x, h1, hx, hd, hl, h6⟩ := rate_digits h0 h'
    rw [this, if_pos]
    rw [rateText_is h', h1]
    simp only [List.length_cons]
    omega
theorem rateText_len {n : Nat} (h0 : n ≠ 0) (h : n < 1000000) : 3 ≤ (rateText n).length ∧ (rateText n).length ≤ 8 := by
  obtain ⟨t, x, h1, hx, hd, hl, h6⟩ := rate_digits h0 h
  rw [rateText_is h, h1]
  simp only [List.length_cons, List.length_append] at *
  simp at *
  omega
theorem rateText_last {n : Nat} (h0 : n ≠ 0) (h : n < 1000000) : ∃ t x, rateText n = t ++ [x] ∧ x ≠ 48 := by
  obtain ⟨t, x, h1, hx, _⟩ := rate_digits h0 h
  exact ⟨48 :: 46 :: t, x, by rw [rateText_is h, h1]; rfl, hx⟩
theorem isRate_iff (n : Int) : isRate n = true ↔ 1 ≤ n ∧ n ≤ 1000000 := by unfold isRate; rw [decide_eq_true_eq]

/-- What is read is a rate, whose text is what was read without the zeros at its end. -/
theorem rated_back {l : List UInt8} {n : Int} (h : rated l = (n, 0, 0)) : 1 ≤ n ∧ n ≤ 1000000 ∧ rateText n.toNat = Lib.trimRightB l 48 ∧ l ≠ [] ∧ (∀ k, k < l.length → k ≤ 1 → (∀ i (hi : i < l.length), k ≤ i → l[i] = 48) → False) := by
  unfold rated at h
  by_cases h1 : l = [49]
  · rw [if_pos h1] at h
    injection h with h _
    subst h h1
    refine ⟨by decide, by decide, by decide, by simp, ?_⟩
    intro k hk hk1 hall
    have := hall 0 (by simp) (by simp at hk; omega)
    exact absurd this (by decide)
  · rw [if_neg h1] at h
    by_cases h2 : (rfault l).1 ≠ 0
    · rw [if_pos h2] at h
      injection h with _ h
      injection h with h _
      exact absurd h h2
    · rw [if_neg h2] at h
      obtain ⟨d, rfl, hne, hd, hl⟩ := rf_right (l := l) (Classical.not_not.1 h2)
      have e : sixOf (48 :: 46 :: d) = d ++ List.replicate (6 - d.length) 48 := by unfold sixOf; simp
      have hdz : Digs (d ++ List.replicate (6 - d.length) 48) := hd.append (digs_zeros _)
      have hlz : (d ++ List.replicate (6 - d.length) (48 : UInt8)).length = 6 := by simp; omega
      have hlt := val_lt hdz
      rw [hlz] at hlt
      rw [e] at h
      by_cases h3 : val (d ++ List.replicate (6 - d.length) 48) = 0
      · rw [if_pos h3] at h
        injection h with _ h
        injection h with h _
        exact absurd h (by decide)
      · rw [if_neg h3] at h
        injection h with h _
        subst h
        have h6 : d ++ List.replicate (6 - d.length) 48 = six (val (d ++ List.replicate (6 - d.length) 48)) := six_unique hdz hlz rfl
        refine ⟨by omega, by omega, ?_, by simp, ?_⟩
        · obtain ⟨t, x, ht, _⟩ := rate_digits h3 (by omega)
          rw [Int.toNat_natCast, rateText_is (by omega), ← h6, trim_zeros]
          rw [← h6, trim_zeros] at ht
          have hnz : Lib.trimRightB d 48 ≠ [] := by rw [ht]; simp
          have := trim_ahead (a := [48, 46]) hnz
          exact this.symm
        · intro k hk hk1 hall
          have := hall 1 (by simp) hk1
          simp only [List.getElem_cons_succ, List.getElem_cons_zero] at this
          exact absurd this (by decide)
theorem rated_wrong {l : List UInt8} {n a b : Int} (h : rated l = (n, a, b)) (hab : ¬ (a = 0 ∧ b = 0)) : n = 0 := by
  unfold rated at h
  repeat' split at h
  all_goals
    injection h with h1 h2
    injection h2 with h2 h3
    first | exact h1.symm | (exfalso; exact hab ⟨h2.symm, h3.symm⟩)

/-! In order. -/
/-- No 0 at the end. -/
def NoZ (l : List UInt8) : Prop := l = [] ∨ ∃ t x, l = t ++ [x] ∧ x ≠ 48
theorem NoZ.tail {b : UInt8} {r : List UInt8} (h : NoZ (b :: r)) : NoZ r := by
  rcases h with h | ⟨t, x, h, hx⟩
  · cases h
  · cases t with
    | nil => injection h with _ h; exact .inl h
    | cons y t => injection h with _ h; exact .inr ⟨t, x, h, hx⟩
theorem NoZ.pos {l : List UInt8} (h : NoZ l) (hd : Digs l) (hne : l ≠ []) (k : Nat) : 0 < val (l ++ List.replicate k 48) := by
  rcases h with h | ⟨t, x, rfl, hx⟩
  · exact absurd h hne
  · have hb := hd x (by simp)
    unfold Dig at hb
    have hx' : x.toNat ≠ 48 := fun h => hx (UInt8.toNat_inj.1 h)
    rw [val_zeros_behind, val_snoc]
    exact Nat.mul_pos (by omega) (Nat.pos_of_ne_zero (by simp))
theorem less_trimmed : ∀ {a b : List UInt8} {i j : Nat}, Digs a → Digs b → NoZ a → NoZ b → a.length + i = b.length + j → Op.bytesLess a b = decide (val (a ++ List.replicate i 48) < val (b ++ List.replicate j 48))
  | [], [], i, j, _, _, _, _, _ => by simp [Op.bytesLess, val_zeros]
  | [], y :: b, i, j, _, hb, _, nb, _ => by
    have := nb.pos hb (by simp) j
    rw [List.nil_append, val_zeros, Op.bytesLess, decide_eq_true this]
  | x :: a, [], i, j, _, _, _, _, _ => by
    rw [List.nil_append, val_zeros, Op.bytesLess]
    simp
  | x :: a, y :: b, i, j, ha, hb, na, nb, hl => by
    have hx := ha x (by simp)
    have hy := hb y (by simp)
    have ha' : Digs a := fun z hz => ha z (by simp [hz])
    have hb' : Digs b := fun z hz => hb z (by simp [hz])
    have hl' : a.length + i = b.length + j := by simp only [List.length_cons] at hl; omega
    have l1 := val_lt (ha'.append (digs_zeros i))
    have l2 := val_lt (hb'.append (digs_zeros j))
    have e1 : (a ++ List.replicate i (48 : UInt8)).length = b.length + j := by simp; omega
    have e2 : (b ++ List.replicate j (48 : UInt8)).length = b.length + j := by simp
    rw [e1] at l1
    rw [e2] at l2
    unfold Dig at hx hy
    rw [Op.bytesLess, less_trimmed ha' hb' na.tail nb.tail hl', List.cons_append, List.cons_append, val_cons, val_cons, e1, e2]
    have hp : 0 < 10 ^ (b.length + j) := Nat.pos_of_ne_zero (by simp)
    generalize 10 ^ (b.length + j) = p at *
    rcases Nat.lt_trichotomy x.toNat y.toNat with h | h | h
    · have h1 : decide (x < y) = true := by simpa [UInt8.lt_iff_toNat_lt] using h
      have h2 : (x.toNat - 48 + 1) * p ≤ (y.toNat - 48) * p := Nat.mul_le_mul_right _ (by omega)
      rw [Nat.add_mul, Nat.one_mul] at h2
      rw [h1]
      simp
      omega
    · obtain rfl : x = y := UInt8.toNat_inj.1 h
      simp
    · have h1 : decide (x < y) = false := by simp [UInt8.lt_iff_toNat_lt]; omega
      have h3 : (x == y) = false := by
        have : x ≠ y := fun e => by rw [e] at h; omega
        simp [this]
      have h2 : (y.toNat - 48 + 1) * p ≤ (x.toNat - 48) * p := Nat.mul_le_mul_right _ (by omega)
      rw [Nat.add_mul, Nat.one_mul] at h2
      rw [h1, h3]
      simp
      omega
theorem rate_less {n m : Nat} (hn : n ≠ 0 ∧ n ≤ 1000000) (hm : m ≠ 0 ∧ m ≤ 1000000) : Op.bytesLess (rateText n) (rateText m) = decide (n < m) := by
  by_cases e1 : n = 1000000
  · subst e1
    by_cases e2 : m = 1000000
    · subst e2; decide
    · rw [rateText_is (n := m) (by omega), decide_eq_false (by omega)]; rfl
  · by_cases e2 : m = 1000000
    · subst e2
      rw [rateText_is (n := n) (by omega), decide_eq_true (by omega)]; rfl
    · obtain ⟨t, x, h1, hx, hd, hl, h6⟩ := rate_digits (n := n) hn.1 (by omega)
      obtain ⟨t', x', h1', hx', hd', hl', h6'⟩ := rate_digits (n := m) hm.1 (by omega)
      rw [rateText_is (n := n) (by omega), rateText_is (n := m) (by omega), h1, h1']
      have := less_trimmed (i := 6 - (t ++ [x]).length) (j := 6 - (t' ++ [x']).length) hd hd' (.inr ⟨t, x, rfl, hx⟩) (.inr ⟨t', x', rfl, hx'⟩) (by omega)
      rw [h6, h6', (six_is (n := n) (by omega)).2.2.2, (six_is (n := m) (by omega)).2.2.2] at this
      simp only [Op.bytesLess]
      rw [this]
      simp
theorem rate_same {n m : Nat} (hn : n ≠ 0 ∧ n ≤ 1000000) (hm : m ≠ 0 ∧ m ≤ 1000000) : (rateText n == rateText m) = decide (n = m) := by
  by_cases h : n = m
  · subst h; simp
  · rw [decide_eq_false h, beq_eq_false_iff_ne]
    intro e
    have h1 := rated_text hn.1 hn.2
    rw [e, rated_text hm.1 hm.2] at h1
    injection h1 with h1 _
    omega
theorem digits_less (n m : Nat) : (decide ((Lib.decDigits n).length < (Lib.decDigits m).length) || (decide ((Lib.decDigits n).length = (Lib.decDigits m).length) && Op.bytesLess (Lib.decDigits n) (Lib.decDigits m))) = decide (n < m) := by
  obtain ⟨v1, d1⟩ := val_decDigits n
  obtain ⟨v2, d2⟩ := val_decDigits m
  have key : ∀ a b : Nat, (Lib.decDigits a).length < (Lib.decDigits b).length → a < b := fun a b h => by
    obtain ⟨va, da⟩ := val_decDigits a
    obtain ⟨vb, db⟩ := val_decDigits b
    have la := val_lt da
    rw [va] at la
    have hb0 : b ≠ 0 := by
      rintro rfl
      have h1 : (Lib.decDigits 0).length = 1 := by rw [Lib.decDigits_length]; exact Lib.nDigits_small (by decide)
      have h2 := List.length_pos_iff.2 (decDigits_ne a)
      omega
    obtain ⟨x, r, h1, h2⟩ := decDigits_head b hb0
    have hb := val_ge (r := r) (db x (by rw [h1]; simp)) h2
    rw [← h1, vb] at hb
    rw [h1, List.length_cons] at h
    exact Nat.lt_of_lt_of_le la (Nat.le_trans (Nat.pow_le_pow_right (by decide) (by omega)) hb)
  rcases Nat.lt_trichotomy (Lib.decDigits n).length (Lib.decDigits m).length with h | h | h
  · rw [decide_eq_true h, decide_eq_true (key n m h)]; rfl
  · have := less_val d1 d2 h
    rw [v1, v2] at this
    rw [this, decide_eq_false (by omega), decide_eq_true h]
    simp
  · have := key m n h
    rw [decide_eq_false (by omega), decide_eq_false (by omega : ¬ (Lib.decDigits n).length = (Lib.decDigits m).length), decide_eq_false (by omega)]
    rfl
theorem digits_same (n m : Nat) : (Lib.decDigits n == Lib.decDigits m) = decide (n = m) := by
  by_cases h : n = m
  · subst h; simp
  · rw [decide_eq_false h, beq_eq_false_iff_ne]
    intro e
    have h1 := (val_decDigits n).1
    rw [e, (val_decDigits m).1] at h1
    omega
end Go.Proofs.YtmaiggoinjldpaaGreatDoor

/-
  Lines of StatsD as plain data: which line a metric has, and which metric a line is. Nothing of the program.
-/
namespace Go.Proofs.YtmaiggoinjldpaaGreatDoor
open Dc (D D0)

/-! How long a number's text is. -/
namespace Dc
theorem scan_long (l : List UInt8) : ∀ (n : Nat) (below point wanted : Bool) (v p : Nat) (B : Bool) (V P : Nat), scan n below point wanted v p l = .ok B V P →
    ∃ Q a s : Nat, V < (v + 1) * 10 ^ Q ∧ p ≤ P ∧ P ≤ p + Q ∧ Q + a + s ≤ l.length ∧ (point = false → p < P → 1 ≤ a) ∧ (below = false → B = true → 1 ≤ s) ∧
      (point = true → P = p + Q) ∧ (wanted = true → 1 ≤ Q) ∧ (point = false → wanted = true → P + 1 ≤ p + Q) := by
  induction l with
  | nil =>
    intro n below point wanted v p B V P h
    unfold scan at h
    split at h
    · cases h
    · rename_i hw
      injection h with h1 h2 h3
      subst h1 h2 h3
      exact ⟨0, 0, 0, by simp, by omega, by omega, by simp, fun _ h => absurd h (by omega), fun h1 h2 => (by rw [h1] at h2; cases h2), fun _ => by omega, fun h => absurd h hw, fun _ h => absurd h hw⟩
  | cons b r ih =>
    intro n below point wanted v p B V P h
    rw [scan] at h
    split at h
    · rename_i hd
      obtain ⟨Q, a, s, h1, h2, h3, h4, h5, h6, h7, h8, h9⟩ := ih _ _ _ _ _ _ _ _ _ h
      have hv : (10 * v + (b.toNat - 48) + 1) * 10 ^ Q ≤ (v + 1) * 10 ^ (Q + 1) := by
        rw [Nat.pow_succ, Nat.mul_comm (10 ^ Q) 10, ← Nat.mul_assoc]
        exact Nat.mul_le_mul_right _ (by omega)
      refine ⟨Q + 1, a, s, Nat.lt_of_lt_of_le h1 hv, ?_, ?_, by rw [List.length_cons]; omega, ?_, h6, ?_, fun _ => by omega, ?_⟩
      · cases point <;> simp at h2 <;> omega
      · cases point <;> simp at h3 <;> omega
      · intro hp hlt
        subst hp
        exact h5 rfl (by simpa using hlt)
      · intro hp
        subst hp
        have := h7 rfl
        simp at this
        omega
      · intro hp _
        subst hp
        simp at h3
        omega
    · split at h
      · rename_i h0 hdot
        obtain ⟨Q, a, s, h1, h2, h3, h4, h5, h6, h7, h8, h9⟩ := ih _ _ _ _ _ _ _ _ _ h
        have k7 := h7 rfl
        have k8 := h8 rfl
        exact ⟨Q, a + 1, s, h1, h2, h3, by rw [List.length_cons]; omega, fun _ _ => by omega, h6, (fun hp => by rw [hp] at hdot; exact absurd hdot.2.2 (by decide)), fun _ => k8, fun _ hw => (by rw [hw] at hdot; exact absurd hdot.2.1 (by decide))⟩
      · split at h
        · obtain ⟨Q, a, s, h1, h2, h3, h4, h5, h6, h7, h8, h9⟩ := ih _ _ _ _ _ _ _ _ _ h
          exact ⟨Q, a, s + 1, h1, h2, h3, by rw [List.length_cons]; omega, h5, fun _ _ => by omega, h7, h8, h9⟩
        · cases h
theorem decDigits_low {c : Nat} (h : 0 < c) : 10 ^ ((Lib.decDigits c).length - 1) ≤ c := by
  obtain ⟨hv, hd⟩ := val_decDigits c
  rcases digits_head c with h0 | h0
  · obtain ⟨b, r, hb⟩ := List.exists_cons_of_ne_nil (decDigits_ne c)
    rw [hb] at h0 hv hd
    have h1 : b ≠ 48 := fun e => h0 (by rw [e]; rfl)
    have h2 := hd b (List.mem_cons_self ..)
    have h3 : 49 ≤ b.toNat := by
      have : b.toNat ≠ 48 := fun e => h1 (UInt8.toNat_inj.1 (by rw [e]; rfl))
      unfold Dig at h2
      omega
    rw [hb, List.length_cons, Nat.add_sub_cancel]
    rw [val_cons] at hv
    have : 1 * 10 ^ r.length ≤ (b.toNat - 48) * 10 ^ r.length := Nat.mul_le_mul_right _ (by omega)
    omega
  · rw [h0]; show 10 ^ 0 ≤ c; rw [Nat.pow_zero]; omega
theorem dec0 : Lib.decDigits 0 = [48] := by rw [Lib.decDigits]; rfl
theorem pow10_lt {a b : Nat} (h : 10 ^ a < 10 ^ b) : a < b := by
  rcases Nat.lt_or_ge a b with h1 | h1
  · exact h1
  · have := Nat.pow_le_pow_right (show 0 < 10 by omega) h1
    omega
/-- The text of what is parsed is no longer than what was parsed. -/
theorem text_short {l : List UInt8} {d : D} (h : parse l = (d, 0, 0)) : (text d).length ≤ l.length := by
  unfold parse at h
  cases hs : scan 0 false false true 0 0 l with
  | bad c k =>
    rw [hs] at h
    obtain ⟨h1, _⟩ := scan_bad l _ _ _ _ _ _ _ _ hs
    injection h with _ h
    injection h with h _
    omega
  | ok B V P =>
    rw [hs, told_is] at h
    obtain ⟨Q, a, s, h1, h2, h3, h4, h5, h6, h7, h8, h9⟩ := scan_long l _ _ _ _ _ _ _ _ _ hs
    have h5 := h5 rfl
    have h6 := h6 rfl
    have h8 := h8 rfl
    have h9 := h9 rfl rfl
    rw [Nat.zero_add, Nat.one_mul] at h1
    cases hn : norm V (-(P : Int)) with
    | none =>
      rw [hn] at h
      injection h with _ h
      injection h with h _
      omega
    | some q =>
      rw [hn] at h
      obtain ⟨c, e⟩ := q
      injection h with hd _
      rcases Nat.eq_zero_or_pos V with hV | hV
      · subst hV
        have : norm 0 (-(P : Int)) = some (0, 0) := by simp [norm]
        rw [this] at hn
        injection hn with hn
        injection hn with e1 e2
        subst e1 e2
        subst hd
        have : text (mkD B (0, 0)) = [48] := by
          unfold mkD text sized
          simp [dec0]
        rw [this, List.length_singleton]
        omega
      · obtain ⟨n1, n2⟩ := norm_same hn (by omega) (by omega)
        have hc : 0 < c := by
          rcases Nat.eq_zero_or_pos c with h0 | h0
          · rw [h0, Nat.zero_mul] at n2; omega
          · exact h0
        obtain ⟨t, ht⟩ : ∃ t : Nat, (e - -(P : Int)).toNat = t := ⟨_, rfl⟩
        rw [ht] at n2
        have hm : (Lib.decDigits c).length + t ≤ Q := by
          have := decDigits_low hc
          have h9 : 10 ^ ((Lib.decDigits c).length - 1) * 10 ^ t ≤ V := by rw [n2]; exact Nat.mul_le_mul_right _ this
          rw [← Nat.pow_add] at h9
          have h10 := pow10_lt (Nat.lt_of_le_of_lt h9 h1)
          have h11 : (Lib.decDigits c).length ≠ 0 := fun h0 => decDigits_ne c (List.eq_nil_of_length_eq_zero h0)
          omega
        have hneg : (sgn d.neg).length ≤ s := by
          subst hd
          show (sgn (if c = 0 then false else B)).length ≤ _
          rw [if_neg (by omega)]
          cases B
          · exact Nat.zero_le _
          · exact h6 rfl
        have hsz : (sized c e).length ≤ Q + a := by
          unfold sized
          split
          · have := pointed_length (Lib.decDigits c) (-e).toNat
            have := h5 (by omega)
            omega
          · rw [List.length_append, List.length_replicate]
            omega
        have hde : d.c = c ∧ d.e = e := by subst hd; exact ⟨rfl, rfl⟩
        rw [text_sgn, List.length_append, hde.1, hde.2]
        omega
end Dc
end Go.Proofs.YtmaiggoinjldpaaGreatDoor

/-
  Lines of StatsD as plain data: which line a metric has, and which metric a line is. Nothing of the program.
-/
namespace Go.Proofs.YtmaiggoinjldpaaGreatDoor
open Dc (D D0)

/-! A text cut at a byte. -/
def cutB (c : UInt8) : List UInt8 → List UInt8 × Bool × List UInt8
  | [] => ([], false, [])
  | b :: r => if b = c then ([], true, r) else (b :: (cutB c r).1, (cutB c r).2.1, (cutB c r).2.2)
theorem cutB_hit {c : UInt8} : ∀ {p : List UInt8} (r : List UInt8), c ∉ p → cutB c (p ++ c :: r) = (p, true, r)
  | [], r, _ => by show (if c = c then _ else _) = _; rw [if_pos rfl]
  | b :: p, r, h => by
    have h1 : b ≠ c := fun e => h (by rw [e]; exact List.mem_cons_self ..)
    have h2 : c ∉ p := fun e => h (List.mem_cons_of_mem _ e)
    show (if b = c then _ else _) = _
    rw [if_neg h1, List.append_eq, cutB_hit r h2]
theorem cutB_miss {c : UInt8} : ∀ {p : List UInt8}, c ∉ p → cutB c p = (p, false, [])
  | [], _ => rfl
  | b :: p, h => by
    have h1 : b ≠ c := fun e => h (by rw [e]; exact List.mem_cons_self ..)
    have h2 : c ∉ p := fun e => h (List.mem_cons_of_mem _ e)
    show (if b = c then _ else _) = _
    rw [if_neg h1, cutB_miss h2]
theorem cutB_cases (c : UInt8) : ∀ l : List UInt8, (c ∉ l ∧ cutB c l = (l, false, [])) ∨ ∃ p r, c ∉ p ∧ l = p ++ c :: r ∧ cutB c l = (p, true, r)
  | [] => .inl ⟨by simp, rfl⟩
  | b :: l => by
    by_cases hb : b = c
    · subst hb
      exact .inr ⟨[], l, by simp, rfl, by show (if b = b then _ else _) = _; rw [if_pos rfl]⟩
    · rcases cutB_cases c l with ⟨h1, h2⟩ | ⟨p, r, h1, h2, h3⟩
      · refine .inl ⟨fun h => ?_, ?_⟩
        · rcases List.mem_cons.1 h with h | h
          · exact hb h.symm
          · exact h1 h
        · show (if b = c then _ else _) = _
          rw [if_neg hb, h2]
      · refine .inr ⟨b :: p, r, fun h => ?_, by rw [h2]; rfl, ?_⟩
        · rcases List.mem_cons.1 h with h | h
          · exact hb h.symm
          · exact h1 h
        · show (if b = c then _ else _) = _
          rw [if_neg hb, h3]

/-! Words of kinds. -/
def wordOf (k : Int) : List UInt8 := if k = 1 then [99] else if k = 2 then [103] else if k = 3 then [109, 115] else if k = 4 then [104] else []
def kindOf (w : List UInt8) : Int := if w = [99] then 1 else if w = [103] then 2 else if w = [109, 115] then 3 else if w = [104] then 4 else 0
theorem kindOf_word {k : Int} (h : 1 ≤ k ∧ k ≤ 4) : kindOf (wordOf k) = k := by
  rcases (by omega : k = 1 ∨ k = 2 ∨ k = 3 ∨ k = 4) with rfl | rfl | rfl | rfl <;> decide
theorem wordOf_kind {w : List UInt8} (h : kindOf w ≠ 0) : wordOf (kindOf w) = w ∧ 1 ≤ kindOf w ∧ kindOf w ≤ 4 := by
  unfold kindOf at *
  split
  · rename_i e; rw [e]; decide
  · split
    · rename_i e; rw [e]; decide
    · split
      · rename_i e; rw [e]; decide
      · split
        · rename_i e; rw [e]; decide
        · rename_i h1 h2 h3 h4
          rw [if_neg h1, if_neg h2, if_neg h3, if_neg h4] at h
          exact absurd rfl h
theorem wordOf_none {k : Int} (h : ¬ (1 ≤ k ∧ k ≤ 4)) : wordOf k = [] := by
  unfold wordOf
  rw [if_neg (by omega), if_neg (by omega), if_neg (by omega), if_neg (by omega)]
theorem wordOf_bar (k : Int) : (124 : UInt8) ∉ wordOf k := by
  unfold wordOf
  split
  · decide
  · split
    · decide
    · split
      · decide
      · split <;> decide
theorem wordOf_len {k : Int} (h : 1 ≤ k ∧ k ≤ 4) : 1 ≤ (wordOf k).length ∧ (wordOf k).length ≤ 2 := by
  rcases (by omega : k = 1 ∨ k = 2 ∨ k = 3 ∨ k = 4) with rfl | rfl | rfl | rfl <;> decide

/-! A metric of a line. -/
def oneS (name : List UInt8) (k : Int) (d : D) (r : Int) : Mt := ⟨name, k, [d], r, [], 0⟩
def failS (c : Int) (at_ : Nat) : Mt × Int × Int := (M0, c, (at_ : Int))
/-- What stands behind the second bar, which is ahead of place c. -/
def restS (c : Nat) (name : List UInt8) (k : Int) (d : D) : List UInt8 → Mt × Int × Int
  | [] => failS 11 c
  | b :: r =>
    if b ≠ 64 then failS 11 c
    else if (rated (cutB 124 r).1).2.1 ≠ 0 ∨ (k = 2 ∧ (rated (cutB 124 r).1).1 ≠ 1000000) then failS 18 (c + 1)
    else if (cutB 124 r).2.1 = true then failS 11 (c + 1 + (cutB 124 r).1.length)
    else (oneS name k d (rated (cutB 124 r).1).1, 0, 0)
/-- .. behind the value's bar, which is ahead of place b; a: where the value begins. -/
def wordS (a b : Nat) (name v : List UInt8) (d : D) (l : List UInt8) : Mt × Int × Int :=
  if kindOf (cutB 124 l).1 = 0 then failS 16 b
  else if kindOf (cutB 124 l).1 = 2 ∧ v.head? = some 45 then failS 26 a
  else if (cutB 124 l).2.1 = false then (oneS name (kindOf (cutB 124 l).1) d 1000000, 0, 0)
  else restS (b + (cutB 124 l).1.length + 1) name (kindOf (cutB 124 l).1) d (cutB 124 l).2.2
/-- .. behind the name's colon, which is ahead of place a; n: where the text ends. -/
def valueS (a n : Nat) (name l : List UInt8) : Mt × Int × Int :=
  if (Dc.parse (cutB 124 l).1).2.1 ≠ 0 then failS 17 a
  else if (cutB 124 l).2.1 = false then failS 11 n
  else wordS a (a + (cutB 124 l).1.length + 1) name (cutB 124 l).1 (Dc.parse (cutB 124 l).1).1 (cutB 124 l).2.2
def parseS (l : List UInt8) : Mt × Int × Int :=
  if nameR (cutB 58 l).1 = false then failS 15 0
  else if (cutB 58 l).2.1 = false then failS 11 l.length
  else valueS ((cutB 58 l).1.length + 1) l.length (cutB 58 l).1 (cutB 58 l).2.2

/-- A metric's line. -/
def rateS (r : Int) : List UInt8 := if r = 1000000 then [] else 124 :: 64 :: rateText r.toNat
def lineS (m : Mt) : List UInt8 := m.name ++ 58 :: (Dc.text (m.vals.headD D0) ++ 124 :: (wordOf m.kind ++ rateS m.rate))

/-! Bytes. -/
theorem name_bytes {l : List UInt8} (h : nameR l = true) : 1 ≤ l.length ∧ l.length ≤ 200 ∧ (58 : UInt8) ∉ l ∧ (124 : UInt8) ∉ l := by
  have h := of_decide_eq_true h
  unfold faultOf at h
  rw [if_neg (by decide)] at h
  split at h
  · injection h with h; omega
  · split at h
    · injection h with h; omega
    · split at h
      · injection h with h; omega
      · rename_i h1 h2 h3
        rcases bad_cases 1 l with ⟨k, hk, hb, _⟩ | ⟨hb, hall⟩
        · omega
        · refine ⟨by omega, by omega, fun hm => ?_, fun hm => ?_⟩
          · obtain ⟨i, hi, e⟩ := List.mem_iff_getElem.1 hm
            have := hall i hi
            rw [e] at this
            exact absurd this (by decide)
          · obtain ⟨i, hi, e⟩ := List.mem_iff_getElem.1 hm
            have := hall i hi
            rw [e] at this
            exact absurd this (by decide)
theorem digs_bar {l : List UInt8} (h : Digs l) : (124 : UInt8) ∉ l := fun hm => by have := h _ hm; unfold Dig at this; revert this; decide
theorem sized_bar (c : Nat) (e : Int) : (124 : UInt8) ∉ Dc.sized c e := by
  rcases (by omega : 0 ≤ e ∨ e < 0) with h | h
  · exact digs_bar ((Dc.sized_split c e).1 h).1
  · obtain ⟨a, b, e1, ha, _, hb, _⟩ := (Dc.sized_split c e).2 h
    rw [e1]
    intro hm
    rcases List.mem_append.1 hm with hm | hm
    · rcases List.mem_append.1 hm with hm | hm
      · exact digs_bar ha hm
      · rcases List.mem_singleton.1 hm with h; revert h; decide
    · exact digs_bar hb hm
theorem text_bar (d : D) : (124 : UInt8) ∉ Dc.text d := by
  rw [Dc.text_sgn]
  intro hm
  rcases List.mem_append.1 hm with hm | hm
  · unfold Dc.sgn at hm
    split at hm
    · rcases List.mem_singleton.1 hm with h; revert h; decide
    · cases hm
  · exact sized_bar _ _ hm
theorem text_head {d : D} (h : d.neg = false) : (Dc.text d).head? ≠ some 45 := by
  rw [Dc.text_sgn, h]
  show (Dc.sized d.c d.e).head? ≠ some 45
  have key : ∀ {l : List UInt8} (r : List UInt8), Digs l → l ≠ [] → (l ++ r).head? ≠ some 45 := by
    intro l r hd hne
    obtain ⟨b, t, e, hb⟩ := Dc.digs_first hd hne
    rw [e]
    intro hh
    injection hh with hh
    subst hh
    unfold Dig at hb
    revert hb; decide
  rcases (by omega : 0 ≤ d.e ∨ d.e < 0) with h | h
  · have := key [] ((Dc.sized_split d.c d.e).1 h).1 ((Dc.sized_split d.c d.e).1 h).2.1
    rwa [List.append_nil] at this
  · obtain ⟨a, b, e1, ha, hna, _⟩ := (Dc.sized_split d.c d.e).2 h
    rw [e1, List.append_assoc]
    exact key _ ha hna
theorem rateText_bar {n : Nat} (h0 : n ≠ 0) (h : n ≤ 1000000) : (124 : UInt8) ∉ rateText n := by
  rcases Nat.lt_or_ge n 1000000 with hl | hl
  · obtain ⟨t, x, e, _, hd, _⟩ := rate_digits h0 hl
    rw [rateText_is hl, e]
    intro hm
    rcases List.mem_cons.1 hm with hm | hm
    · revert hm; decide
    · rcases List.mem_cons.1 hm with hm | hm
      · revert hm; decide
      · exact digs_bar hd hm
  · obtain rfl : n = 1000000 := by omega
    decide
end Go.Proofs.YtmaiggoinjldpaaGreatDoor

/-
  Lines of StatsD: what Parse tells, how it is stored, and what is told of a fault; may a text be a name? No statement of the seat is proved here.
-/
namespace Go.Proofs.YtmaiggoinjldpaaGreatDoor
open Go.RowKit
open Dc (D D0)

/-- What Parse tells. -/
def TellsM (w : World) (x : Mt × Int × Int) (e : Ending) (w' : World) : Prop :=
  ∃ s A n ca B k cb, e = .returned (.tuple #[.agg #[.string s, .int .i64 x.1.kind, .slice A n ca, .int .i64 x.1.rate, .slice B k cb, .int .i64 x.1.time], .agg #[.int .i64 x.2.1, .int .i64 x.2.2]]) ∧ MIs w' s A n B k x.1 ∧ Below w.heap.size w w'
theorem Decs.set_fault {w : World} {g : Nat} {t : TypeId} {x y : Int} {A : Option Addr} {ds : List D} (h : Decs w A ds) (hb : Box w g t [.int .i64 x, .int .i64 y]) (i : Nat) (u : Value) : Decs (w.setCell ⟨g, i, none⟩ u) A ds := by
  intro j v hv
  obtain ⟨b, off, e, hc⟩ := h j v hv
  have hne : b ≠ g := by
    rintro rfl
    have hj : j / 3 < ds.length := by
      have := (List.getElem?_eq_some_iff.1 hv).1
      rw [flatD_length] at this
      omega
    obtain ⟨b', off', n, x', y', e', k0, _, _, _⟩ := h.get hj
    rw [e] at e'
    injection e' with e'
    injection e' with e1 e2
    subst e1 e2
    rw [hb.cell] at k0
    generalize off + j / 3 * 3 = z at k0
    match z, k0 with
    | 0, k0 => simp at k0
    | 1, k0 => simp at k0
    | z + 2, k0 => simp at k0
  exact ⟨b, off, e, (cell_far (q := ⟨g, i, none⟩) (a := ⟨b, off + j, none⟩) hne u).trans hc⟩
theorem Tags.set_fault {w : World} {g : Nat} {t : TypeId} {x y : Int} {B : Option Addr} {ts : List Tg} (h : Tags w B ts) (hb : Box w g t [.int .i64 x, .int .i64 y]) (i : Nat) (u : Value) : Tags (w.setCell ⟨g, i, none⟩ u) B ts := by
  intro j v hv
  obtain ⟨b, off, e, hc⟩ := h j v hv
  have hne : b ≠ g := by
    rintro rfl
    have hj : j / 2 < ts.length := by
      have := (List.getElem?_eq_some_iff.1 hv).1
      rw [flat_length] at this
      omega
    obtain ⟨b', off', e', k0, k1⟩ := h.at_ hj
    rw [e] at e'
    injection e' with e'
    injection e' with e1 e2
    subst e1 e2
    rw [hb.cell] at k0
    generalize off + j / 2 * 2 = z at k0
    match z, k0 with
    | 0, k0 => simp at k0
    | 1, k0 => simp at k0
    | z + 2, k0 => simp at k0
  exact ⟨b, off, e, (cell_far (q := ⟨g, i, none⟩) (a := ⟨b, off + j, none⟩) hne u).trans hc⟩
/-- A metric and a Fault, as they are stored. -/
def putMF (w : World) (g g' : Nat) (s : ByteArray) (kd : Int) (A0 : Option Addr) (n0 ca0 : Nat) (rt : Int) (B0 : Option Addr) (k0 cb0 : Nat) (tm c a : Int) : World :=
  ((putM w g s kd A0 n0 ca0 rt B0 k0 cb0 tm).setCell ⟨g', 0, none⟩ (.int .i64 c)).setCell ⟨g', 1, none⟩ (.int .i64 a)
structure PutMF (w W' : World) (g g' : Nat) (s : ByteArray) (A : Option Addr) (n ca : Nat) (B : Option Addr) (k cb : Nat) (m : Mt) (c a : Int) : Prop where
  one : Box W' g 25 [.string s, .int .i64 m.kind, .slice A n ca, .int .i64 m.rate, .slice B k cb, .int .i64 m.time]
  two : Box W' g' 36 [.int .i64 c, .int .i64 a]
  met : MIs W' s A n B k m
  kept : Below w.heap.size w W'
theorem putMF_tells {w W : World} {g g' : Nat} {s0 : ByteArray} {kd rt tm x y : Int} {A0 B0 : Option Addr} {n0 ca0 k0 cb0 : Nat} (hb : Below w.heap.size w W) (hg : w.heap.size ≤ g) (hg' : w.heap.size ≤ g') (hne : g ≠ g')
    (b1 : Box W g 25 [.string s0, .int .i64 kd, .slice A0 n0 ca0, .int .i64 rt, .slice B0 k0 cb0, .int .i64 tm]) (b2 : Box W g' 36 [.int .i64 x, .int .i64 y]) {s : ByteArray} {A B : Option Addr} {n k : Nat} {m : Mt} (hm : MIs W s A n B k m) (ca cb : Nat) (c a : Int) :
    PutMF w (putMF W g g' s m.kind A n ca m.rate B k cb m.time c a) g g' s A n ca B k cb m c a := by
  have h1 := putMF_is (s' := s) (kd' := m.kind) (rt' := m.rate) (tm' := m.time) (A1 := A) (B1 := B) (n1 := n) (ca1 := ca) (k1 := k) (cb1 := cb) hne b1 b2 (.int .i64 c) (.int .i64 a)
  have m1 := putM_mis (s' := s) (kd' := m.kind) (rt' := m.rate) (tm' := m.time) (A1 := A) (B1 := B) (n1 := n) (ca1 := ca) (k1 := k) (cb1 := cb) hm b1
  have f2 : Box (putM W g s m.kind A n ca m.rate B k cb m.time) g' 36 [.int .i64 x, .int .i64 y] := by
    unfold putM
    exact (((((b2.far (q := ⟨g, 0, none⟩) hne.symm _).far (q := ⟨g, 1, none⟩) hne.symm _).far (q := ⟨g, 2, none⟩) hne.symm _).far (q := ⟨g, 3, none⟩) hne.symm _).far (q := ⟨g, 4, none⟩) hne.symm _).far (q := ⟨g, 5, none⟩) hne.symm _
  have m2 : MIs ((putM W g s m.kind A n ca m.rate B k cb m.time).setCell ⟨g', 0, none⟩ (.int .i64 c)) s A n B k m := ⟨m1.name, m1.vlen, m1.vals.set_fault f2 0 _, m1.tlen, m1.tags.set_fault f2 0 _⟩
  have f3 : Box ((putM W g s m.kind A n ca m.rate B k cb m.time).setCell ⟨g', 0, none⟩ (.int .i64 c)) g' 36 [.int .i64 c, .int .i64 y] := f2.set 0 _
  exact ⟨h1.1, h1.2, ⟨m2.name, m2.vlen, m2.vals.set_fault f3 1 _, m2.tlen, m2.tags.set_fault f3 1 _⟩, below_set (below_set (putM_below hb hg) hg' 0 _) hg' 1 _⟩

end Go.Proofs.YtmaiggoinjldpaaGreatDoor

/-
  Lines of StatsD as plain data: what is written is parsed, and what is parsed is written. Nothing of the program.
-/
namespace Go.Proofs.YtmaiggoinjldpaaGreatDoor
open Dc (D D0)

section
variable {name v w t q : List UInt8} {d : D} {k r : Int} {a b c n : Nat}
theorem parseS_to (hn : nameR name = true) (hv : Dc.parse v = (d, 0, 0)) (hb : (124 : UInt8) ∉ v) (w : List UInt8) : parseS (name ++ 58 :: (v ++ 124 :: w)) = wordS (name.length + 1) (name.length + 1 + v.length + 1) name v d w := by
  unfold parseS
  rw [cutB_hit _ (name_bytes hn).2.2.1]
  simp only [hn, Bool.true_eq_false, if_false]
  unfold valueS
  rw [cutB_hit _ hb]
  simp only [hv, Bool.true_eq_false, if_false]
  rfl
theorem wordS_end (hk : 1 ≤ k ∧ k ≤ 4) (hh : ¬ (k = 2 ∧ v.head? = some 45)) : wordS a b name v d (wordOf k) = (oneS name k d 1000000, 0, 0) := by
  unfold wordS
  rw [cutB_miss (wordOf_bar k)]
  simp only [kindOf_word hk, if_true]
  rw [if_neg (by omega), if_neg hh]
theorem wordS_more (hk : 1 ≤ k ∧ k ≤ 4) (hh : ¬ (k = 2 ∧ v.head? = some 45)) (t : List UInt8) : wordS a b name v d (wordOf k ++ 124 :: t) = restS (b + (wordOf k).length + 1) name k d t := by
  unfold wordS
  rw [cutB_hit _ (wordOf_bar k)]
  simp only [kindOf_word hk, Bool.true_eq_false, if_false]
  rw [if_neg (by omega), if_neg hh]
theorem restS_cons (x : UInt8) (r : List UInt8) : restS c name k d (x :: r) = if x ≠ 64 then failS 11 c
    else if (rated (cutB 124 r).1).2.1 ≠ 0 ∨ (k = 2 ∧ (rated (cutB 124 r).1).1 ≠ 1000000) then failS 18 (c + 1)
    else if (cutB 124 r).2.1 = true then failS 11 (c + 1 + (cutB 124 r).1.length)
    else (oneS name k d (rated (cutB 124 r).1).1, 0, 0) := rfl
theorem restS_rate (hb : (124 : UInt8) ∉ q) (hq : rated q = (r, 0, 0)) (hk : k = 2 → r = 1000000) : restS c name k d (64 :: q) = (oneS name k d r, 0, 0) := by
  rw [restS_cons, cutB_miss hb]
  simp only [hq]
  rw [if_neg (by simp), if_neg (by rintro (h | ⟨h1, h2⟩); exact h rfl; exact h2 (hk h1)), if_neg (by decide)]
theorem restS_bar (hb : (124 : UInt8) ∉ q) (hq : rated q = (r, 0, 0)) (hk : k = 2 → r = 1000000) (t : List UInt8) : restS c name k d (64 :: (q ++ 124 :: t)) = failS 11 (c + 1 + q.length) := by
  rw [restS_cons, cutB_hit _ hb]
  simp only [hq]
  rw [if_neg (by simp), if_neg (by rintro (h | ⟨h1, h2⟩); exact h rfl; exact h2 (hk h1))]
  rfl
theorem restS_none (h : t.head? ≠ some 64) : restS c name k d t = failS 11 c := by
  cases t with
  | nil => rfl
  | cons x t =>
    rw [restS_cons, if_pos fun e => h (by rw [e]; rfl)]
end

/-- A metric that StatsD can say. -/
structure Said (name : List UInt8) (k : Int) (d : D) (r : Int) : Prop where
  name : nameR name = true
  kind : 1 ≤ k ∧ k ≤ 4
  val : d.One
  sign : k = 2 → d.neg = false
  rate : 1 ≤ r ∧ r ≤ 1000000
  gauge : k = 2 → r = 1000000
theorem said_of {m : Mt} (hc : checkM m = 0) (hs : saysM m 1 = true) : ∃ name k d r, m = oneS name k d r ∧ Said name k d r := by
  obtain ⟨h1, h2, h3, h4, h5, h6⟩ := restM_zero.1 hc
  have hv := checkM_ok hc
  unfold saysM at hs
  rw [if_pos rfl] at hs
  unfold says1 bareN at hs
  simp only [Bool.and_eq_true, decide_eq_true_eq, Bool.not_eq_true', Bool.and_eq_false_iff, decide_eq_false_iff_not] at hs
  obtain ⟨⟨⟨⟨s1, s2⟩, s3⟩, s4⟩, s5⟩ := hs
  obtain ⟨nm, kd, vs, rt, ts, tm⟩ := m
  obtain ⟨d, rfl⟩ := List.length_eq_one_iff.1 s1
  obtain rfl := List.eq_nil_of_length_eq_zero s2
  obtain rfl : tm = 0 := s3
  have h2 : 1 ≤ kd ∧ kd ≤ 5 := of_decide_eq_true h2
  have h4 : 1 ≤ rt ∧ rt ≤ 1000000 ∧ (kd = 2 → rt = 1000000) := of_decide_eq_true h4
  unfold okV at hv
  rw [List.all_eq_true] at hv
  have hd := of_decide_eq_true (hv d (List.mem_singleton.2 rfl))
  have s4 : kd ≠ 5 := s4
  refine ⟨nm, kd, d, rt, rfl, h1, by omega, Dc.check_ok.1 hd, fun hk => ?_, ⟨h4.1, h4.2.1⟩, h4.2.2⟩
  rcases s5 with s5 | s5
  · exact absurd hk s5
  · exact s5
theorem Said.check {name : List UInt8} {k : Int} {d : D} {r : Int} (h : Said name k d r) : checkM (oneS name k d r) = 0 ∧ saysM (oneS name k d r) 1 = true ∧ isM (oneS name k d r) = true := by
  have hc : checkM (oneS name k d r) = 0 := by
    refine restM_zero.2 ⟨h.name, decide_eq_true ⟨h.kind.1, ?_⟩, ?_, decide_eq_true ⟨h.rate.1, h.rate.2, h.gauge⟩, rfl, rfl⟩
    · have := h.kind.2
      show k ≤ 5; omega
    · show valsR (okV [d]) 1 = true
      unfold okV
      simp only [List.all_cons, List.all_nil, Bool.and_true, Dc.check_ok.2 h.val]
      decide
  refine ⟨hc, ?_, ?_⟩
  · unfold saysM
    rw [if_pos rfl]
    show says1 1 0 k 0 d.neg = true
    unfold says1 bareN
    have := h.kind
    simp only [decide_true, Bool.true_and, Bool.and_eq_true, decide_eq_true_eq, Bool.not_eq_true', Bool.and_eq_false_iff, decide_eq_false_iff_not]
    refine ⟨by omega, ?_⟩
    by_cases hk : k = 2
    · exact .inr (h.sign hk)
    · exact .inl hk
  · unfold isM
    rw [decide_eq_true hc]
    rfl
theorem lineS_one (name : List UInt8) (k : Int) (d : D) (r : Int) : lineS (oneS name k d r) = name ++ 58 :: (Dc.text d ++ 124 :: (wordOf k ++ rateS r)) := rfl
section
variable {name : List UInt8} {k : Int} {d : D} {r : Int}
theorem Said.head (h : Said name k d r) : ¬ (k = 2 ∧ (Dc.text d).head? = some 45) := fun ⟨h1, h2⟩ => text_head (h.sign h1) h2
theorem Said.rated (h : Said name k d r) : rated (rateText r.toNat) = (r, 0, 0) ∧ (124 : UInt8) ∉ rateText r.toNat := by
  have := h.rate
  have e := rated_text (n := r.toNat) (by omega) (by omega)
  rw [Int.toNat_of_nonneg (by omega)] at e
  exact ⟨e, rateText_bar (by omega) (by omega)⟩
/-- What is written is parsed as the metric. -/
theorem Said.back (h : Said name k d r) : parseS (lineS (oneS name k d r)) = (oneS name k d r, 0, 0) := by
  rw [lineS_one, parseS_to h.name (Dc.parse_text h.val) (text_bar d)]
  unfold rateS
  split
  · rename_i hr
    subst hr
    rw [List.append_nil]
    exact wordS_end h.kind h.head
  · rw [wordS_more h.kind h.head]
    exact restS_rate h.rated.2 h.rated.1 h.gauge
/-- Whatever stands behind a whole line is refused where it begins. -/
theorem Said.behind (h : Said name k d r) (s : List UInt8) : (r ≠ 1000000 → parseS (lineS (oneS name k d r) ++ 124 :: s) = failS 11 (lineS (oneS name k d r)).length) ∧
    (r = 1000000 → s.head? ≠ some 64 → parseS (lineS (oneS name k d r) ++ 124 :: s) = failS 11 ((lineS (oneS name k d r)).length + 1)) := by
  constructor
  · intro hr
    have e : lineS (oneS name k d r) ++ 124 :: s = name ++ 58 :: (Dc.text d ++ 124 :: (wordOf k ++ 124 :: (64 :: (rateText r.toNat ++ 124 :: s)))) := by
      rw [lineS_one]
      unfold rateS
      rw [if_neg hr]
      simp
    have el : (lineS (oneS name k d r)).length = name.length + 1 + (Dc.text d).length + 1 + (wordOf k).length + 1 + 1 + (rateText r.toNat).length := by
      rw [lineS_one]
      unfold rateS
      rw [if_neg hr]
      simp
      omega
    rw [e, parseS_to h.name (Dc.parse_text h.val) (text_bar d), wordS_more h.kind h.head, restS_bar h.rated.2 h.rated.1 h.gauge, el]
  · intro hr hs
    have e : lineS (oneS name k d r) ++ 124 :: s = name ++ 58 :: (Dc.text d ++ 124 :: (wordOf k ++ 124 :: s)) := by
      rw [lineS_one]
      unfold rateS
      rw [if_pos hr]
      simp
    have el : (lineS (oneS name k d r)).length + 1 = name.length + 1 + (Dc.text d).length + 1 + (wordOf k).length + 1 := by
      rw [lineS_one]
      unfold rateS
      rw [if_pos hr]
      simp
      omega
    rw [e, parseS_to h.name (Dc.parse_text h.val) (text_bar d), wordS_more h.kind h.head, restS_none hs, el]
/-- Zeros around the value, and behind the rate, and a rate of 1, turn nothing. -/
theorem Said.forms (h : Said name k d r) (i j z : Nat) (q : List UInt8)
    (hq : (r = 1000000 ∧ (q = [] ∨ q = [124, 64, 49])) ∨ (r ≠ 1000000 ∧ q = 124 :: 64 :: (if (rateText r.toNat ++ List.replicate z 48).length ≤ 8 then rateText r.toNat ++ List.replicate z 48 else rateText r.toNat))) :
    parseS (name ++ 58 :: ((Dc.sgn d.neg ++ (List.replicate i 48 ++ Dc.sized d.c d.e ++ (if 0 ≤ d.e ∧ 0 < j then [46] else []) ++ List.replicate j 48)) ++ 124 :: (wordOf k ++ q))) = (oneS name k d r, 0, 0) := by
  have hrep : ∀ n : Nat, (124 : UInt8) ∉ List.replicate n 48 := fun n hm => by have := (List.mem_replicate.1 hm).2; revert this; decide
  have hbar : (124 : UInt8) ∉ Dc.sgn d.neg ++ (List.replicate i 48 ++ Dc.sized d.c d.e ++ (if 0 ≤ d.e ∧ 0 < j then [46] else []) ++ List.replicate j 48) := by
    intro hm
    rcases List.mem_append.1 hm with hm | hm
    · unfold Dc.sgn at hm
      split at hm
      · rcases List.mem_singleton.1 hm with h; revert h; decide
      · cases hm
    · rcases List.mem_append.1 hm with hm | hm
      · rcases List.mem_append.1 hm with hm | hm
        · rcases List.mem_append.1 hm with hm | hm
          · exact hrep _ hm
          · exact sized_bar _ _ hm
        · split at hm
          · rcases List.mem_singleton.1 hm with h; revert h; decide
          · cases hm
      · exact hrep _ hm
  have hhead : ¬ (k = 2 ∧ (Dc.sgn d.neg ++ (List.replicate i 48 ++ Dc.sized d.c d.e ++ (if 0 ≤ d.e ∧ 0 < j then [46] else []) ++ List.replicate j 48)).head? = some 45) := by
    rintro ⟨hk, hh⟩
    rw [h.sign hk] at hh
    cases i with
    | zero =>
      have h1 := text_head (h.sign hk)
      rw [Dc.text_sgn, h.sign hk] at h1
      have hne : Dc.sized d.c d.e ≠ [] := by
        rcases (by omega : 0 ≤ d.e ∨ d.e < 0) with h | h
        · exact ((Dc.sized_split d.c d.e).1 h).2.1
        · obtain ⟨a, b, e1, _, hna, _⟩ := (Dc.sized_split d.c d.e).2 h
          rw [e1]; simp
      obtain ⟨x, t, e⟩ := List.exists_cons_of_ne_nil hne
      rw [e] at hh h1
      exact h1 hh
    | succ i =>
      rw [List.replicate_succ] at hh
      injection hh with hh
      revert hh; decide
  rw [parseS_to h.name (Dc.parse_zeros h.val i j) hbar]
  rcases hq with ⟨hr, hq | hq⟩ | ⟨hr, hq⟩
  · subst hr hq
    rw [List.append_nil]
    exact wordS_end h.kind hhead
  · subst hr hq
    rw [wordS_more h.kind hhead]
    exact restS_rate (q := [49]) (by decide) (by decide +kernel) (fun _ => rfl)
  · subst hq
    rw [wordS_more h.kind hhead]
    have hz := rated_zeros (n := r.toNat) (by have := h.rate; omega) (by have := h.rate; omega) z
    rw [Int.toNat_of_nonneg (by have := h.rate; omega)] at hz
    by_cases hl : (rateText r.toNat ++ List.replicate z 48).length ≤ 8
    · rw [if_pos hl] at hz
      rw [if_pos hl]
      refine restS_rate (fun hm => ?_) hz h.gauge
      rcases List.mem_append.1 hm with hm | hm
      · exact h.rated.2 hm
      · exact hrep _ hm
    · rw [if_neg hl]
      exact restS_rate h.rated.2 h.rated.1 h.gauge

/-! What is parsed. -/
theorem failS_fields (c : Int) (a : Nat) : (failS c a).1 = M0 ∧ (failS c a).2.1 = c ∧ (failS c a).2.2 = (a : Int) := ⟨rfl, rfl, rfl⟩
/-- What Parse tells: a metric that StatsD can say, whose line is no longer; or a fault in the text. -/
def Told (l : List UInt8) (x : Mt × Int × Int) : Prop :=
  (∃ c : Int, ∃ a : Nat, x = failS c a ∧ c ≠ 0 ∧ a ≤ l.length) ∨ ∃ name k d r, x = (oneS name k d r, 0, 0) ∧ Said name k d r ∧ (lineS (oneS name k d r)).length ≤ l.length
theorem scan_below (l : List UInt8) : ∀ (n : Nat) (below point wanted : Bool) (v p : Nat) (B : Bool) (V P : Nat), n ≠ 0 → Dc.scan n below point wanted v p l = .ok B V P → B = below := by
  induction l with
  | nil =>
    intro n below point wanted v p B V P _ h
    unfold Dc.scan at h
    split at h
    · cases h
    · injection h with h; exact h.symm
  | cons b r ih =>
    intro n below point wanted v p B V P hn h
    rw [Dc.scan] at h
    split at h
    · exact ih _ _ _ _ _ _ _ _ _ (by omega) h
    · split at h
      · exact ih _ _ _ _ _ _ _ _ _ (by omega) h
      · split at h
        · rename_i hm; exact absurd hm.2 hn
        · cases h
theorem parse_sign {v : List UInt8} {d : D} (h : Dc.parse v = (d, 0, 0)) (hh : v.head? ≠ some 45) : d.neg = false := by
  unfold Dc.parse at h
  cases hs : Dc.scan 0 false false true 0 0 v with
  | bad c k =>
    rw [hs] at h
    obtain ⟨h1, _⟩ := Dc.scan_bad v _ _ _ _ _ _ _ _ hs
    injection h with _ h
    injection h with h _
    omega
  | ok B V P =>
    have hB : B = false := by
      cases v with
      | nil => cases hs
      | cons b r =>
        rw [Dc.scan] at hs
        split at hs
        · exact scan_below _ _ _ _ _ _ _ _ _ _ (by omega) hs
        · split at hs
          · rename_i h1; exact absurd h1.2.1 (by decide)
          · split at hs
            · rename_i h1
              exact absurd (show (b :: r).head? = some 45 from congrArg some (UInt8.toNat_inj.1 h1.1)) hh
            · cases hs
    rw [hs, Dc.told_is] at h
    subst hB
    cases hn : Dc.norm V (-(P : Int)) with
    | none =>
      rw [hn] at h
      injection h with _ h
      injection h with h _
      omega
    | some q =>
      rw [hn] at h
      injection h with hd _
      rw [← hd]
      show (if q.1 = 0 then false else false) = false
      split <;> rfl
theorem parse_zero {v : List UInt8} (h : (Dc.parse v).2.1 = 0) : ∃ d, Dc.parse v = (d, 0, 0) ∧ d.One := by
  rcases Dc.parse_cases v with ⟨h1, h2⟩ | ⟨_, h2, _⟩
  · exact ⟨(Dc.parse v).1, by rw [← h2], h1⟩
  · exact absurd h h2
theorem rated_zero {q : List UInt8} (h : (rated q).2.1 = 0) : ∃ r, rated q = (r, 0, 0) ∧ 1 ≤ r ∧ r ≤ 1000000 ∧ (r ≠ 1000000 → (rateText r.toNat).length ≤ q.length) := by
  have h2 : rated q = ((rated q).1, 0, 0) := by
    unfold rated at *
    split
    · rfl
    · rename_i h1
      rw [if_neg h1] at h
      split
      · rename_i h3; rw [if_pos h3] at h; exact absurd h h3
      · rename_i h3
        rw [if_neg h3] at h
        split
        · rename_i h4; rw [if_pos h4] at h; cases h
        · rfl
  obtain ⟨k1, k2, k3, _⟩ := rated_back h2
  exact ⟨(rated q).1, h2, k1, k2, fun _ => by rw [k3]; exact trim_le _ _⟩
theorem restS_told {l name : List UInt8} {k : Int} {d : D} (c : Nat) (t : List UInt8) (hl : c + t.length = l.length) (hn : nameR name = true) (hk : 1 ≤ k ∧ k ≤ 4) (hd : d.One) (hs : k = 2 → d.neg = false)
    (hc : name.length + 1 + (Dc.text d).length + 1 + (wordOf k).length + 1 ≤ c) : Told l (restS c name k d t) := by
  cases t with
  | nil => exact .inl ⟨11, c, rfl, by omega, by omega⟩
  | cons x t =>
    rw [restS_cons]
    rw [List.length_cons] at hl
    split
    · exact .inl ⟨11, c, rfl, by omega, by omega⟩
    · split
      · exact .inl ⟨18, c + 1, rfl, by omega, by omega⟩
      · rename_i h1
        obtain ⟨r, hr, r1, r2, r3⟩ := rated_zero (q := (cutB 124 t).1) (by
          rcases Decidable.em ((rated (cutB 124 t).1).2.1 = 0) with h | h
          · exact h
          · exact absurd (.inl h) h1)
        rcases cutB_cases 124 t with ⟨hb, e⟩ | ⟨p, r', hb, e1, e⟩
        · rw [e] at hr h1 r3 ⊢
          rw [if_neg (by simp)]
          simp only [hr] at h1 ⊢
          have hg : k = 2 → r = 1000000 := fun h2 => by
            rcases Decidable.em (r = 1000000) with h | h
            · exact h
            · exact absurd (.inr ⟨h2, h⟩) h1
          refine .inr ⟨name, k, d, r, rfl, ⟨hn, hk, hd, hs, ⟨r1, r2⟩, hg⟩, ?_⟩
          rw [lineS_one]
          unfold rateS
          split
          · simp; omega
          · rename_i hr1
            have := r3 hr1
            simp at this ⊢
            omega
        · rw [e, if_pos rfl]
          refine .inl ⟨11, c + 1 + p.length, rfl, by omega, ?_⟩
          have := congrArg List.length e1
          rw [List.length_append, List.length_cons] at this
          omega
theorem parseS_told (l : List UInt8) : Told l (parseS l) := by
  unfold parseS
  rcases cutB_cases 58 l with ⟨_, e⟩ | ⟨name, l1, _, e1, e⟩
  · rw [e]
    split
    · exact .inl ⟨15, 0, rfl, by omega, by omega⟩
    · rw [if_pos rfl]
      exact .inl ⟨11, l.length, rfl, by omega, by omega⟩
  · rw [e]
    have hl1 := congrArg List.length e1
    rw [List.length_append, List.length_cons] at hl1
    split
    · exact .inl ⟨15, 0, rfl, by omega, by omega⟩
    · rename_i hn
      have hn : nameR name = true := by simpa using hn
      rw [if_neg (by simp)]
      show Told l (valueS (name.length + 1) l.length name l1)
      unfold valueS
      split
      · exact .inl ⟨17, name.length + 1, rfl, by omega, by omega⟩
      · rename_i hp
        obtain ⟨d, hd, ho⟩ := parse_zero (v := (cutB 124 l1).1) (by omega)
        rcases cutB_cases 124 l1 with ⟨_, e⟩ | ⟨v, l2, _, e2, e⟩
        · rw [e, if_pos rfl]
          exact .inl ⟨11, l.length, rfl, by omega, by omega⟩
        · rw [e] at hd hp ⊢
          have hl2 := congrArg List.length e2
          rw [List.length_append, List.length_cons] at hl2
          rw [if_neg (by simp)]
          have ht : (Dc.text d).length ≤ v.length := Dc.text_short hd
          simp only [hd]
          show Told l (wordS (name.length + 1) (name.length + 1 + v.length + 1) name v d l2)
          unfold wordS
          split
          · exact .inl ⟨16, _, rfl, by omega, by omega⟩
          · rename_i hw
            split
            · exact .inl ⟨26, _, rfl, by omega, by omega⟩
            · rename_i hsg
              obtain ⟨w1, w2, w3⟩ := wordOf_kind hw
              have hs : kindOf (cutB 124 l2).1 = 2 → d.neg = false := fun h2 => parse_sign hd fun hh => hsg ⟨h2, hh⟩
              rcases cutB_cases 124 l2 with ⟨_, e⟩ | ⟨wd, l3, _, e3, e⟩
              · rw [e] at hs w1 w2 w3 ⊢
                rw [if_pos rfl]
                refine .inr ⟨name, kindOf l2, d, 1000000, rfl, ⟨hn, ⟨w2, w3⟩, ho, hs, ⟨by omega, by omega⟩, fun _ => rfl⟩, ?_⟩
                rw [lineS_one]
                show (name ++ 58 :: (Dc.text d ++ 124 :: (wordOf (kindOf l2) ++ rateS 1000000))).length ≤ _
                rw [w1]
                unfold rateS
                rw [if_pos rfl]
                simp
                omega
              · rw [e] at hs w1 w2 w3 ⊢
                have hl3 := congrArg List.length e3
                rw [List.length_append, List.length_cons] at hl3
                rw [if_neg (by simp)]
                refine restS_told _ _ ?_ hn ⟨w2, w3⟩ ho hs ?_
                · show name.length + 1 + v.length + 1 + wd.length + 1 + l3.length = _
                  omega
                · rw [show wordOf (kindOf wd) = wd from w1]
                  show _ ≤ name.length + 1 + v.length + 1 + wd.length + 1
                  omega
/-- A line that is cut off is no line, or another one. -/
theorem cut_off {m : Mt} {left : Nat} (h : left < (lineS m).length) : ((parseS ((lineS m).take left)).2.1 ≠ 0 ∧ 0 ≤ (parseS ((lineS m).take left)).2.2 ∧ (parseS ((lineS m).take left)).2.2 ≤ (left : Int)) ∨ (parseS ((lineS m).take left)).1 ≠ m := by
  have hl : ((lineS m).take left).length = left := by rw [List.length_take]; omega
  rcases parseS_told ((lineS m).take left) with ⟨c, a, e, h1, h2⟩ | ⟨name, k, d, r, e, _, h2⟩
  · rw [e]
    rw [hl] at h2
    exact .inl ⟨h1, by show (0 : Int) ≤ (a : Int); omega, by show (a : Int) ≤ (left : Int); omega⟩
  · rw [e, hl] at *
    refine .inr fun h3 => ?_
    have h3 : oneS name k d r = m := h3
    rw [h3] at h2
    omega
end
end Go.Proofs.YtmaiggoinjldpaaGreatDoor

/-
  The document's answer for lines of StatsD: words, places of bytes, names. No statement of the seat is proved here.
-/
namespace Go.Proofs.YtmaiggoinjldpaaGreatDoor
open Go.RowKit
open Dc (D D0)

/-- Where a byte stands, from one on. -/
def findB (l : List UInt8) (n : Nat) (c : UInt8) : Nat := n + (cutB c (l.drop n)).1.length
theorem findB_at {l : List UInt8} {n i : Nat} {c : UInt8} (hn : n ≤ i) (hi : i < l.length) (hc : l[i] = c) (h : ∀ j (hj : j < l.length), n ≤ j → j < i → l[j] ≠ c) : findB l n c = i := by
  have e : l.drop n = (l.drop n).take (i - n) ++ c :: l.drop (i + 1) := by
    conv => lhs; rw [← List.take_append_drop (i - n) (l.drop n)]
    rw [List.drop_drop, show n + (i - n) = i by omega, List.drop_eq_getElem_cons hi, hc]
  have hb : c ∉ (l.drop n).take (i - n) := fun hm => by
    obtain ⟨j, hj, ej⟩ := List.mem_iff_getElem.1 hm
    rw [List.length_take, List.length_drop] at hj
    rw [List.getElem_take, List.getElem_drop] at ej
    exact h (n + j) (by omega) (by omega) (by omega) ej
  unfold findB
  rw [e, cutB_hit _ hb]
  show n + ((l.drop n).take (i - n)).length = i
  rw [List.length_take, List.length_drop]
  omega
theorem findB_none {l : List UInt8} {n : Nat} {c : UInt8} (hn : n ≤ l.length) (h : ∀ j (hj : j < l.length), n ≤ j → l[j] ≠ c) : findB l n c = l.length := by
  have hb : c ∉ l.drop n := fun hm => by
    obtain ⟨j, hj, ej⟩ := List.mem_iff_getElem.1 hm
    rw [List.length_drop] at hj
    rw [List.getElem_drop] at ej
    exact h (n + j) (by omega) (by omega) ej
  unfold findB
  rw [cutB_miss hb]
  show n + (l.drop n).length = _
  rw [List.length_drop]
  omega
theorem findB_le (l : List UInt8) {n : Nat} (hn : n ≤ l.length) (c : UInt8) : n ≤ findB l n c ∧ findB l n c ≤ l.length := by
  unfold findB
  rcases cutB_cases c (l.drop n) with ⟨_, e⟩ | ⟨p, r, _, e1, e⟩
  · rw [e]
    show n ≤ n + (l.drop n).length ∧ n + (l.drop n).length ≤ _
    rw [List.length_drop]; omega
  · rw [e]
    have := congrArg List.length e1
    rw [List.length_append, List.length_cons, List.length_drop] at this
    show n ≤ n + p.length ∧ n + p.length ≤ _
    omega

theorem words_str : Str ⟨#[99]⟩ [99] ∧ Str ⟨#[103]⟩ [103] ∧ Str ⟨#[109, 115]⟩ [109, 115] ∧ Str ⟨#[104]⟩ [104] ∧ Str ⟨#[]⟩ [] := ⟨rfl, rfl, rfl, rfl, rfl⟩
theorem kind_step {w : List UInt8} {i : Nat} (hi : 1 ≤ i ∧ i ≤ 4) (h : ∀ j : Nat, 1 ≤ j → j < i → wordOf j ≠ w) (e : wordOf i = w) : kindOf w = i := by
  subst e
  exact kindOf_word (by omega)
theorem kind_none {w : List UInt8} (h : ∀ j : Nat, 1 ≤ j → j < 5 → wordOf j ≠ w) : kindOf w = 0 := by
  rcases Decidable.em (kindOf w = 0) with h0 | h0
  · exact h0
  · obtain ⟨h1, h2, h3⟩ := wordOf_kind h0
    exact absurd (by rw [Int.toNat_of_nonneg (by omega)]; exact h1) (h (kindOf w).toNat (by omega) (by omega))
end Go.Proofs.YtmaiggoinjldpaaGreatDoor

/-
  Lines of StatsD by places: what parseS says, by where the marks stand. Nothing of the program.
-/
namespace Go.Proofs.YtmaiggoinjldpaaGreatDoor
open Dc (D D0)

theorem cut_find {l : List UInt8} {n b : Nat} {c : UInt8} (hn : n ≤ l.length) (hb : findB l n c = b) :
    n ≤ b ∧ b ≤ l.length ∧ (cutB c (l.drop n)).1 = (l.drop n).take (b - n) ∧ ((b = l.length ∧ (cutB c (l.drop n)).2.1 = false ∧ (cutB c (l.drop n)).2.2 = []) ∨ (b < l.length ∧ (cutB c (l.drop n)).2.1 = true ∧ (cutB c (l.drop n)).2.2 = l.drop (b + 1))) := by
  have hle := findB_le l hn c
  rw [hb] at hle
  unfold findB at hb
  rcases cutB_cases c (l.drop n) with ⟨_, e⟩ | ⟨p, r, _, e1, e⟩
  · rw [e] at hb ⊢
    have hb : n + (l.drop n).length = b := hb
    rw [List.length_drop] at hb
    refine ⟨hle.1, hle.2, ?_, .inl ⟨by omega, rfl, rfl⟩⟩
    show l.drop n = _
    rw [List.take_of_length_le (by rw [List.length_drop]; omega)]
  · rw [e] at hb ⊢
    have hb : n + p.length = b := hb
    have hlen := congrArg List.length e1
    rw [List.length_append, List.length_cons, List.length_drop] at hlen
    refine ⟨hle.1, hle.2, ?_, .inr ⟨by omega, rfl, ?_⟩⟩
    · show p = _
      rw [e1, show b - n = p.length by omega, List.take_left]
    · show r = _
      rw [show b + 1 = n + (p.length + 1) by omega, ← List.drop_drop, e1, ← List.drop_drop, List.drop_left]
      rfl
/-- The text between two places. -/
def btw (l : List UInt8) (n b : Nat) : List UInt8 := (l.drop n).take (b - n)
theorem btw_len {l : List UInt8} {n b : Nat} (h1 : n ≤ b) (h2 : b ≤ l.length) : (btw l n b).length = b - n := by
  unfold btw
  rw [List.length_take, List.length_drop]; omega
theorem btw_zero (l : List UInt8) (b : Nat) : btw l 0 b = l.take b := by unfold btw; rw [List.drop_zero, Nat.sub_zero]
section
variable {l : List UInt8} {a b c e : Nat}
theorem parseS_num (ha : findB l 0 58 = a) : parseS l = if nameR (btw l 0 a) = false then failS 15 0 else if a = l.length then failS 11 l.length else valueS (a + 1) l.length (btw l 0 a) (l.drop (a + 1)) := by
  obtain ⟨_, h2, h3, h4⟩ := cut_find (Nat.zero_le _) ha
  rw [List.drop_zero] at h3 h4
  unfold parseS btw
  rw [List.drop_zero, h3]
  rcases h4 with ⟨h4, h5, _⟩ | ⟨h4, h5, h6⟩
  · rw [h5, if_pos rfl, if_pos h4]
  · rw [h5, h6, if_neg (show ¬ (true = false) by decide), if_neg (show ¬ a = l.length by omega), List.length_take, Nat.sub_zero, Nat.min_eq_left (by omega)]
theorem valueS_num (hn : a + 1 ≤ l.length) (hb : findB l (a + 1) 124 = b) (n : Nat) (name : List UInt8) : valueS (a + 1) n name (l.drop (a + 1)) = if (Dc.parse (btw l (a + 1) b)).2.1 ≠ 0 then failS 17 (a + 1) else if b = l.length then failS 11 n else wordS (a + 1) (b + 1) name (btw l (a + 1) b) (Dc.parse (btw l (a + 1) b)).1 (l.drop (b + 1)) := by
  obtain ⟨h1, h2, h3, h4⟩ := cut_find hn hb
  unfold valueS btw
  rw [h3]
  rcases h4 with ⟨h4, h5, _⟩ | ⟨h4, h5, h6⟩
  · rw [h5, if_pos rfl, if_pos h4]
  · rw [h5, h6, if_neg (show ¬ (true = false) by decide), if_neg (show ¬ b = l.length by omega), List.length_take, List.length_drop, Nat.min_eq_left (by omega), show a + 1 + (b - (a + 1)) + 1 = b + 1 by omega]
theorem wordS_num (hn : b + 1 ≤ l.length) (hc : findB l (b + 1) 124 = c) (a1 : Nat) (name v : List UInt8) (d : D) : wordS a1 (b + 1) name v d (l.drop (b + 1)) = if kindOf (btw l (b + 1) c) = 0 then failS 16 (b + 1) else if kindOf (btw l (b + 1) c) = 2 ∧ v.head? = some 45 then failS 26 a1 else if c = l.length then (oneS name (kindOf (btw l (b + 1) c)) d 1000000, 0, 0) else restS (c + 1) name (kindOf (btw l (b + 1) c)) d (l.drop (c + 1)) := by
  obtain ⟨h1, h2, h3, h4⟩ := cut_find hn hc
  unfold wordS btw
  rw [h3]
  rcases h4 with ⟨h4, h5, _⟩ | ⟨h4, h5, h6⟩
  · rw [h5, if_pos rfl, if_pos h4]
  · rw [h5, h6, if_neg (show ¬ (true = false) by decide), if_neg (show ¬ c = l.length by omega), List.length_take, List.length_drop, Nat.min_eq_left (by omega), show b + 1 + (c - (b + 1)) + 1 = c + 1 by omega]
theorem restS_end (c : Nat) (name : List UInt8) (k : Int) (d : D) {t : List UInt8} (h : t.head? ≠ some 64) : restS c name k d t = failS 11 c := restS_none h
theorem restS_num (h64 : (l.drop (c + 1)).head? = some 64) (he : findB l (c + 2) 124 = e) (name : List UInt8) (k : Int) (d : D) : restS (c + 1) name k d (l.drop (c + 1)) = if (rated (btw l (c + 2) e)).2.1 ≠ 0 ∨ (k = 2 ∧ (rated (btw l (c + 2) e)).1 ≠ 1000000) then failS 18 (c + 2) else if e = l.length then (oneS name k d (rated (btw l (c + 2) e)).1, 0, 0) else failS 11 e := by
  obtain ⟨t, ht⟩ : ∃ t, l.drop (c + 1) = 64 :: t := by
    cases hd : l.drop (c + 1) with
    | nil => rw [hd] at h64; cases h64
    | cons x t => rw [hd] at h64; injection h64 with h64; subst h64; exact ⟨t, rfl⟩
  have hl := congrArg List.length ht
  rw [List.length_drop, List.length_cons] at hl
  have ht2 : l.drop (c + 2) = t := by rw [show c + 2 = (c + 1) + 1 from rfl, ← List.drop_drop, ht]; rfl
  obtain ⟨h1, h2, h3, h4⟩ := cut_find (n := c + 2) (by omega) he
  rw [ht, restS_cons]
  rw [if_neg (by simp)]
  rw [ht2] at h3 h4
  unfold btw
  rw [ht2, h3]
  rcases h4 with ⟨h4, h5, _⟩ | ⟨h4, h5, h6⟩
  · rw [h5, if_pos h4, if_neg (show ¬ (false = true) by decide)]
  · rw [h5, if_neg (show ¬ e = l.length by omega), if_pos rfl, List.length_take, show t.length = l.length - (c + 2) by omega, Nat.min_eq_left (by omega), show c + 1 + 1 + (e - (c + 2)) = e by omega]
end
end Go.Proofs.YtmaiggoinjldpaaGreatDoor

/-
  Lines of Graphite as plain data: which line a metric has, which metric a line is, and what follows. Nothing of the program.
-/
namespace Go.Proofs.YtmaiggoinjldpaaGreatDoor
open Dc (D D0)

def MaxT : Int := 1099511627776
def oneG (name : List UInt8) (d : D) (t : Int) : Mt := ⟨name, 2, [d], 1000000, [], t⟩
def timeG (b : Nat) (name : List UInt8) (d : D) (l : List UInt8) : Mt × Int × Int :=
  if (parsed (cutB 32 l).1 1 MaxT).2.1 ≠ 0 then failS 20 b
  else if (cutB 32 l).2.1 = true then failS 11 (b + (cutB 32 l).1.length)
  else (oneG name d (parsed (cutB 32 l).1 1 MaxT).1, 0, 0)
def valueG (a n : Nat) (name l : List UInt8) : Mt × Int × Int :=
  if (Dc.parse (cutB 32 l).1).2.1 ≠ 0 then failS 17 a
  else if (cutB 32 l).2.1 = false then failS 11 n
  else timeG (a + (cutB 32 l).1.length + 1) name (Dc.parse (cutB 32 l).1).1 (cutB 32 l).2.2
def parseG (l : List UInt8) : Mt × Int × Int :=
  if nameR (cutB 32 l).1 = false then failS 15 0
  else if (cutB 32 l).2.1 = false then failS 11 l.length
  else valueG ((cutB 32 l).1.length + 1) l.length (cutB 32 l).1 (cutB 32 l).2.2
/-- A metric's line. -/
def lineG (m : Mt) : List UInt8 := m.name ++ 32 :: (Dc.text (m.vals.headD D0) ++ 32 :: Lib.decDigits m.time.toNat)

/-! Bytes: no blanks. -/
theorem name_blank {l : List UInt8} (h : nameR l = true) : (32 : UInt8) ∉ l := by
  have h := of_decide_eq_true h
  unfold faultOf at h
  rw [if_neg (by decide)] at h
  split at h
  · injection h with h; omega
  · split at h
    · injection h with h; omega
    · split at h
      · injection h with h; omega
      · rcases bad_cases 1 l with ⟨k, hk, hb, _⟩ | ⟨hb, hall⟩
        · omega
        · intro hm
          obtain ⟨i, hi, e⟩ := List.mem_iff_getElem.1 hm
          have := hall i hi
          rw [e] at this
          exact absurd this (by decide)
theorem digs_blank {l : List UInt8} (h : Digs l) : (32 : UInt8) ∉ l := fun hm => by have := h _ hm; unfold Dig at this; revert this; decide
theorem text_blank (d : D) : (32 : UInt8) ∉ Dc.text d := by
  rw [Dc.text_sgn]
  intro hm
  rcases List.mem_append.1 hm with hm | hm
  · unfold Dc.sgn at hm
    split at hm
    · rcases List.mem_singleton.1 hm with h; revert h; decide
    · cases hm
  · rcases (by omega : 0 ≤ d.e ∨ d.e < 0) with h | h
    · exact digs_blank ((Dc.sized_split d.c d.e).1 h).1 hm
    · obtain ⟨a, b, e1, ha, _, hb, _⟩ := (Dc.sized_split d.c d.e).2 h
      rw [e1] at hm
      rcases List.mem_append.1 hm with hm | hm
      · rcases List.mem_append.1 hm with hm | hm
        · exact digs_blank ha hm
        · rcases List.mem_singleton.1 hm with h; revert h; decide
      · exact digs_blank hb hm
theorem digits_blank (n : Nat) : (32 : UInt8) ∉ Lib.decDigits n := digs_blank (val_decDigits n).2

section
variable {name v z : List UInt8} {d : D} {t : Int}
/-- A text of three parts. -/
theorem parseG_parts (h0 : (32 : UInt8) ∉ name) (h1 : (32 : UInt8) ∉ v) (h2 : (32 : UInt8) ∉ z) : parseG (name ++ 32 :: (v ++ 32 :: z)) =
    if nameR name = false then failS 15 0 else if (Dc.parse v).2.1 ≠ 0 then failS 17 (name.length + 1) else if (parsed z 1 MaxT).2.1 ≠ 0 then failS 20 (name.length + 1 + v.length + 1) else (oneG name (Dc.parse v).1 (parsed z 1 MaxT).1, 0, 0) := by
  unfold parseG
  rw [cutB_hit _ h0]
  simp only [Bool.true_eq_false, if_false]
  unfold valueG
  rw [cutB_hit _ h1]
  simp only [Bool.true_eq_false, if_false]
  unfold timeG
  rw [cutB_miss h2]
  simp only [Bool.false_eq_true, if_false]
/-- .. and of more. -/
theorem parseG_four (hn : nameR name = true) (hv : (Dc.parse v).2.1 = 0) (h1 : (32 : UInt8) ∉ v) (h2 : (32 : UInt8) ∉ z) (hz : (parsed z 1 MaxT).2.1 = 0) (s : List UInt8) : parseG (name ++ 32 :: (v ++ 32 :: (z ++ 32 :: s))) = failS 11 (name.length + 1 + v.length + 1 + z.length) := by
  unfold parseG
  rw [cutB_hit _ (name_blank hn)]
  simp only [hn, Bool.true_eq_false, if_false]
  unfold valueG
  rw [cutB_hit _ h1]
  simp only [hv, ne_eq, not_true_eq_false, Bool.true_eq_false, if_false]
  unfold timeG
  rw [cutB_hit _ h2]
  simp only [hz, ne_eq, not_true_eq_false, if_false]
  rfl
end
theorem parsed_zero {l : List UInt8} (h : (parsed l 1 MaxT).2.1 = 0) : ∃ n, parsed l 1 MaxT = (n, 0, 0) ∧ 1 ≤ n ∧ n ≤ MaxT ∧ Lib.decDigits n.toNat = l := by
  have h2 : parsed l 1 MaxT = ((parsed l 1 MaxT).1, 0, 0) ∧ 1 ≤ (parsed l 1 MaxT).1 ∧ (parsed l 1 MaxT).1 ≤ MaxT := by
    unfold parsed at *
    by_cases h1 : l = []
    · rw [if_pos h1] at h; cases h
    · rw [if_neg h1] at h ⊢
      by_cases h2 : 0 ≤ bad 4 l
      · rw [if_pos h2] at h; cases h
      · rw [if_neg h2] at h ⊢
        by_cases h3 : l.head? = some 48 ∧ 1 < l.length
        · rw [if_pos h3] at h; cases h
        · rw [if_neg h3] at h ⊢
          by_cases h4 : MaxI < val l ∨ (val l : Int) < 1 ∨ MaxT < (val l : Int)
          · rw [if_pos h4] at h; cases h
          · rw [if_neg h4]
            exact ⟨rfl, by show 1 ≤ (val l : Int); omega, by show (val l : Int) ≤ MaxT; omega⟩
  exact ⟨_, h2.1, h2.2.1, h2.2.2, (parsed_back h2.1).2.2⟩
theorem parsed_time {t : Int} (h : 1 ≤ t ∧ t ≤ MaxT) : parsed (Lib.decDigits t.toNat) 1 MaxT = (t, 0, 0) := by
  have hm : MaxT = 1099511627776 := rfl
  rw [parsed_digits (by unfold MaxI; omega), if_neg (by omega), Int.toNat_of_nonneg (by omega)]

/-- A metric that Graphite can say. -/
structure SaidG (name : List UInt8) (d : D) (t : Int) : Prop where
  name : nameR name = true
  val : d.One
  time : 1 ≤ t ∧ t ≤ MaxT
theorem saidG_of {m : Mt} (hc : checkM m = 0) (hs : saysM m 3 = true) : ∃ name d t, m = oneG name d t ∧ SaidG name d t := by
  obtain ⟨h1, h2, h3, h4, h5, h6⟩ := restM_zero.1 hc
  have hv := checkM_ok hc
  unfold saysM at hs
  rw [if_neg (by decide), if_pos rfl] at hs
  unfold says3 bareN at hs
  simp only [Bool.and_eq_true, decide_eq_true_eq] at hs
  obtain ⟨⟨⟨s1, s2⟩, s3⟩, s4⟩ := hs
  obtain ⟨nm, kd, vs, rt, ts, tm⟩ := m
  obtain ⟨d, rfl⟩ := List.length_eq_one_iff.1 s1
  obtain rfl := List.eq_nil_of_length_eq_zero s2
  obtain rfl : kd = 2 := s4
  have h4 : 1 ≤ rt ∧ rt ≤ 1000000 ∧ ((2 : Int) = 2 → rt = 1000000) := of_decide_eq_true h4
  obtain rfl := h4.2.2 rfl
  have h6 : 0 ≤ tm ∧ tm ≤ 1099511627776 := of_decide_eq_true h6
  have s3 : tm ≠ 0 := s3
  unfold okV at hv
  rw [List.all_eq_true] at hv
  have hd := of_decide_eq_true (hv d (List.mem_singleton.2 rfl))
  exact ⟨nm, d, tm, rfl, h1, Dc.check_ok.1 hd, by omega, by unfold MaxT; omega⟩
section
variable {name : List UInt8} {d : D} {t : Int}
theorem SaidG.check (h : SaidG name d t) : checkM (oneG name d t) = 0 ∧ saysM (oneG name d t) 3 = true ∧ isM (oneG name d t) = true := by
  have hm : MaxT = 1099511627776 := rfl
  have ht := h.time
  have hc : checkM (oneG name d t) = 0 := by
    refine restM_zero.2 ⟨h.name, show kindR 2 = true by decide, ?_, show rateR 2 1000000 = true by decide, rfl, show timeR t = true from decide_eq_true ⟨by omega, by omega⟩⟩
    show valsR (okV [d]) 1 = true
    unfold okV
    simp only [List.all_cons, List.all_nil, Bool.and_true, Dc.check_ok.2 h.val]
    decide
  refine ⟨hc, ?_, ?_⟩
  · unfold saysM
    rw [if_neg (by decide), if_pos rfl]
    show says3 1 0 2 t = true
    unfold says3 bareN
    simp only [decide_true, Bool.true_and, Bool.and_true, decide_eq_true_eq]
    omega
  · unfold isM
    rw [decide_eq_true hc]
    rfl
theorem lineG_one (name : List UInt8) (d : D) (t : Int) : lineG (oneG name d t) = name ++ 32 :: (Dc.text d ++ 32 :: Lib.decDigits t.toNat) := rfl
/-- What is written is parsed as the metric. -/
theorem SaidG.back (h : SaidG name d t) : parseG (lineG (oneG name d t)) = (oneG name d t, 0, 0) := by
  rw [lineG_one, parseG_parts (name_blank h.name) (text_blank d) (digits_blank _), Dc.parse_text h.val, parsed_time h.time]
  simp only [h.name, Bool.true_eq_false, if_false, ne_eq, not_true_eq_false]
/-- Whatever stands behind a blank behind a line is refused there. -/
theorem SaidG.behind (h : SaidG name d t) (s : List UInt8) : parseG (lineG (oneG name d t) ++ 32 :: s) = failS 11 (lineG (oneG name d t)).length := by
  have e : lineG (oneG name d t) ++ 32 :: s = name ++ 32 :: (Dc.text d ++ 32 :: (Lib.decDigits t.toNat ++ 32 :: s)) := by
    rw [lineG_one]; simp
  have el : (lineG (oneG name d t)).length = name.length + 1 + (Dc.text d).length + 1 + (Lib.decDigits t.toNat).length := by
    rw [lineG_one]; simp; omega
  rw [e, parseG_four h.name (by rw [Dc.parse_text h.val]) (text_blank d) (digits_blank _) (by rw [parsed_time h.time]), el]
end
/-- What Parse tells: a metric that Graphite can say, whose line is no longer, and which has just two blanks; or a fault in the text. -/
def ToldG (l : List UInt8) (x : Mt × Int × Int) : Prop :=
  (∃ c : Int, ∃ a : Nat, x = failS c a ∧ c ≠ 0 ∧ a ≤ l.length) ∨ ∃ name v d t, x = (oneG name d t, 0, 0) ∧ SaidG name d t ∧ (32 : UInt8) ∉ v ∧ Dc.parse v = (d, 0, 0) ∧ l = name ++ 32 :: (v ++ 32 :: Lib.decDigits t.toNat) ∧ (lineG (oneG name d t)).length ≤ l.length
theorem parseG_told (l : List UInt8) : ToldG l (parseG l) := by
  unfold parseG
  rcases cutB_cases 32 l with ⟨_, e⟩ | ⟨name, l1, _, e1, e⟩
  · rw [e]
    split
    · exact .inl ⟨15, 0, rfl, by omega, by omega⟩
    · rw [if_pos rfl]
      exact .inl ⟨11, l.length, rfl, by omega, by omega⟩
  · rw [e]
    have hl1 := congrArg List.length e1
    rw [List.length_append, List.length_cons] at hl1
    split
    · exact .inl ⟨15, 0, rfl, by omega, by omega⟩
    · rename_i hn
      have hn : nameR name = true := by simpa using hn
      rw [if_neg (by simp)]
      show ToldG l (valueG (name.length + 1) l.length name l1)
      unfold valueG
      split
      · exact .inl ⟨17, name.length + 1, rfl, by omega, by omega⟩
      · rename_i hp
        obtain ⟨d, hd, ho⟩ := parse_zero (v := (cutB 32 l1).1) (by omega)
        rcases cutB_cases 32 l1 with ⟨_, e⟩ | ⟨v, l2, hbv, e2, e⟩
        · rw [e, if_pos rfl]
          exact .inl ⟨11, l.length, rfl, by omega, by omega⟩
        · rw [e] at hd hp ⊢
          have hl2 := congrArg List.length e2
          rw [List.length_append, List.length_cons] at hl2
          rw [if_neg (by simp)]
          have ht : (Dc.text d).length ≤ v.length := Dc.text_short hd
          simp only [hd]
          show ToldG l (timeG (name.length + 1 + v.length + 1) name d l2)
          unfold timeG
          split
          · exact .inl ⟨20, _, rfl, by omega, by omega⟩
          · rename_i hq
            obtain ⟨t, h1, h2, h3, h4⟩ := parsed_zero (l := (cutB 32 l2).1) (by omega)
            rcases cutB_cases 32 l2 with ⟨_, e⟩ | ⟨z, l3, _, e3, e⟩
            · rw [e] at h1 h4 ⊢
              have h4 : Lib.decDigits t.toNat = l2 := h4
              rw [if_neg (by simp)]
              simp only [h1]
              refine .inr ⟨name, v, d, t, rfl, ⟨hn, ho, h2, h3⟩, hbv, hd, by rw [h4, ← e2, ← e1], ?_⟩
              rw [lineG_one, h4]
              simp
              omega
            · rw [e, if_pos rfl]
              have hl3 := congrArg List.length e3
              rw [List.length_append, List.length_cons] at hl3
              refine .inl ⟨11, name.length + 1 + v.length + 1 + z.length, rfl, by omega, by omega⟩
theorem count_none {l : List UInt8} (h : (32 : UInt8) ∉ l) : l.count 32 = 0 := List.count_eq_zero.2 h
theorem count_three {a b c : List UInt8} (ha : (32 : UInt8) ∉ a) (hb : (32 : UInt8) ∉ b) (hc : (32 : UInt8) ∉ c) : (a ++ 32 :: (b ++ 32 :: c)).count 32 = 2 := by
  simp [List.count_append, count_none ha, count_none hb, count_none hc]
/-- What is parsed has two blanks. -/
theorem parseG_two {l : List UInt8} (h : (parseG l).2.1 = 0) : l.count 32 = 2 := by
  rcases parseG_told l with ⟨c, a, e, h1, _⟩ | ⟨name, v, d, t, e, hs, hv, _, el, _⟩
  · rw [e] at h; exact absurd h h1
  · rw [el]
    exact count_three (name_blank hs.name) hv (digits_blank _)
/-- A blank more anywhere is refused. -/
theorem blank_more {name : List UInt8} {d : D} {t : Int} (h : SaidG name d t) (left : Nat) : (parseG ((lineG (oneG name d t)).take left ++ 32 :: (lineG (oneG name d t)).drop left)).2.1 ≠ 0 := fun h0 => by
  have h1 := parseG_two h0
  have h2 : (lineG (oneG name d t)).count 32 = 2 := by rw [lineG_one]; exact count_three (name_blank h.name) (text_blank d) (digits_blank _)
  have h3 : ((lineG (oneG name d t)).take left ++ 32 :: (lineG (oneG name d t)).drop left).count 32 = (lineG (oneG name d t)).count 32 + 1 := by
    conv => rhs; rw [← List.take_append_drop left (lineG (oneG name d t))]
    rw [List.count_append, List.count_append, List.count_cons]
    simp
    omega
  omega
theorem two_same {a b a' b' : List UInt8} {c : UInt8} (h1 : c ∉ a) (h2 : c ∉ a') (h : a ++ c :: b = a' ++ c :: b') : a = a' ∧ b = b' := by
  have e1 := cutB_hit b h1
  have e2 := cutB_hit b' h2
  rw [h, e2] at e1
  injection e1 with e1 e3
  injection e3 with _ e3
  exact ⟨e1.symm, e3.symm⟩
theorem val_prefix {a b : List UInt8} (ha : 0 < val a) (hb : b ≠ []) : val a < val (a ++ b) := by
  rw [val_append]
  obtain ⟨n, hn⟩ : ∃ n, b.length = n + 1 := ⟨b.length - 1, by cases b with | nil => exact absurd rfl hb | cons x r => simp⟩
  rw [hn, Nat.pow_succ]
  have h1 : 1 ≤ 10 ^ n := Nat.pos_of_ne_zero (by simp)
  have h2 : val a * 1 ≤ val a * 10 ^ n := Nat.mul_le_mul_left _ h1
  have h3 : val a * (10 ^ n * 10) = val a * 10 ^ n * 10 := by rw [Nat.mul_assoc]
  omega
/-- A line that is cut off is no line, or one of an earlier time. -/
theorem cut_offG {name : List UInt8} {d : D} {t : Int} (h : SaidG name d t) {left : Nat} (hl : left < (lineG (oneG name d t)).length) :
    (∃ c : Int, ∃ a : Nat, parseG ((lineG (oneG name d t)).take left) = failS c a ∧ c ≠ 0 ∧ a ≤ left) ∨ ∃ d' t', parseG ((lineG (oneG name d t)).take left) = (oneG name d' t', 0, 0) ∧ SaidG name d' t' ∧ t' < t := by
  have hlen : ((lineG (oneG name d t)).take left).length = left := by rw [List.length_take]; omega
  rcases parseG_told ((lineG (oneG name d t)).take left) with ⟨c, a, e, h1, h2⟩ | ⟨nm, v, d', t', e, hs, hv, _, el, _⟩
  · exact .inl ⟨c, a, e, h1, by omega⟩
  · obtain ⟨r, hr, hrne⟩ : ∃ r, lineG (oneG name d t) = (lineG (oneG name d t)).take left ++ r ∧ r ≠ [] := ⟨(lineG (oneG name d t)).drop left, (List.take_append_drop _ _).symm, fun h0 => by
      have := congrArg List.length h0
      rw [List.length_drop, List.length_nil] at this
      omega⟩
    have hr2 := hr
    rw [el, lineG_one] at hr2
    have e1 : nm ++ 32 :: (v ++ 32 :: Lib.decDigits t'.toNat) ++ r = nm ++ 32 :: (v ++ 32 :: (Lib.decDigits t'.toNat ++ r)) := by simp
    rw [e1] at hr2
    obtain ⟨k1, k2⟩ := two_same (name_blank h.name) (name_blank hs.name) hr2
    obtain ⟨k3, k4⟩ := two_same (text_blank d) hv k2
    refine .inr ⟨d', t', by rw [e, k1], by rw [k1]; exact hs, ?_⟩
    have hv1 := (val_decDigits t.toNat).1
    have hv2 := (val_decDigits t'.toNat).1
    have ht := h.time
    have ht' := hs.time
    have := val_prefix (a := Lib.decDigits t'.toNat) (b := r) (by omega) hrne
    rw [← k4, hv1, hv2] at this
    omega
end Go.Proofs.YtmaiggoinjldpaaGreatDoor

/-
  Lines of Graphite by places: what parseG says, by where the blanks stand. Nothing of the program.
-/
namespace Go.Proofs.YtmaiggoinjldpaaGreatDoor
open Dc (D D0)

section
variable {l : List UInt8} {a b c : Nat}
theorem parseG_num (ha : findB l 0 32 = a) : parseG l = if nameR (btw l 0 a) = false then failS 15 0 else if a = l.length then failS 11 l.length else valueG (a + 1) l.length (btw l 0 a) (l.drop (a + 1)) := by
  obtain ⟨_, h2, h3, h4⟩ := cut_find (Nat.zero_le _) ha
  rw [List.drop_zero] at h3 h4
  unfold parseG btw
  rw [List.drop_zero, h3]
  rcases h4 with ⟨h4, h5, _⟩ | ⟨h4, h5, h6⟩
  · rw [h5, if_pos rfl, if_pos h4]
  · rw [h5, h6, if_neg (show ¬ (true = false) by decide), if_neg (show ¬ a = l.length by omega), List.length_take, Nat.sub_zero, Nat.min_eq_left (by omega)]
theorem valueG_num (hn : a + 1 ≤ l.length) (hb : findB l (a + 1) 32 = b) (n : Nat) (name : List UInt8) : valueG (a + 1) n name (l.drop (a + 1)) = if (Dc.parse (btw l (a + 1) b)).2.1 ≠ 0 then failS 17 (a + 1) else if b = l.length then failS 11 n else timeG (b + 1) name (Dc.parse (btw l (a + 1) b)).1 (l.drop (b + 1)) := by
  obtain ⟨h1, h2, h3, h4⟩ := cut_find hn hb
  unfold valueG btw
  rw [h3]
  rcases h4 with ⟨h4, h5, _⟩ | ⟨h4, h5, h6⟩
  · rw [h5, if_pos rfl, if_pos h4]
  · rw [h5, h6, if_neg (show ¬ (true = false) by decide), if_neg (show ¬ b = l.length by omega), List.length_take, List.length_drop, Nat.min_eq_left (by omega), show a + 1 + (b - (a + 1)) + 1 = b + 1 by omega]
theorem timeG_num (hn : b + 1 ≤ l.length) (hc : findB l (b + 1) 32 = c) (name : List UInt8) (d : D) : timeG (b + 1) name d (l.drop (b + 1)) = if (parsed (btw l (b + 1) c) 1 MaxT).2.1 ≠ 0 then failS 20 (b + 1) else if c = l.length then (oneG name d (parsed (btw l (b + 1) c) 1 MaxT).1, 0, 0) else failS 11 c := by
  obtain ⟨h1, h2, h3, h4⟩ := cut_find hn hc
  unfold timeG btw
  rw [h3]
  rcases h4 with ⟨h4, h5, _⟩ | ⟨h4, h5, h6⟩
  · rw [h5, if_neg (show ¬ (false = true) by decide), if_pos h4]
  · rw [h5, if_pos rfl, if_neg (show ¬ c = l.length by omega), List.length_take, List.length_drop, Nat.min_eq_left (by omega), show b + 1 + (c - (b + 1)) = c by omega]
end
end Go.Proofs.YtmaiggoinjldpaaGreatDoor

/-
  Layers 10 to 12: what Parse tells, with its answer named; the two blocks that it is laid in; Small. No statement of the seat is proved here.
-/
namespace Go.Proofs.YtmaiggoinjldpaaGreatDoor
open Go.RowKit
open Dc (D D0)

theorem tells_says {w w' : World} {e : Ending} {x : Mt × Int × Int} {m : Mt} {c a : Int} (hx : x = (m, c, a)) (h : TellsM w x e w') :
    ∃ s A n ca B k cb, e = .returned (.tuple #[.agg #[.string s, .int .i64 m.kind, .slice A n ca, .int .i64 m.rate, .slice B k cb, .int .i64 m.time], .agg #[.int .i64 c, .int .i64 a]]) ∧ MIs w' s A n B k m ∧ Below w.heap.size w w' := by
  subst hx
  exact h
section
variable {w W : World} {L : List (Nat × TypeId × List Value)} {M : List (ByteArray × Option Addr × Nat × Option Addr × Nat × Mt)}
/-- What a call of Parse leaves: its metric and its fault are laid in two blocks. -/
def PKb (w : World) (L : List (Nat × TypeId × List Value)) (M : List (ByteArray × Option Addr × Nat × Option Addr × Nat × Mt)) (m : Mt) (c a : Int) (e : Ending) (w' : World) : Prop :=
  ∃ s A n ca B k cb, e = .returned (.tuple #[.agg #[.string s, .int .i64 m.kind, .slice A n ca, .int .i64 m.rate, .slice B k cb, .int .i64 m.time], .agg #[.int .i64 c, .int .i64 a]]) ∧ Kb w L ((s, A, n, B, k, m) :: M) w'
/-- The two blocks that a Metric and a Fault are laid in. -/
theorem Kb.lay2 (h : Kb w L M W) (a b c d e f x y : Value) : Kb w ((W.heap.size + 1, 36, [x, y]) :: (W.heap.size, 25, [a, b, c, d, e, f]) :: L) M ((W.alloc (.cells #[a, b, c, d, e, f] 25)).alloc (.cells #[x, y] 36)) :=
  (h.push 25 [a, b, c, d, e, f]).pushAt (by rw [size_alloc]) 36 [x, y]
end

/-- A name of up to 300 bytes, up to 80 values, up to 50 tags of up to 200 bytes each. -/
def smallM (m : Mt) : Bool := decide (m.name.length ≤ 300 ∧ m.vals.length ≤ 80 ∧ m.tags.length ≤ 50 ∧ ∀ t ∈ m.tags, t.1.length ≤ 200 ∧ t.2.length ≤ 200)
theorem smallM_small {m : Mt} (h : smallM m = true) (hf : ∀ d ∈ m.vals, d.Fits) : Small m := by
  obtain ⟨h1, h2, h3, h4⟩ := of_decide_eq_true h
  exact ⟨by omega, by omega, hf, by omega, fun t ht => by have := h4 t ht; omega⟩

section
variable {w : World} {s : ByteArray} {A B : Option Addr} {n k ca cb : Nat} {m : Mt}
set_option maxRecDepth 100000 in
set_option maxHeartbeats 4000000 in
theorem small10_calls (h : MIs w s A n B k m) : Calls Tryz.prog 4 #[.agg #[.string s, .int .i64 m.kind, .slice A n ca, .int .i64 m.rate, .slice B k cb, .int .i64 m.time]] w fun e w' => e = .returned (.bool (smallM m)) ∧ Below w.heap.size w w' := by
  obtain ⟨q, hq⟩ : ∃ q, smallM m = q := ⟨_, rfl⟩
  rw [hq]
  have HQ := Lib.hid hq
  have n1 := h.name.size
  generalize m.kind = kd
  generalize m.rate = rt
  generalize m.time = tm
  have b0 := (Kb.start w).push 25 [.string s, .int .i64 kd, .slice A n ca, .int .i64 rt, .slice B k cb, .int .i64 tm]
  have HB := Lib.hid b0
  have HH := Lib.hid (And.intro h n1)
  clear b0 hq h n1
  go_enter Tryz.func4, Tryz.ntmps4
  go_wp2_with fail
  go_loopw [3] (fun v wr => ∃ i : Nat, v = .int .i64 i ∧ i ≤ k ∧ i ≤ 51 ∧ Hid (Kb w [(w.heap.size, 25, [.string s, .int .i64 kd, .slice A n ca, .int .i64 rt, .slice B k cb, .int .i64 tm])] [] wr ∧ ∀ j (h : j < m.tags.length), j < i → m.tags[j].1.length ≤ 200 ∧ m.tags[j].2.length ≤ 200)) (fun v _ => k - (intOf v).toNat)
  case atStart => exact ⟨0, rfl, by omega, by omega, ⟨HB.out, fun j _ hj => absurd hj (by omega)⟩⟩
  case round =>
    obtain ⟨i, rfl, hin, hi51, hrel⟩ := hrel
    clear HB
    obtain ⟨c0, c1, c2, c3, c4, c5⟩ := hrel.out.1.six (.head _)
    by_cases hgo : i < k ∧ i < 51
    · obtain ⟨hlt, h51⟩ := hgo
      have g1 : (i : Int) < (k : Int) := by omega
      have g2 : (0 : Int) ≤ (i : Int) := by omega
      have g3 : (i : Int) < 51 := by omega
      have hm := HH.out.1
      have l0 : i < m.tags.length := by rw [hm.tlen]; exact hlt
      obtain ⟨b, off, s1, t1, e1, d0, d1, hs, ht⟩ := (hm.tags.keep hrel.out.1.kept).get l0
      subst e1
      have z1 := hs.size
      have z2 := ht.size
      rcases (by omega : 200 < (s1.size : Int) ∨ (¬ 200 < (s1.size : Int) ∧ 200 < (t1.size : Int)) ∨ (¬ 200 < (s1.size : Int) ∧ ¬ 200 < (t1.size : Int))) with k1 | ⟨k1, k2⟩ | ⟨k1, k2⟩
      · have HE := Lib.hid (show q = false by
          rw [← HQ.out]
          exact decide_eq_false fun ⟨_, _, _, h⟩ => by have := (h _ (List.getElem_mem l0)).1; omega)
        clear hm hs ht z1 z2
        go_wp2_with fail
        go_ret
        exact ⟨by rw [HE.out]; first | done | rfl, hrel.out.1.kept⟩
      · have HE := Lib.hid (show q = false by
          rw [← HQ.out]
          exact decide_eq_false fun ⟨_, _, _, h⟩ => by have := (h _ (List.getElem_mem l0)).2; omega)
        clear hm hs ht z1 z2
        go_wp2_with fail
        go_ret
        exact ⟨by rw [HE.out]; first | done | rfl, hrel.out.1.kept⟩
      · have HE := Lib.hid (show m.tags[i].1.length ≤ 200 ∧ m.tags[i].2.length ≤ 200 by omega)
        clear hm hs ht z1 z2
        go_wp2_with fail
        refine ⟨⟨i + 1, by go_num, by omega, by omega, ⟨hrel.out.1, fun j h hj => ?_⟩⟩, by simp [intOf]; omega⟩
        rcases Nat.lt_or_ge j i with h' | h'
        · exact hrel.out.2 j h h'
        · obtain rfl : i = j := by omega
          exact HE.out
    · have hstop : (¬ (i : Int) < (k : Int)) ∨ ((i : Int) < (k : Int) ∧ ¬ (i : Int) < 51) := by omega
      have HE := Lib.hid (show q = decide ((s.size : Int) ≤ 300 ∧ (n : Int) ≤ 80 ∧ (k : Int) ≤ 50) by
        rw [← HQ.out]
        unfold smallM
        have a1 := HH.out.1.vlen
        have a2 := HH.out.1.tlen
        have a3 := HH.out.2
        by_cases h : (s.size : Int) ≤ 300 ∧ (n : Int) ≤ 80 ∧ (k : Int) ≤ 50
        · rw [decide_eq_true h]
          refine decide_eq_true ⟨by omega, by omega, by omega, fun t ht => ?_⟩
          obtain ⟨j, hj, rfl⟩ := List.mem_iff_getElem.1 ht
          exact hrel.out.2 j hj (by omega)
        · rw [decide_eq_false h]
          exact decide_eq_false fun ⟨h1, h2, h3, _⟩ => h ⟨by omega, by omega, by omega⟩)
      rcases hstop with g1 | ⟨g1, g2⟩
      all_goals
        rcases (by omega : ¬ (s.size : Int) ≤ 300 ∨ ((s.size : Int) ≤ 300 ∧ ¬ (n : Int) ≤ 80) ∨ ((s.size : Int) ≤ 300 ∧ (n : Int) ≤ 80 ∧ ¬ (k : Int) ≤ 50) ∨ ((s.size : Int) ≤ 300 ∧ (n : Int) ≤ 80 ∧ (k : Int) ≤ 50)) with h1 | ⟨h1, h2⟩ | ⟨h1, h2, h3⟩ | ⟨h1, h2, h3⟩
        · have HF := Lib.hid (show q = false by rw [HE.out]; exact decide_eq_false fun h => h1 h.1)
          go_wp2_with fail
          go_ret
          exact ⟨by rw [HF.out]; first | done | rfl, hrel.out.1.kept⟩
        · have HF := Lib.hid (show q = false by rw [HE.out]; exact decide_eq_false fun h => h2 h.2.1)
          go_wp2_with fail
          go_ret
          exact ⟨by rw [HF.out]; first | done | rfl, hrel.out.1.kept⟩
        · have HF := Lib.hid (show q = false by rw [HE.out]; exact decide_eq_false fun h => h3 h.2.2)
          go_wp2_with fail
          go_ret
          exact ⟨by rw [HF.out]; first | done | rfl, hrel.out.1.kept⟩
        · first
            | (exfalso; omega)
            | (have HF := Lib.hid (show q = true by rw [HE.out]; exact decide_eq_true ⟨h1, h2, h3⟩)
               go_wp2_with fail
               go_ret
               exact ⟨by rw [HF.out]; first | done | rfl, hrel.out.1.kept⟩)
end

section
variable {w W : World} {L : List (Nat × TypeId × List Value)} {M : List (ByteArray × Option Addr × Nat × Option Addr × Nat × Mt)}
theorem Kb.small10_ {x : Bool} {s : ByteArray} {A B : Option Addr} {n k : Nat} {m : Mt} (h : Kb w L M W) (hm : (s, A, n, B, k, m) ∈ M) (hx : smallM m = x) (ca cb : Nat) :
    Calls Tryz.prog 4 #[.agg #[.string s, .int .i64 m.kind, .slice A n ca, .int .i64 m.rate, .slice B k cb, .int .i64 m.time]] W fun e w' => e = .returned (.bool x) ∧ Kb w L M w' := by
  have := small10_calls (ca := ca) (cb := cb) (h.m hm)
  rw [hx] at this
  exact this.mono fun e w' k => ⟨k.1, h.next k.2⟩
end
end Go.Proofs.YtmaiggoinjldpaaGreatDoor
