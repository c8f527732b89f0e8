/-
  DStr, DText, DigLess, DRefMath. No statement of the seat is proved here.
-/
import Derived.Test.YtdliookdmgilgaaGreatDoorShelf
import Derived.Test.YtdliookdmgilgaaGreatDoorGrMem
import Derived.Test.YtdliookdmgilgaaGreatDoorGrDigs
import GoSem.Op.String
/-
  Strings of our own, beside the shelf. No statement of the seat is proved here.
-/

/-
  How a text is gone through, and the text of a number, as plain functions. Nothing of the program.
-/
namespace Go.Proofs.YtdliookdmgilgaaGreatDoor.Dc

/-! A text is gone through. -/
inductive Scan where
  | bad (code : Int) (at_ : Nat)
  | ok (below : Bool) (v p : Nat)

def scan (n : Nat) (below point wanted : Bool) (v p : Nat) : List UInt8 → Scan
  | [] => if wanted then .bad 11 n else .ok below v p
  | b :: r =>
    if 48 ≤ b.toNat ∧ b.toNat ≤ 57 then scan (n + 1) below point false (10 * v + (b.toNat - 48)) (if point then p + 1 else p) r
    else if b.toNat = 46 ∧ wanted = false ∧ point = false then scan (n + 1) below true true v p r
    else if b.toNat = 45 ∧ n = 0 then scan (n + 1) true point wanted v p r
    else .bad 14 n

def told : Scan → D × Int × Int
  | .bad code n => (D0, code, n)
  | .ok below v p => match norm v (-(p : Int)) with
    | none => (D0, 10, 0)
    | some q => (mkD below q, 0, 0)
def parse (l : List UInt8) : D × Int × Int := told (scan 0 false false true 0 0 l)

theorem scan_digs {l : List UInt8} (h : Digs l) (hne : l ≠ []) (n : Nat) (below point wanted : Bool) (v p : Nat) (r : List UInt8) :
    scan n below point wanted v p (l ++ r) = scan (n + l.length) below point false (valF v l) (if point then p + l.length else p) r := by
  induction l generalizing n wanted v p with
  | nil => exact absurd rfl hne
  | cons b t ih =>
    have hb := h b (by simp)
    have ht : Digs t := fun x hx => h x (by simp [hx])
    rw [List.cons_append, scan, if_pos (show 48 ≤ b.toNat ∧ b.toNat ≤ 57 from hb)]
    by_cases h0 : t = []
    · subst h0; cases point <;> simp [valF]
    · rw [ih ht h0, List.length_cons, valF_cons]
      cases point <;> simp <;> congr 1 <;> omega

/-- The text of a number. -/
def pointed (row : List UInt8) (k : Nat) : List UInt8 :=
  (List.replicate (k + 1 - row.length) 48 ++ row).take ((List.replicate (k + 1 - row.length) 48 ++ row).length - k) ++ [46] ++ (List.replicate (k + 1 - row.length) 48 ++ row).drop ((List.replicate (k + 1 - row.length) 48 ++ row).length - k)
def sized (c : Nat) (e : Int) : List UInt8 := if e < 0 then pointed (Lib.decDigits c) (-e).toNat else Lib.decDigits c ++ List.replicate e.toNat 48
def text (d : D) : List UInt8 := (if d.neg then [45] else []) ++ sized d.c d.e

/-- Digits, and, or not, a point and digits. -/
theorem scan_whole {l : List UInt8} (h : Digs l) (hne : l ≠ []) (n : Nat) (below : Bool) : scan n below false true 0 0 l = .ok below (val l) 0 := by
  have := scan_digs h hne n below false true 0 0 []
  rw [List.append_nil] at this
  rw [this]; simp [scan, val]
theorem scan_point {a b : List UInt8} (ha : Digs a) (hna : a ≠ []) (hb : Digs b) (hnb : b ≠ []) (n : Nat) (below : Bool) :
    scan n below false true 0 0 (a ++ [46] ++ b) = .ok below (val (a ++ b)) b.length := by
  rw [List.append_assoc, scan_digs ha hna]
  simp only [List.cons_append, List.nil_append, scan]
  rw [if_neg (by decide), if_pos (by simp)]
  have := scan_digs hb hnb (n + a.length + 1) below true true (valF 0 a) 0 []
  rw [List.append_nil] at this
  simp only [Bool.false_eq_true, ite_false]
  rw [this]; simp [scan, val, valF_append]

/-- How sized numbers are gone through, with zeros ahead and behind. -/
theorem sized_split (c : Nat) (e : Int) : (0 ≤ e → Digs (sized c e) ∧ sized c e ≠ [] ∧ val (sized c e) = c * 10 ^ e.toNat) ∧
    (e < 0 → ∃ a b, sized c e = a ++ [46] ++ b ∧ Digs a ∧ a ≠ [] ∧ Digs b ∧ b.length = (-e).toNat ∧ val (a ++ b) = c) := by
  obtain ⟨hv, hd⟩ := val_decDigits c
  constructor
  · intro he
    unfold sized
    rw [if_neg (by omega)]
    refine ⟨hd.append (digs_zeros _), fun h => decDigits_ne c (List.append_eq_nil_iff.1 h).1, by rw [val_zeros_behind, hv]⟩
  · intro he
    obtain ⟨k, hk⟩ : ∃ k : Nat, (-e).toNat = k := ⟨_, rfl⟩
    unfold sized pointed
    rw [if_pos he, hk]
    obtain ⟨row, hrow⟩ : ∃ row, List.replicate (k + 1 - (Lib.decDigits c).length) 48 ++ Lib.decDigits c = row := ⟨_, rfl⟩
    have hlen : k + 1 ≤ row.length := by rw [← hrow]; simp; omega
    have hval : val row = c := by rw [← hrow, val_zeros_ahead, hv]
    have hdig : Digs row := by rw [← hrow]; exact (digs_zeros _).append hd
    rw [hrow]
    refine ⟨row.take (row.length - k), row.drop (row.length - k), rfl, ?_, ?_, ?_, ?_, ?_⟩
    · intro x hx; exact hdig x (List.mem_of_mem_take hx)
    · intro h; have := congrArg List.length h; simp at this; omega
    · intro x hx; exact hdig x (List.mem_of_mem_drop hx)
    · simp; omega
    · rw [List.take_append_drop, hval]
end Go.Proofs.YtdliookdmgilgaaGreatDoor.Dc

/-
  Digits of one length are in the order of their numbers. Nothing of the program.
-/
namespace Go.Proofs.YtdliookdmgilgaaGreatDoor

theorem less_val : ∀ {a b : List UInt8}, Digs a → Digs b → a.length = b.length → Op.bytesLess a b = decide (val a < val b)
  | [], [], _, _, _ => by simp [Op.bytesLess]
  | x :: a, y :: b, ha, hb, hl => by
    have hx := ha x (by simp)
    have hy := hb y (by simp)
    have ha' : Digs a := fun z hz => ha z (by simp [hz])
    have hb' : Digs b := fun z hz => hb z (by simp [hz])
    have hl' : a.length = b.length := by simpa using hl
    have l1 := val_lt ha'
    have l2 := val_lt hb'
    rw [hl'] at l1
    unfold Dig at hx hy
    have hp : 0 < 10 ^ b.length := Nat.pos_of_ne_zero (by simp)
    rw [Op.bytesLess, less_val ha' hb' hl', val_cons, val_cons, hl']
    generalize 10 ^ b.length = p at *
    rcases Nat.lt_trichotomy x.toNat y.toNat with h | h | h
    · have h1 : decide (x < y) = true := by simpa [UInt8.lt_iff_toNat_lt] using h
      have h2 : (x.toNat - 48 + 1) * p ≤ (y.toNat - 48) * p := Nat.mul_le_mul_right _ (by omega)
      rw [Nat.add_mul, Nat.one_mul] at h2
      rw [h1]
      simp
      omega
    · obtain rfl : x = y := UInt8.toNat_inj.1 h
      simp
    · have h1 : decide (x < y) = false := by simp [UInt8.lt_iff_toNat_lt]; omega
      have h3 : (x == y) = false := by
        have : x ≠ y := fun e => by rw [e] at h; omega
        simp [this]
      have h2 : (y.toNat - 48 + 1) * p ≤ (x.toNat - 48) * p := Nat.mul_le_mul_right _ (by omega)
      rw [Nat.add_mul, Nat.one_mul] at h2
      rw [h1, h3]
      simp
      omega
end Go.Proofs.YtdliookdmgilgaaGreatDoor

/-
  How the document's Make goes by digits: the same numbers. Nothing of the program.
-/
namespace Go.Proofs.YtdliookdmgilgaaGreatDoor.Dc

/-- The zeros ahead are taken off. -/
def bare : List UInt8 → List UInt8
  | [] => []
  | b :: r => if b.toNat = 48 then bare r else b :: r
theorem bare_cons (b : UInt8) (r : List UInt8) : bare (b :: r) = if b.toNat = 48 then bare r else b :: r := rfl
theorem val_bare (l : List UInt8) : val (bare l) = val l := by
  induction l with
  | nil => rfl
  | cons b r ih =>
    rw [bare_cons]
    split
    · rename_i h; rw [ih, val_cons, h]; simp
    · rfl
theorem bare_digs {l : List UInt8} (h : Digs l) : Digs (bare l) := by
  induction l with
  | nil => exact h
  | cons b r ih =>
    rw [bare_cons]
    split
    · exact ih fun x hx => h x (by simp [hx])
    · exact h
theorem bare_length (l : List UInt8) : (bare l).length ≤ l.length := by
  induction l with
  | nil => exact Nat.le_refl _
  | cons b r ih => rw [bare_cons]; split <;> simp <;> omega
theorem bare_head (l : List UInt8) : bare l = [] ∨ ∃ b r, bare l = b :: r ∧ b.toNat ≠ 48 := by
  induction l with
  | nil => exact Or.inl rfl
  | cons b r ih =>
    rw [bare_cons]
    split
    · exact ih
    · rename_i h; exact Or.inr ⟨b, r, rfl, h⟩
/-- Digits of which the first one is not 0. -/
def Lead (l : List UInt8) : Prop := Digs l ∧ ∃ b r, l = b :: r ∧ b.toNat ≠ 48
theorem Lead.pos {l : List UInt8} (h : Lead l) : val l ≠ 0 := by
  obtain ⟨hd, b, r, rfl, hb⟩ := h
  have := val_ge (r := r) (hd b (by simp)) hb
  have hp : 0 < 10 ^ r.length := Nat.pos_of_ne_zero (by simp)
  omega
theorem Lead.ne {l : List UInt8} (h : Lead l) : l ≠ [] := by obtain ⟨_, b, r, rfl, _⟩ := h; simp
theorem Lead.snoc {l : List UInt8} (h : Lead l) : Lead (l ++ [48]) := by
  obtain ⟨hd, b, r, rfl, hb⟩ := h
  exact ⟨hd.append (digs_zeros 1), b, r ++ [48], rfl, hb⟩
/-- The last digit. -/
theorem Lead.last {l : List UInt8} (h : Lead l) : ∃ a x, l = a ++ [x] ∧ Dig x := by
  have hne := h.ne
  refine ⟨l.dropLast, l.getLast hne, (List.dropLast_concat_getLast hne).symm, h.1 _ (List.getLast_mem hne)⟩
theorem Lead.cut {a : List UInt8} (h : Lead (a ++ [48])) : Lead a := by
  obtain ⟨hd, b, r, hl, hb⟩ := h
  refine ⟨hd.left, ?_⟩
  cases a with
  | nil =>
    injection hl with h1 h2
    rw [← h1] at hb
    exact absurd rfl hb
  | cons c t =>
    injection hl with h1 h2
    exact ⟨c, t, rfl, by rw [h1]; exact hb⟩
theorem val_last {a : List UInt8} {x : UInt8} (hx : Dig x) : val (a ++ [x]) % 10 = 0 ↔ x.toNat = 48 := by
  rw [val_snoc]; unfold Dig at hx; omega

/-- Digits that fit. -/
def most : List UInt8 := [49, 56, 52, 52, 54, 55, 52, 52, 48, 55, 51, 55, 48, 57, 53, 53, 49, 54, 49, 53]
theorem most_digs : Digs most ∧ most.length = 20 ∧ val most = 18446744073709551615 := by
  refine ⟨?_, rfl, by decide⟩
  intro x hx
  have key : ∀ y ∈ most, 48 ≤ y.toNat ∧ y.toNat ≤ 57 := by decide
  exact key x hx
/-- Fits tells whether there is room. -/
def fitsL (l : List UInt8) : Bool := decide (l.length < 20) || (l.length == 20 && (Op.bytesLess l most || l == most))
theorem fits_is {l : List UInt8} (h : Lead l) : fitsL l = decide (val l < Two64) := by
  obtain ⟨hm, hml, hmv⟩ := most_digs
  have hlt := val_lt h.1
  have hge : 10 ^ (l.length - 1) ≤ val l := by
    obtain ⟨hd, b, r, rfl, hb⟩ := h
    exact val_ge (r := r) (hd b (by simp)) hb
  unfold fitsL
  rcases Nat.lt_trichotomy l.length 20 with hl | hl | hl
  · have h1 : 10 ^ l.length ≤ 10 ^ 19 := Nat.pow_le_pow_right (by decide) (by omega)
    have h2 := ten_two64
    simp [hl]
    omega
  · have he : (l == most) = decide (val l = val most) := by
      by_cases hv : val l = val most
      · rw [val_inj h.1 hm (by omega) hv]; simp
      · have : l ≠ most := fun e => hv (by rw [e])
        simp [this, hv]
    rw [less_val h.1 hm (by omega), he, hmv, hl]
    unfold Two64
    simp
    by_cases hv : val l < 18446744073709551616
    · simp [hv]; omega
    · simp [hv]; omega
  · have h1 : 10 ^ 20 ≤ 10 ^ (l.length - 1) := Nat.pow_le_pow_right (by decide) (by omega)
    have h2 := two64_ten
    have e1 : decide (l.length < 20) = false := by simp; omega
    have e2 : (l.length == 20) = false := by simp; omega
    rw [e1, e2]
    simp
    omega
end Go.Proofs.YtdliookdmgilgaaGreatDoor.Dc
