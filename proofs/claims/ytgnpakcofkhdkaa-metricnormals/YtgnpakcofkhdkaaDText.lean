/-
  How a text is gone through, and the text of a number, as plain functions. Nothing of the program.
-/
import Derived.Test.YtgnpakcofkhdkaaDMath
namespace Go.Proofs.Ytgnpakcofkhdkaa.Dc

/-! A text is gone through. -/
inductive Scan where
  | bad (code : Int) (at_ : Nat)
  | ok (below : Bool) (v p : Nat)

def scan (n : Nat) (below point wanted : Bool) (v p : Nat) : List UInt8 → Scan
  | [] => if wanted then .bad 11 n else .ok below v p
  | b :: r =>
    if 48 ≤ b.toNat ∧ b.toNat ≤ 57 then scan (n + 1) below point false (10 * v + (b.toNat - 48)) (if point then p + 1 else p) r
    else if b.toNat = 46 ∧ wanted = false ∧ point = false then scan (n + 1) below true true v p r
    else if b.toNat = 45 ∧ n = 0 then scan (n + 1) true point wanted v p r
    else .bad 14 n

def told : Scan → D × Int × Int
  | .bad code n => (D0, code, n)
  | .ok below v p => match norm v (-(p : Int)) with
    | none => (D0, 10, 0)
    | some q => (mkD below q, 0, 0)
def parse (l : List UInt8) : D × Int × Int := told (scan 0 false false true 0 0 l)

theorem scan_digs {l : List UInt8} (h : Digs l) (hne : l ≠ []) (n : Nat) (below point wanted : Bool) (v p : Nat) (r : List UInt8) :
    scan n below point wanted v p (l ++ r) = scan (n + l.length) below point false (valF v l) (if point then p + l.length else p) r := by
  induction l generalizing n wanted v p with
  | nil => exact absurd rfl hne
  | cons b t ih =>
    have hb := h b (by simp)
    have ht : Digs t := fun x hx => h x (by simp [hx])
    rw [List.cons_append, scan, if_pos (show 48 ≤ b.toNat ∧ b.toNat ≤ 57 from hb)]
    by_cases h0 : t = []
    · subst h0; cases point <;> simp [valF]
    · rw [ih ht h0, List.length_cons, valF_cons]
      cases point <;> simp <;> congr 1 <;> omega

/-- The text of a number. -/
def pointed (row : List UInt8) (k : Nat) : List UInt8 :=
  (List.replicate (k + 1 - row.length) 48 ++ row).take ((List.replicate (k + 1 - row.length) 48 ++ row).length - k) ++ [46] ++ (List.replicate (k + 1 - row.length) 48 ++ row).drop ((List.replicate (k + 1 - row.length) 48 ++ row).length - k)
def sized (c : Nat) (e : Int) : List UInt8 := if e < 0 then pointed (Lib.decDigits c) (-e).toNat else Lib.decDigits c ++ List.replicate e.toNat 48
def text (d : D) : List UInt8 := (if d.neg then [45] else []) ++ sized d.c d.e

/-- Digits, and, or not, a point and digits. -/
theorem scan_whole {l : List UInt8} (h : Digs l) (hne : l ≠ []) (n : Nat) (below : Bool) : scan n below false true 0 0 l = .ok below (val l) 0 := by
  have := scan_digs h hne n below false true 0 0 []
  rw [List.append_nil] at this
  rw [this]; simp [scan, val]
theorem scan_point {a b : List UInt8} (ha : Digs a) (hna : a ≠ []) (hb : Digs b) (hnb : b ≠ []) (n : Nat) (below : Bool) :
    scan n below false true 0 0 (a ++ [46] ++ b) = .ok below (val (a ++ b)) b.length := by
  rw [List.append_assoc, scan_digs ha hna]
  simp only [List.cons_append, List.nil_append, scan]
  rw [if_neg (by decide), if_pos (by simp)]
  have := scan_digs hb hnb (n + a.length + 1) below true true (valF 0 a) 0 []
  rw [List.append_nil] at this
  simp only [Bool.false_eq_true, ite_false]
  rw [this]; simp [scan, val, valF_append]

/-- How sized numbers are gone through, with zeros ahead and behind. -/
theorem sized_split (c : Nat) (e : Int) : (0 ≤ e → Digs (sized c e) ∧ sized c e ≠ [] ∧ val (sized c e) = c * 10 ^ e.toNat) ∧
    (e < 0 → ∃ a b, sized c e = a ++ [46] ++ b ∧ Digs a ∧ a ≠ [] ∧ Digs b ∧ b.length = (-e).toNat ∧ val (a ++ b) = c) := by
  obtain ⟨hv, hd⟩ := val_decDigits c
  constructor
  · intro he
    unfold sized
    rw [if_neg (by omega)]
    refine ⟨hd.append (digs_zeros _), fun h => decDigits_ne c (List.append_eq_nil_iff.1 h).1, by rw [val_zeros_behind, hv]⟩
  · intro he
    obtain ⟨k, hk⟩ : ∃ k : Nat, (-e).toNat = k := ⟨_, rfl⟩
    unfold sized pointed
    rw [if_pos he, hk]
    obtain ⟨row, hrow⟩ : ∃ row, List.replicate (k + 1 - (Lib.decDigits c).length) 48 ++ Lib.decDigits c = row := ⟨_, rfl⟩
    have hlen : k + 1 ≤ row.length := by rw [← hrow]; simp; omega
    have hval : val row = c := by rw [← hrow, val_zeros_ahead, hv]
    have hdig : Digs row := by rw [← hrow]; exact (digs_zeros _).append hd
    rw [hrow]
    refine ⟨row.take (row.length - k), row.drop (row.length - k), rfl, ?_, ?_, ?_, ?_, ?_⟩
    · intro x hx; exact hdig x (List.mem_of_mem_take hx)
    · intro h; have := congrArg List.length h; simp at this; omega
    · intro x hx; exact hdig x (List.mem_of_mem_drop hx)
    · simp; omega
    · rw [List.take_append_drop, hval]
end Go.Proofs.Ytgnpakcofkhdkaa.Dc
