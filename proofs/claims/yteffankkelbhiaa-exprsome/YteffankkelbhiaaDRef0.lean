/-
  DStr, DText, DigLess, DRefMath, DRefMake, DRefDigits. No statement of the seat is proved here.
-/
import Derived.Test.YteffankkelbhiaaShelf
import Derived.Test.YteffankkelbhiaaKStr
import Derived.Test.YteffankkelbhiaaDn0
import GoSem.Op.String
import Derived.Lib.QuietBelow
/-
  Strings of our own, beside the shelf. No statement of the seat is proved here.
-/

/-
  How a text is gone through, and the text of a number, as plain functions. Nothing of the program.
-/
namespace Go.Proofs.Yteffankkelbhiaa.Dc

/-! A text is gone through. -/
inductive Scan where
  | bad (code : Int) (at_ : Nat)
  | ok (below : Bool) (v p : Nat)

def scan (n : Nat) (below point wanted : Bool) (v p : Nat) : List UInt8 → Scan
  | [] => if wanted then .bad 11 n else .ok below v p
  | b :: r =>
    if 48 ≤ b.toNat ∧ b.toNat ≤ 57 then scan (n + 1) below point false (10 * v + (b.toNat - 48)) (if point then p + 1 else p) r
    else if b.toNat = 46 ∧ wanted = false ∧ point = false then scan (n + 1) below true true v p r
    else if b.toNat = 45 ∧ n = 0 then scan (n + 1) true point wanted v p r
    else .bad 14 n

def told : Scan → D × Int × Int
  | .bad code n => (D0, code, n)
  | .ok below v p => match norm v (-(p : Int)) with
    | none => (D0, 10, 0)
    | some q => (mkD below q, 0, 0)
def parse (l : List UInt8) : D × Int × Int := told (scan 0 false false true 0 0 l)

theorem scan_digs {l : List UInt8} (h : Digs l) (hne : l ≠ []) (n : Nat) (below point wanted : Bool) (v p : Nat) (r : List UInt8) :
    scan n below point wanted v p (l ++ r) = scan (n + l.length) below point false (valF v l) (if point then p + l.length else p) r := by
  induction l generalizing n wanted v p with
  | nil => exact absurd rfl hne
  | cons b t ih =>
    have hb := h b (by simp)
    have ht : Digs t := fun x hx => h x (by simp [hx])
    rw [List.cons_append, scan, if_pos (show 48 ≤ b.toNat ∧ b.toNat ≤ 57 from hb)]
    by_cases h0 : t = []
    · subst h0; cases point <;> simp [valF]
    · rw [ih ht h0, List.length_cons, valF_cons]
      cases point <;> simp <;> congr 1 <;> omega

/-- The text of a number. -/
def pointed (row : List UInt8) (k : Nat) : List UInt8 :=
  (List.replicate (k + 1 - row.length) 48 ++ row).take ((List.replicate (k + 1 - row.length) 48 ++ row).length - k) ++ [46] ++ (List.replicate (k + 1 - row.length) 48 ++ row).drop ((List.replicate (k + 1 - row.length) 48 ++ row).length - k)
def sized (c : Nat) (e : Int) : List UInt8 := if e < 0 then pointed (Lib.decDigits c) (-e).toNat else Lib.decDigits c ++ List.replicate e.toNat 48
def text (d : D) : List UInt8 := (if d.neg then [45] else []) ++ sized d.c d.e

/-- Digits, and, or not, a point and digits. -/
theorem scan_whole {l : List UInt8} (h : Digs l) (hne : l ≠ []) (n : Nat) (below : Bool) : scan n below false true 0 0 l = .ok below (val l) 0 := by
  have := scan_digs h hne n below false true 0 0 []
  rw [List.append_nil] at this
  rw [this]; simp [scan, val]
theorem scan_point {a b : List UInt8} (ha : Digs a) (hna : a ≠ []) (hb : Digs b) (hnb : b ≠ []) (n : Nat) (below : Bool) :
    scan n below false true 0 0 (a ++ [46] ++ b) = .ok below (val (a ++ b)) b.length := by
  rw [List.append_assoc, scan_digs ha hna]
  simp only [List.cons_append, List.nil_append, scan]
  rw [if_neg (by decide), if_pos (by simp)]
  have := scan_digs hb hnb (n + a.length + 1) below true true (valF 0 a) 0 []
  rw [List.append_nil] at this
  simp only [Bool.false_eq_true, ite_false]
  rw [this]; simp [scan, val, valF_append]

/-- How sized numbers are gone through, with zeros ahead and behind. -/
theorem sized_split (c : Nat) (e : Int) : (0 ≤ e → Digs (sized c e) ∧ sized c e ≠ [] ∧ val (sized c e) = c * 10 ^ e.toNat) ∧
    (e < 0 → ∃ a b, sized c e = a ++ [46] ++ b ∧ Digs a ∧ a ≠ [] ∧ Digs b ∧ b.length = (-e).toNat ∧ val (a ++ b) = c) := by
  obtain ⟨hv, hd⟩ := val_decDigits c
  constructor
  · intro he
    unfold sized
    rw [if_neg (by omega)]
    refine ⟨hd.append (digs_zeros _), fun h => decDigits_ne c (List.append_eq_nil_iff.1 h).1, by rw [val_zeros_behind, hv]⟩
  · intro he
    obtain ⟨k, hk⟩ : ∃ k : Nat, (-e).toNat = k := ⟨_, rfl⟩
    unfold sized pointed
    rw [if_pos he, hk]
    obtain ⟨row, hrow⟩ : ∃ row, List.replicate (k + 1 - (Lib.decDigits c).length) 48 ++ Lib.decDigits c = row := ⟨_, rfl⟩
    have hlen : k + 1 ≤ row.length := by rw [← hrow]; simp; omega
    have hval : val row = c := by rw [← hrow, val_zeros_ahead, hv]
    have hdig : Digs row := by rw [← hrow]; exact (digs_zeros _).append hd
    rw [hrow]
    refine ⟨row.take (row.length - k), row.drop (row.length - k), rfl, ?_, ?_, ?_, ?_, ?_⟩
    · intro x hx; exact hdig x (List.mem_of_mem_take hx)
    · intro h; have := congrArg List.length h; simp at this; omega
    · intro x hx; exact hdig x (List.mem_of_mem_drop hx)
    · simp; omega
    · rw [List.take_append_drop, hval]
end Go.Proofs.Yteffankkelbhiaa.Dc

/-
  Digits of one length are in the order of their numbers. Nothing of the program.
-/
namespace Go.Proofs.Yteffankkelbhiaa.Dc

theorem less_val : ∀ {a b : List UInt8}, Digs a → Digs b → a.length = b.length → Op.bytesLess a b = decide (val a < val b)
  | [], [], _, _, _ => by simp [Op.bytesLess]
  | x :: a, y :: b, ha, hb, hl => by
    have hx := ha x (by simp)
    have hy := hb y (by simp)
    have ha' : Digs a := fun z hz => ha z (by simp [hz])
    have hb' : Digs b := fun z hz => hb z (by simp [hz])
    have hl' : a.length = b.length := by simpa using hl
    have l1 := val_lt ha'
    have l2 := val_lt hb'
    rw [hl'] at l1
    unfold Dig at hx hy
    have hp : 0 < 10 ^ b.length := Nat.pos_of_ne_zero (by simp)
    rw [Op.bytesLess, less_val ha' hb' hl', val_cons, val_cons, hl']
    generalize 10 ^ b.length = p at *
    rcases Nat.lt_trichotomy x.toNat y.toNat with h | h | h
    · have h1 : decide (x < y) = true := by simpa [UInt8.lt_iff_toNat_lt] using h
      have h2 : (x.toNat - 48 + 1) * p ≤ (y.toNat - 48) * p := Nat.mul_le_mul_right _ (by omega)
      rw [Nat.add_mul, Nat.one_mul] at h2
      rw [h1]
      simp
      omega
    · obtain rfl : x = y := UInt8.toNat_inj.1 h
      simp
    · have h1 : decide (x < y) = false := by simp [UInt8.lt_iff_toNat_lt]; omega
      have h3 : (x == y) = false := by
        have : x ≠ y := fun e => by rw [e] at h; omega
        simp [this]
      have h2 : (y.toNat - 48 + 1) * p ≤ (x.toNat - 48) * p := Nat.mul_le_mul_right _ (by omega)
      rw [Nat.add_mul, Nat.one_mul] at h2
      rw [h1, h3]
      simp
      omega
end Go.Proofs.Yteffankkelbhiaa.Dc

/-
  How the document's Make goes by digits: the same numbers. Nothing of the program.
-/
namespace Go.Proofs.Yteffankkelbhiaa.Dc

/-- The zeros ahead are taken off. -/
def bare : List UInt8 → List UInt8
  | [] => []
  | b :: r => if b.toNat = 48 then bare r else b :: r
theorem bare_cons (b : UInt8) (r : List UInt8) : bare (b :: r) = if b.toNat = 48 then bare r else b :: r := rfl
theorem val_bare (l : List UInt8) : val (bare l) = val l := by
  induction l with
  | nil => rfl
  | cons b r ih =>
    rw [bare_cons]
    split
    · rename_i h; rw [ih, val_cons, h]; simp
    · rfl
theorem bare_digs {l : List UInt8} (h : Digs l) : Digs (bare l) := by
  induction l with
  | nil => exact h
  | cons b r ih =>
    rw [bare_cons]
    split
    · exact ih fun x hx => h x (by simp [hx])
    · exact h
theorem bare_length (l : List UInt8) : (bare l).length ≤ l.length := by
  induction l with
  | nil => exact Nat.le_refl _
  | cons b r ih => rw [bare_cons]; split <;> simp <;> omega
theorem bare_head (l : List UInt8) : bare l = [] ∨ ∃ b r, bare l = b :: r ∧ b.toNat ≠ 48 := by
  induction l with
  | nil => exact Or.inl rfl
  | cons b r ih =>
    rw [bare_cons]
    split
    · exact ih
    · rename_i h; exact Or.inr ⟨b, r, rfl, h⟩
/-- Digits of which the first one is not 0. -/
def Lead (l : List UInt8) : Prop := Digs l ∧ ∃ b r, l = b :: r ∧ b.toNat ≠ 48
theorem Lead.pos {l : List UInt8} (h : Lead l) : val l ≠ 0 := by
  obtain ⟨hd, b, r, rfl, hb⟩ := h
  have := val_ge (r := r) (hd b (by simp)) hb
  have hp : 0 < 10 ^ r.length := Nat.pos_of_ne_zero (by simp)
  omega
theorem Lead.ne {l : List UInt8} (h : Lead l) : l ≠ [] := by obtain ⟨_, b, r, rfl, _⟩ := h; simp
theorem Lead.snoc {l : List UInt8} (h : Lead l) : Lead (l ++ [48]) := by
  obtain ⟨hd, b, r, rfl, hb⟩ := h
  exact ⟨hd.append (digs_zeros 1), b, r ++ [48], rfl, hb⟩
/-- The last digit. -/
theorem Lead.last {l : List UInt8} (h : Lead l) : ∃ a x, l = a ++ [x] ∧ Dig x := by
  have hne := h.ne
  refine ⟨l.dropLast, l.getLast hne, (List.dropLast_concat_getLast hne).symm, h.1 _ (List.getLast_mem hne)⟩
theorem Lead.cut {a : List UInt8} (h : Lead (a ++ [48])) : Lead a := by
  obtain ⟨hd, b, r, hl, hb⟩ := h
  refine ⟨hd.left, ?_⟩
  cases a with
  | nil =>
    injection hl with h1 h2
    rw [← h1] at hb
    exact absurd rfl hb
  | cons c t =>
    injection hl with h1 h2
    exact ⟨c, t, rfl, by rw [h1]; exact hb⟩
theorem val_last {a : List UInt8} {x : UInt8} (hx : Dig x) : val (a ++ [x]) % 10 = 0 ↔ x.toNat = 48 := by
  rw [val_snoc]; unfold Dig at hx; omega

/-- Digits that fit. -/
def most : List UInt8 := [49, 56, 52, 52, 54, 55, 52, 52, 48, 55, 51, 55, 48, 57, 53, 53, 49, 54, 49, 53]
theorem most_digs : Digs most ∧ most.length = 20 ∧ val most = 18446744073709551615 := by
  refine ⟨?_, rfl, by decide⟩
  intro x hx
  have key : ∀ y ∈ most, 48 ≤ y.toNat ∧ y.toNat ≤ 57 := by decide
  exact key x hx
/-- Fits tells whether there is room. -/
def fitsL (l : List UInt8) : Bool := decide (l.length < 20) || (l.length == 20 && (Op.bytesLess l most || l == most))
theorem fits_is {l : List UInt8} (h : Lead l) : fitsL l = decide (val l < Two64) := by
  obtain ⟨hm, hml, hmv⟩ := most_digs
  have hlt := val_lt h.1
  have hge : 10 ^ (l.length - 1) ≤ val l := by
    obtain ⟨hd, b, r, rfl, hb⟩ := h
    exact val_ge (r := r) (hd b (by simp)) hb
  unfold fitsL
  rcases Nat.lt_trichotomy l.length 20 with hl | hl | hl
  · have h1 : 10 ^ l.length ≤ 10 ^ 19 := Nat.pow_le_pow_right (by decide) (by omega)
    have h2 := ten_two64
    simp [hl]
    omega
  · have he : (l == most) = decide (val l = val most) := by
      by_cases hv : val l = val most
      · rw [val_inj h.1 hm (by omega) hv]; simp
      · have : l ≠ most := fun e => hv (by rw [e])
        simp [this, hv]
    rw [less_val h.1 hm (by omega), he, hmv, hl]
    unfold Two64
    simp
    by_cases hv : val l < 18446744073709551616
    · simp [hv]; omega
    · simp [hv]; omega
  · have h1 : 10 ^ 20 ≤ 10 ^ (l.length - 1) := Nat.pow_le_pow_right (by decide) (by omega)
    have h2 := two64_ten
    have e1 : decide (l.length < 20) = false := by simp; omega
    have e2 : (l.length == 20) = false := by simp; omega
    rw [e1, e2]
    simp
    omega
end Go.Proofs.Yteffankkelbhiaa.Dc

/-
  Contracts of the document's Fits, Value and Make. No statement of the seat is proved here.
-/
namespace Go.Proofs.Yteffankkelbhiaa.Dc
open Go.RowKit

set_option maxRecDepth 100000 in
theorem fits_calls (s : ByteArray) (l : List UInt8) (hs : Str s l) (hl : l.length ≤ 5000) (w : World) : Calls Try.prog 61 #[.string s] w fun e w' => e = .returned (.bool (fitsL l)) ∧ w = w' := by
  have hz := hs.size
  have htl := hs.toList
  have hmo : (⟨#[49, 56, 52, 52, 54, 55, 52, 52, 48, 55, 51, 55, 48, 57, 53, 53, 49, 54, 49, 53]⟩ : ByteArray).toList = most := (show Str ⟨#[49, 56, 52, 52, 54, 55, 52, 52, 48, 55, 51, 55, 48, 57, 53, 53, 49, 54, 49, 53]⟩ most from rfl).toList
  rcases Nat.lt_trichotomy l.length 20 with h | h | h
  · have h1 : (s.size : Int) < 20 := by omega
    have hf : fitsL l = true := by unfold fitsL; simp [h]
    rw [hf]
    clear hs hz hf
    go_enter Try.func61, Try.ntmps61
    go_wp2_with fail
    go_ret
    exact ⟨rfl, rfl⟩
  · have h1 : ¬ (s.size : Int) < 20 := by omega
    have h2 : ((s.size : Int) == 20) = true := by simp; omega
    have hf : fitsL l = (Op.bytesLess l most || l == most) := by unfold fitsL; simp [h]
    rw [hf]
    have HTL := Lib.hid (And.intro htl hmo)
    clear hs hz hf htl hmo
    go_enter Try.func61, Try.ntmps61
    go_wp2_with fail
    go_ret
    refine ⟨?_, rfl⟩
    refine congrArg (fun z => Ending.returned (Value.bool z)) (show _ = (Op.bytesLess l most || l == most) from ?_)
    rw [← HTL.out.1, ← HTL.out.2]
    first | rfl | simp
  · have h1 : ¬ (s.size : Int) < 20 := by omega
    have h2 : ((s.size : Int) == 20) = false := by simp; omega
    have hf : fitsL l = false := by
      unfold fitsL
      have e1 : decide (l.length < 20) = false := by simp; omega
      have e2 : (l.length == 20) = false := by simp; omega
      rw [e1, e2]; rfl
    rw [hf]
    clear hs hz hf
    go_enter Try.func61, Try.ntmps61
    go_wp2_with fail
    go_ret
    exact ⟨rfl, rfl⟩

theorem val_take_le (l : List UInt8) (i : Nat) : val (l.take i) ≤ val l := by
  have h := val_append (l.take i) (l.drop i)
  rw [List.take_append_drop] at h
  have : val (l.take i) * 1 ≤ val (l.take i) * 10 ^ (l.drop i).length := Nat.mul_le_mul_left _ (Nat.pos_of_ne_zero (by simp))
  omega
theorem val_take_succ (l : List UInt8) (i : Nat) (h : i < l.length) : val (l.take (i + 1)) = 10 * val (l.take i) + (l[i].toNat - 48) := by
  rw [List.take_succ_eq_append_getElem h, val_snoc]

set_option maxRecDepth 100000 in
set_option maxHeartbeats 2000000 in
theorem value_calls (s : ByteArray) (l : List UInt8) (hs : Str s l) (hd : Digs l) (hv : val l < Two64) (hl : l.length ≤ 5000) (w : World) : Calls Try.prog 62 #[.string s] w fun e w' => e = .returned (.int .u64 (val l : Nat)) ∧ w = w' := by
  have hz := hs.size
  have HS := Lib.hid hs
  have HD := Lib.hid hd
  have HV := Lib.hid hv
  have HZ := Lib.hid hz
  have hsz : (s.size : Int) ≤ 5000 := by omega
  clear hs hd hv hz
  go_enter Try.func62, Try.ntmps62
  go_wp2_with fail
  go_loopw [3, 4] (fun v3 v4 wr => ∃ (a : Int) (i : Nat), v3 = .int .u64 a ∧ v4 = .int .i64 i ∧ i ≤ l.length ∧ w = wr ∧ Hid (a = ((val (l.take i) : Nat) : Int))) (fun _ v4 _ => l.length - (intOf v4).toNat)
  case atStart => exact ⟨0, 0, rfl, rfl, by omega, rfl, rfl⟩
  case round =>
    obtain ⟨a, i, rfl, rfl, hi, rfl, ha⟩ := hrel
    have hi5 : (i : Int) ≤ 5000 := by omega
    by_cases hlt : i < l.length
    · have hlt' : (i : Int) < (s.size : Int) := by have := HZ.out; omega
      have hidx := HS.out.index (i := (i : Int)) i rfl hlt
      have hdig := HD.out l[i] (List.getElem_mem hlt)
      have hsucc := val_take_succ l i hlt
      have hle := val_take_le l (i + 1)
      have hv := HV.out
      have hae := ha.out
      generalize l[i] = b at hidx hdig hsucc
      obtain ⟨z, hzb⟩ : ∃ z : Int, z = (b.toNat : Int) := ⟨_, rfl⟩
      rw [← hzb] at hidx
      unfold Dig at hdig
      unfold Two64 at hv
      have hsub : IntKind.u8.wrap (z - 48) = z - 48 := by rw [IntKind.wrap_u8']; omega
      have hmul : IntKind.u64.wrap (10 * a) = 10 * a := by rw [IntKind.wrap_u64]; omega
      have hadd : IntKind.u64.wrap (10 * a + (z - 48)) = 10 * a + (z - 48) := by rw [IntKind.wrap_u64]; omega
      have hz48 : 48 ≤ z ∧ z ≤ 57 := by omega
      have HN := Lib.hid (show 10 * a + (z - 48) = ((val (l.take (i + 1)) : Nat) : Int) by omega)
      clear hzb hdig hsucc hle hv hae ha
      go_wp2_with fail
      refine ⟨⟨10 * a + (z - 48), i + 1, ?_, by go_num, by omega, by trivial, HN.out⟩, by simp [intOf]; omega⟩
      first | rfl | (rw [hmul, hadd]) | (simp [hmul, hadd])
    · have hlt' : ¬ (i : Int) < (s.size : Int) := by have := HZ.out; omega
      have he : a = ((val l : Nat) : Int) := by rw [ha.out, List.take_of_length_le (by omega)]
      have HE := Lib.hid he
      clear he ha
      go_wp2_with fail
      go_ret
      exact ⟨by rw [← HE.out]; rfl, rfl⟩

theorem norm_stripped {c : Nat} {e : Int} (h0 : c ≠ 0) (he : e ≤ 18) (hs : e = 18 ∨ c % 10 ≠ 0) : norm c e = if e < -18 then none else if c < Two64 then some (c, e) else none := by
  have hst : strip c e = (c, e) := strip_stay (by omega)
  unfold norm
  rw [if_neg h0, hst]
  simp only []
  by_cases hlo : e < -18
  · rw [if_pos hlo, if_pos hlo]
  · rw [if_neg hlo, if_neg hlo]
    by_cases h18 : 18 ≤ e
    · obtain rfl : e = 18 := by omega
      rw [if_pos h18]; simp
    · rw [if_neg h18]
theorem norm_over {c : Nat} {e : Int} (h0 : c ≠ 0) (he : 1000 < e) : norm c e = none := by
  have hst : strip c e = (c, e) := strip_stay (by omega)
  unfold norm
  rw [if_neg h0, hst]
  simp only []
  rw [if_neg (by omega), if_pos (by omega), if_neg]
  have h1 : 10 ^ 20 ≤ 10 ^ (e - 18).toNat := Nat.pow_le_pow_right (by decide) (by omega)
  have h2 : 1 * 10 ^ (e - 18).toNat ≤ c * 10 ^ (e - 18).toNat := Nat.mul_le_mul_right _ (by omega)
  have h3 := two64_ten
  omega
theorem norm_under {c : Nat} {e : Int} (h0 : c ≠ 0) (hc : c < 10 ^ 200) (he : e < -1000000) : norm c e = none := by
  obtain ⟨k, h2, h1, hp, hk, hs⟩ := strip_spec c e (by omega)
  have hk2 : k < 200 := by
    rcases Nat.lt_or_ge k 200 with h | h
    · exact h
    · have h3 : 10 ^ 200 ≤ 10 ^ k := Nat.pow_le_pow_right (by decide) h
      have h4 : 1 * 10 ^ k ≤ (strip c e).1 * 10 ^ k := Nat.mul_le_mul_right _ hp
      omega
  unfold norm
  rw [if_neg h0, if_pos (by omega)]

/-- What Make tells. -/
def made (neg : Bool) (c : Nat) (e : Int) : D × Bool := match norm c e with | none => (D0, false) | some q => (mkD neg q, true)

set_option maxRecDepth 100000 in
set_option maxHeartbeats 8000000 in
theorem make_calls (neg : Bool) (s : ByteArray) (l : List UInt8) (hs : Str s l) (hd : Digs l) (hl : l.length ≤ 200) (x : Int) (hx0 : -9223372036854775808 ≤ x) (hx1 : x ≤ 9223372036854775807) (w : World) :
    Calls Try.prog 52 #[.bool neg, .string s, .int .i64 x] w fun e w' => e = .returned (.tuple #[dV (made neg (val l) x).1, .bool (made neg (val l) x).2]) ∧ Below w.heap.size w w' := by
  have n0 := Box.new w 45 [.bool false, .int .u64 0, .int .i64 0]
  have kb : Below w.heap.size w (w.alloc (.cells #[.bool false, .int .u64 0, .int .i64 0] 45)) := (Below.refl _ _).alloc (Nat.le_refl _) _
  have HK := Lib.hid (And.intro n0 kb)
  have HS := Lib.hid hs
  have HD := Lib.hid hd
  have HL := Lib.hid hl
  have r0 := n0.cell 0
  have r1 := n0.cell 1
  have r2 := n0.cell 2
  simp only [List.getElem?_cons_zero, List.getElem?_cons_succ] at r0 r1 r2
  have g0 := n0.frozen 0
  have g1 := n0.frozen 1
  have g2 := n0.frozen 2
  clear n0 kb hs hd hl
  go_enter Try.func52, Try.ntmps52
  go_wp2_with fail
  obtain ⟨W, hW⟩ : ∃ W, W = w.alloc (.cells #[.bool false, .int .u64 0, .int .i64 0] 45) := ⟨_, rfl⟩
  rw [← hW] at HK r0 r1 r2 g0 g1 g2 ⊢
  clear hW
  have hst : ∀ a b c, Box (((W.setCell ⟨w.heap.size, 0, none⟩ a).setCell ⟨w.heap.size, 1, none⟩ b).setCell ⟨w.heap.size, 2, none⟩ c) w.heap.size 45 [a, b, c] ∧ Below w.heap.size w (((W.setCell ⟨w.heap.size, 0, none⟩ a).setCell ⟨w.heap.size, 1, none⟩ b).setCell ⟨w.heap.size, 2, none⟩ c) := fun a b c => ⟨((HK.out.1.set 0 a).set 1 b).set 2 c, below_set (below_set (below_set HK.out.2 (Nat.le_refl _) _ _) (Nat.le_refl _) _ _) (Nat.le_refl _) _ _⟩
  have HST := Lib.hid hst
  clear hst
  go_loopw [1] (fun v1 wr => ∃ (t : ByteArray) (m : List UInt8), v1 = .string t ∧ W = wr ∧ Hid (Str t m ∧ Digs m ∧ bare m = bare l ∧ m.length ≤ 200)) (fun v1 _ => match v1 with | .string t => t.size | _ => 0)
  case atStart => exact ⟨s, l, rfl, rfl, HS.out, HD.out, rfl, HL.out⟩
  case round =>
    obtain ⟨t, m, rfl, rfl, hh⟩ := hrel
    obtain ⟨ht, hdm, hbm, hlm⟩ := hh.out
    have htz := ht.size
    cases m with
    | nil =>
      have hv0 : val l = 0 := by rw [← val_bare l, ← hbm]; rfl
      have hmade : made neg (val l) x = (D0, true) := by unfold made; rw [hv0, norm_zero]; rfl
      have h1 : ¬ (0 : Int) < (t.size : Int) := by rw [htz]; simp
      have h2 : t.toList = [] := ht.toList
      have HM := Lib.hid hmade
      clear ht hdm hbm hlm htz hv0 hmade hh
      go_wp2_with fail
      exact ret_dec rfl rfl rfl rfl (HST.out _ _ _).1 ⟨by rw [HM.out]; rfl, (HST.out _ _ _).2⟩
    | cons b r =>
      have h1 : (0 : Int) < (t.size : Int) := by rw [htz]; simp; try omega
      have hidx := ht.index (i := 0) 0 rfl (by simp)
      simp only [List.getElem_cons_zero] at hidx
      obtain ⟨z, hzb⟩ : ∃ z : Int, z = (b.toNat : Int) := ⟨_, rfl⟩
      rw [← hzb] at hidx
      by_cases h48 : z = 48
      · subst h48
        obtain ⟨u, hu, hsl⟩ := ht.from_ (i := 1) 1 rfl (by simp)
        have HU := Lib.hid (And.intro (show Str u r from hu) (And.intro (show Digs r from fun y hy => hdm y (by simp [hy])) (And.intro (show bare r = bare l by rw [← hbm, bare_cons, if_pos (by omega)]) (show r.length ≤ 200 by simp at hlm; omega))))
        have HZ := Lib.hid (show t.size = r.length + 1 by rw [htz]; simp)
        clear ht hdm hbm hlm htz hzb hu hh
        go_wp2_with fail
        exact ⟨⟨u, r, rfl, by trivial, HU.out⟩, by show u.size < t.size; rw [HU.out.1.size]; have := HZ.out; omega⟩
      · have hlead : Lead (b :: r) := ⟨hdm, b, r, rfl, by omega⟩
        have hval : val (b :: r) = val l := by rw [← val_bare (b :: r), hbm, val_bare]
        have hne : (t.toList == []) = false := by rw [ht.toList]; rfl
        have e48 : (z == 48) = false := by simp [h48]
        have HM0 := Lib.hid (And.intro ht (And.intro hlead (And.intro hval hlm)))
        clear ht hdm hbm hlm htz hzb hh hlead hval
        by_cases hov : 1000 < x
        · have hmade : made neg (val l) x = (D0, false) := by unfold made; rw [← HM0.out.2.2.1, norm_over HM0.out.2.1.pos hov]
          have HM := Lib.hid hmade
          clear hmade
          go_wp2_with fail
          exact ret_dec rfl rfl rfl rfl (HST.out _ _ _).1 ⟨by rw [HM.out]; rfl, (HST.out _ _ _).2⟩
        · by_cases hun : x < -1000000
          · have hmade : made neg (val l) x = (D0, false) := by
              unfold made
              rw [← HM0.out.2.2.1, norm_under HM0.out.2.1.pos (Nat.lt_of_lt_of_le (val_lt HM0.out.2.1.1) (Nat.pow_le_pow_right (by decide) HM0.out.2.2.2)) hun]
            have HM := Lib.hid hmade
            clear hmade
            go_wp2_with fail
            exact ret_dec rfl rfl rfl rfl (HST.out _ _ _).1 ⟨by rw [HM.out]; rfl, (HST.out _ _ _).2⟩
          · go_wp2_with fail
            clear hidx h1 e48 h48 hne
            -- zeros at the end
            go_loopw [1, 2] (fun v1 v2 wr => ∃ (t : ByteArray) (m : List UInt8) (e : Int), v1 = .string t ∧ v2 = .int .i64 e ∧ W = wr ∧ -1000000 ≤ e ∧ e ≤ 1000 ∧ Hid (Str t m ∧ Lead m ∧ m.length ≤ 200 ∧ norm (val m) e = norm (val l) x)) (fun v1 _ _ => match v1 with | .string t => t.size | _ => 0)
            case atStart => exact ⟨t, b :: r, x, rfl, rfl, rfl, by omega, by omega, HM0.out.1, HM0.out.2.1, HM0.out.2.2.2, by rw [HM0.out.2.2.1]⟩
            case round =>
              obtain ⟨t2, m, e, rfl, rfl, rfl, he0, he1, hh⟩ := hrel
              clear HM0
              obtain ⟨ht, hlead, hlm, hnm⟩ := hh.out
              obtain ⟨a, y, rfl, hy⟩ := hlead.last
              have htz := ht.size
              rw [List.length_append, List.length_singleton] at htz
              have hsz : (t2.size : Int) ≤ 200 := by simp at hlm; omega
              have hsz1 : (1 : Int) ≤ (t2.size : Int) := by omega
              have hidx := ht.index (i := (t2.size : Int) - 1) a.length (by omega) (by simp)
              rw [List.getElem_append_right (Nat.le_refl _)] at hidx
              simp only [Nat.sub_self, List.getElem_cons_zero] at hidx
              obtain ⟨z2, hz2⟩ : ∃ z : Int, z = (y.toNat : Int) := ⟨_, rfl⟩
              rw [← hz2] at hidx
              by_cases h18 : e < 18
              · by_cases h48 : z2 = 48
                · subst h48
                  obtain rfl : y = 48 := UInt8.toNat_inj.1 (by show y.toNat = 48; omega)
                  obtain ⟨u, hu, hsl⟩ := ht.to_ (j := (t2.size : Int) - 1) a.length (by omega) (by simp)
                  rw [List.take_left] at hu
                  have hn2 : norm (val a) (e + 1) = norm (val l) x := by
                    rw [← hnm, val_snoc, ← norm_ten]
                    congr 1
                    show val a * 10 = 10 * val a + (48 - 48)
                    omega
                  have HU := Lib.hid (And.intro hu (And.intro hlead.cut (And.intro (show a.length ≤ 200 by simp at hlm; omega) hn2)))
                  have HZ := Lib.hid htz
                  clear ht hlead hlm hnm hy htz hz2 hu hn2 hh
                  go_wp2_with fail
                  exact ⟨⟨u, a, e + 1, rfl, by go_num, by trivial, by omega, by omega, HU.out⟩, by show u.size < t2.size; rw [HU.out.1.size]; have := HZ.out; omega⟩
                · have e48 : (z2 == 48) = false := by simp [h48]
                  have hm10 : val (a ++ [y]) % 10 ≠ 0 := by rw [Ne, val_last hy]; omega
                  have HU := Lib.hid (And.intro ht (And.intro hlead (And.intro hlm (And.intro hnm (show e = 18 ∨ val (a ++ [y]) % 10 ≠ 0 from Or.inr hm10)))))
                  generalize a ++ [y] = m at HU
                  clear ht hlead hlm hnm hy htz hz2 hm10 hh
                  go_wp2_with fail
                  clear hidx
                  go_loopw [1, 2] (fun v1 v2 wr => ∃ (t : ByteArray) (m : List UInt8) (e : Int), v1 = .string t ∧ v2 = .int .i64 e ∧ W = wr ∧ -1000000 ≤ e ∧ e ≤ 1000 ∧ (t.size : Int) + e ≤ 2000 ∧ (t.size : Int) ≤ 2000 ∧ Hid (Str t m ∧ Lead m ∧ norm (val m) e = norm (val l) x ∧ (18 ≤ e ∨ val m % 10 ≠ 0))) (fun _ v2 _ => (intOf v2 - 18).toNat)
                  case atStart => exact ⟨t2, m, e, rfl, rfl, rfl, he0, he1, by omega, by omega, HU.out.1, HU.out.2.1, HU.out.2.2.2.1, by have := HU.out.2.2.2.2; omega⟩
                  case round =>
                    obtain ⟨t3, m3, e3, rfl, rfl, rfl, hf0, hf1, hf2, hf3, hh3⟩ := hrel
                    clear HU he0 he1
                    by_cases hgt : 18 < e3
                    · have hm3 : (0 : Int) < 1 := by omega
                      have HH3 := Lib.hid hh3.out
                      clear hh3
                      go_wp2_with fail
                      have hst := HH3.out.1.append (show Str ⟨#[48]⟩ [48] from rfl)
                      have hsz3 := hst.size
                      have hsz4 := HH3.out.1.size
                      rw [List.length_append, List.length_singleton] at hsz3
                      refine ⟨⟨_, m3 ++ [48], e3 - 1, rfl, by go_num, by trivial, by omega, by omega, by omega, by omega, hst, HH3.out.2.1.snoc, ?_, Or.inl (by omega)⟩, by simp [intOf]; omega⟩
                      rw [val_snoc, ← HH3.out.2.2.1, show 10 * val m3 + ((48 : UInt8).toNat - 48) = val m3 * 10 by show 10 * val m3 + (48 - 48) = _; omega, norm_ten]
                      congr 1
                      omega
                    · obtain ⟨k1, k2, k3, k4⟩ := hh3.out
                      have hns := norm_stripped (c := val m3) (e := e3) k2.pos (by omega) (by omega)
                      have hmade : made neg (val l) x = if e3 < -18 then (D0, false) else if val m3 < Two64 then (mkD neg (val m3, e3), true) else (D0, false) := by
                        unfold made
                        rw [← k3, hns]
                        by_cases p1 : e3 < -18
                        · rw [if_pos p1, if_pos p1]
                        · rw [if_neg p1, if_neg p1]
                          by_cases p2 : val m3 < Two64
                          · rw [if_pos p2, if_pos p2]
                          · rw [if_neg p2, if_neg p2]
                      have hlen3 : m3.length ≤ 5000 := by have := k1.size; omega
                      have HF := Lib.hid (fits_calls t3 m3 k1 hlen3 W)
                      rw [fits_is k2] at HF
                      have HM := Lib.hid hmade
                      have HV := Lib.hid (fun hv => value_calls t3 m3 k1 k2.1 hv hlen3 W)
                      have HP := Lib.hid k2.pos
                      clear hh3 k1 k2 k3 k4 hns hmade hlen3
                      by_cases hlo : e3 < -18
                      · go_wp2_with fail
                        exact ret_dec rfl rfl rfl rfl (HST.out _ _ _).1 ⟨by rw [HM.out, if_pos hlo]; rfl, (HST.out _ _ _).2⟩
                      · by_cases hfit : val m3 < Two64
                        · have hd : decide (val m3 < Two64) = true := by simp [hfit]
                          rw [hd] at HF
                          go_wp2_with fail
                          refine HF.out.mono ?_
                          rintro e4 w4 ⟨rfl, rfl⟩
                          have HVV := Lib.hid (HV.out hfit)
                          obtain ⟨q, hq⟩ : ∃ q : Int, q = ((val m3 : Nat) : Int) := ⟨_, rfl⟩
                          rw [← hq] at HVV
                          have HQ := Lib.hid hq
                          clear hq HV HF
                          go_wp2_with fail
                          refine HVV.out.mono ?_
                          rintro e4 w4 ⟨rfl, rfl⟩
                          go_wp2_with fail
                          refine ret_dec rfl rfl rfl rfl (HST.out _ _ _).1 ⟨?_, (HST.out _ _ _).2⟩
                          rw [HM.out, if_neg (by omega), if_pos hfit, HQ.out]
                          unfold mkD dV
                          simp only [if_neg HP.out]
                          rfl
                        · have hd : decide (val m3 < Two64) = false := by simp [hfit]
                          rw [hd] at HF
                          go_wp2_with fail
                          refine HF.out.mono ?_
                          rintro e4 w4 ⟨rfl, rfl⟩
                          go_wp2_with fail
                          exact ret_dec rfl rfl rfl rfl (HST.out _ _ _).1 ⟨by rw [HM.out, if_neg (by omega), if_neg hfit]; rfl, (HST.out _ _ _).2⟩
              · have HU := Lib.hid (And.intro ht (And.intro hlead (And.intro hlm hnm)))
                generalize a ++ [y] = m at HU
                clear ht hlead hlm hnm hy htz hz2 hh
                go_wp2_with fail
                clear hidx
                go_loopw [1, 2] (fun v1 v2 wr => ∃ (t : ByteArray) (m : List UInt8) (e : Int), v1 = .string t ∧ v2 = .int .i64 e ∧ W = wr ∧ -1000000 ≤ e ∧ e ≤ 1000 ∧ (t.size : Int) + e ≤ 2000 ∧ (t.size : Int) ≤ 2000 ∧ Hid (Str t m ∧ Lead m ∧ norm (val m) e = norm (val l) x ∧ (18 ≤ e ∨ val m % 10 ≠ 0))) (fun _ v2 _ => (intOf v2 - 18).toNat)
                case atStart => exact ⟨t2, m, e, rfl, rfl, rfl, he0, he1, by omega, by omega, HU.out.1, HU.out.2.1, HU.out.2.2.2, by omega⟩
                case round =>
                  obtain ⟨t3, m3, e3, rfl, rfl, rfl, hf0, hf1, hf2, hf3, hh3⟩ := hrel
                  clear HU he0 he1
                  by_cases hgt : 18 < e3
                  · have hm3 : (0 : Int) < 1 := by omega
                    have HH3 := Lib.hid hh3.out
                    clear hh3
                    go_wp2_with fail
                    have hst := HH3.out.1.append (show Str ⟨#[48]⟩ [48] from rfl)
                    have hsz3 := hst.size
                    have hsz4 := HH3.out.1.size
                    rw [List.length_append, List.length_singleton] at hsz3
                    refine ⟨⟨_, m3 ++ [48], e3 - 1, rfl, by go_num, by trivial, by omega, by omega, by omega, by omega, hst, HH3.out.2.1.snoc, ?_, Or.inl (by omega)⟩, by simp [intOf]; omega⟩
                    rw [val_snoc, ← HH3.out.2.2.1, show 10 * val m3 + ((48 : UInt8).toNat - 48) = val m3 * 10 by show 10 * val m3 + (48 - 48) = _; omega, norm_ten]
                    congr 1
                    omega
                  · obtain ⟨k1, k2, k3, k4⟩ := hh3.out
                    have hns := norm_stripped (c := val m3) (e := e3) k2.pos (by omega) (by omega)
                    have hmade : made neg (val l) x = if e3 < -18 then (D0, false) else if val m3 < Two64 then (mkD neg (val m3, e3), true) else (D0, false) := by
                      unfold made
                      rw [← k3, hns]
                      by_cases p1 : e3 < -18
                      · rw [if_pos p1, if_pos p1]
                      · rw [if_neg p1, if_neg p1]
                        by_cases p2 : val m3 < Two64
                        · rw [if_pos p2, if_pos p2]
                        · rw [if_neg p2, if_neg p2]
                    have hlen3 : m3.length ≤ 5000 := by have := k1.size; omega
                    have HF := Lib.hid (fits_calls t3 m3 k1 hlen3 W)
                    rw [fits_is k2] at HF
                    have HM := Lib.hid hmade
                    have HV := Lib.hid (fun hv => value_calls t3 m3 k1 k2.1 hv hlen3 W)
                    have HP := Lib.hid k2.pos
                    clear hh3 k1 k2 k3 k4 hns hmade hlen3
                    by_cases hlo : e3 < -18
                    · go_wp2_with fail
                      exact ret_dec rfl rfl rfl rfl (HST.out _ _ _).1 ⟨by rw [HM.out, if_pos hlo]; rfl, (HST.out _ _ _).2⟩
                    · by_cases hfit : val m3 < Two64
                      · have hd : decide (val m3 < Two64) = true := by simp [hfit]
                        rw [hd] at HF
                        go_wp2_with fail
                        refine HF.out.mono ?_
                        rintro e4 w4 ⟨rfl, rfl⟩
                        have HVV := Lib.hid (HV.out hfit)
                        obtain ⟨q, hq⟩ : ∃ q : Int, q = ((val m3 : Nat) : Int) := ⟨_, rfl⟩
                        rw [← hq] at HVV
                        have HQ := Lib.hid hq
                        clear hq HV HF
                        go_wp2_with fail
                        refine HVV.out.mono ?_
                        rintro e4 w4 ⟨rfl, rfl⟩
                        go_wp2_with fail
                        refine ret_dec rfl rfl rfl rfl (HST.out _ _ _).1 ⟨?_, (HST.out _ _ _).2⟩
                        rw [HM.out, if_neg (by omega), if_pos hfit, HQ.out]
                        unfold mkD dV
                        simp only [if_neg HP.out]
                        rfl
                      · have hd : decide (val m3 < Two64) = false := by simp [hfit]
                        rw [hd] at HF
                        go_wp2_with fail
                        refine HF.out.mono ?_
                        rintro e4 w4 ⟨rfl, rfl⟩
                        go_wp2_with fail
                        exact ret_dec rfl rfl rfl rfl (HST.out _ _ _).1 ⟨by rw [HM.out, if_neg (by omega), if_neg hfit]; rfl, (HST.out _ _ _).2⟩
end Go.Proofs.Yteffankkelbhiaa.Dc

/-
  Contract of the document's Digits. No statement of the seat is proved here.
-/
namespace Go.Proofs.Yteffankkelbhiaa.Dc
open Go.RowKit

theorem ten_part (k : Nat) (h : k < 10) : (([48, 49, 50, 51, 52, 53, 54, 55, 56, 57] : List UInt8).drop k).take (k + 1 - k) = [UInt8.ofNat (48 + k)] := by
  have key : ∀ j : Fin 10, (([48, 49, 50, 51, 52, 53, 54, 55, 56, 57] : List UInt8).drop j.val).take (j.val + 1 - j.val) = [UInt8.ofNat (48 + j.val)] := by decide
  exact key ⟨k, h⟩
theorem ten_str : Str ⟨#[48, 49, 50, 51, 52, 53, 54, 55, 56, 57]⟩ [48, 49, 50, 51, 52, 53, 54, 55, 56, 57] := rfl

set_option maxRecDepth 100000 in
set_option maxHeartbeats 4000000 in
theorem digits_calls : ∀ (n : Nat), n < Two64 → ∀ w : World, Calls Try.prog 53 #[.int .u64 n] w fun e w' => e = .returned (.string ⟨(Lib.decDigits n).toArray⟩) ∧ ∃ k, w' = w.drewN k := by
  intro n
  induction n using Nat.strongRecOn with
  | ind n ih =>
    intro h64 w
    obtain ⟨x, hx⟩ : ∃ x : Int, x = (n : Int) := ⟨_, rfl⟩
    by_cases h10 : n < 10
    · have hx10 : x < 10 := by omega
      have hx0 : 0 ≤ x := by omega
      obtain ⟨t, ht, hsl⟩ := ten_str.part (ki := .u64) (kj := .u64) (i := x) (j := x + 1) n (n + 1) hx (by omega) (by omega) (by simp; omega)
      rw [ten_part n h10, ← Lib.decDigits_one h10] at ht
      have he := ht.eq
      rw [← hx]
      have HE := Lib.hid he
      clear hx ih h64 he ht
      go_enter Try.func53, Try.ntmps53
      go_wp2_with fail
      go_ret
      exact ⟨congrArg (fun z => Ending.returned (.string z)) HE.out, 0, by rw [World.drewN_zero]⟩
    · have hx10 : ¬ x < 10 := by omega
      have hx0 : 0 ≤ x := by omega
      have hlt : n / 10 < n := by omega
      have hI := fun W => ih (n / 10) hlt (by unfold Two64 at h64 ⊢; omega) W
      have hq : IntKind.u64.wrap (x.tdiv 10) = ((n / 10 : Nat) : Int) := by rw [Int.tdiv_eq_ediv_of_nonneg hx0, IntKind.wrap_u64]; unfold Two64 at h64; omega
      obtain ⟨t, ht, hsl⟩ := ten_str.part (ki := .u64) (kj := .u64) (i := x % 10) (j := x % 10 + 1) (n % 10) (n % 10 + 1) (by omega) (by omega) (by omega) (by simp; omega)
      rw [ten_part (n % 10) (by omega)] at ht
      have hz : (t.size : Int) = 1 := by rw [ht.size]; rfl
      have hlen : ((⟨(Lib.decDigits (n / 10)).toArray⟩ : ByteArray).size : Int) ≤ 20 := by
        rw [(Str.mk (Lib.decDigits (n / 10))).size]
        have := decDigits_len20 (u := n / 10) (by unfold Two64 at h64 ⊢; omega)
        omega
      have heq : ((⟨(Lib.decDigits (n / 10)).toArray⟩ : ByteArray) ++ t) = ⟨(Lib.decDigits n).toArray⟩ := by
        have := (Str.mk (Lib.decDigits (n / 10))).append ht
        rw [← decDigits_big h10] at this
        exact this.eq
      generalize (⟨(Lib.decDigits (n / 10)).toArray⟩ : ByteArray) = P at hI hlen heq
      rw [← hx, ← heq]
      have HI := Lib.hid hI
      have hm10 : 0 ≤ x % 10 ∧ x % 10 < 10 := by omega
      clear hx ih h64 heq ht hlt hI
      go_enter Try.func53, Try.ntmps53
      go_wp2_with fail
      go_quiet ((go_at_call 53; exact Calls.quiet_of (HI.out _)))
      go_wp2_with fail
      go_ret
      exact ⟨rfl, _, rfl⟩
end Go.Proofs.Yteffankkelbhiaa.Dc
