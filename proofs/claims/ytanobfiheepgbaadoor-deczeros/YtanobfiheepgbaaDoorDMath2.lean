/-
  A text is parsed as what it is of. Nothing of the program.
-/
import Derived.Test.YtanobfiheepgbaaDoorDText
namespace Go.Proofs.YtanobfiheepgbaaDoor

def sgn (neg : Bool) : List UInt8 := if neg then [45] else []

theorem told_is (below : Bool) (v p : Nat) : told (.ok below v p) = match norm v (-(p : Int)) with | none => (D0, 10, 0) | some q => (mkD below q, 0, 0) := rfl
theorem scan_sign (neg : Bool) {body : List UInt8} (_h : ∃ b r, body = b :: r ∧ Dig b) : ∃ n, scan 0 false false true 0 0 (sgn neg ++ body) = scan n neg false true 0 0 body := by
  cases neg
  · exact ⟨0, rfl⟩
  · refine ⟨1, ?_⟩
    show scan 0 false false true 0 0 (45 :: body) = _
    rw [scan, if_neg (by decide), if_neg (by decide), if_pos ⟨by decide, rfl⟩]
theorem digs_first {l : List UInt8} (h : Digs l) (hne : l ≠ []) : ∃ b r, l = b :: r ∧ Dig b := by
  cases l with
  | nil => exact absurd rfl hne
  | cons b r => exact ⟨b, r, rfl, h b (by simp)⟩
theorem parse_whole (neg : Bool) {l : List UInt8} (h : Digs l) (hne : l ≠ []) : parse (sgn neg ++ l) = told (.ok neg (val l) 0) := by
  obtain ⟨n, hn⟩ := scan_sign neg (digs_first h hne)
  unfold parse
  rw [hn, scan_whole h hne]
theorem parse_point (neg : Bool) {a b : List UInt8} (ha : Digs a) (hna : a ≠ []) (hb : Digs b) (hnb : b ≠ []) : parse (sgn neg ++ (a ++ [46] ++ b)) = told (.ok neg (val (a ++ b)) b.length) := by
  obtain ⟨x, r, hx, hd⟩ := digs_first ha hna
  obtain ⟨n, hn⟩ := scan_sign neg (body := a ++ [46] ++ b) ⟨x, r ++ [46] ++ b, by rw [hx]; rfl, hd⟩
  unfold parse
  rw [hn, scan_point ha hna hb hnb]

theorem mkD_self {d : D} (h : d.One) : mkD d.neg (d.c, d.e) = d := by
  unfold mkD
  cases d with
  | mk n c e => simp only [D.mk.injEq, and_true]; split; exact (h.2 (by assumption)).symm; rfl

theorem told_fix {d : D} (h : d.One) {v p : Nat} (hv : norm v (-(p : Int)) = norm d.c d.e) : told (.ok d.neg v p) = (d, 0, 0) := by
  rw [told_is, hv, norm_fix h.1]
  show (mkD d.neg (d.c, d.e), _, _) = _
  rw [mkD_self h]

/-- Zeros ahead and behind are nothing. -/
theorem parse_zeros {d : D} (h : d.One) (i j : Nat) : parse (sgn d.neg ++ (List.replicate i 48 ++ sized d.c d.e ++ (if 0 ≤ d.e ∧ 0 < j then [46] else []) ++ List.replicate j 48)) = (d, 0, 0) := by
  by_cases he : 0 ≤ d.e
  · obtain ⟨hd, hne, hv⟩ := (sized_split d.c d.e).1 he
    by_cases hj : 0 < j
    · rw [if_pos ⟨he, hj⟩, parse_point d.neg ((digs_zeros i).append hd) (by simp [hne]) (digs_zeros j) (by intro hh; have := congrArg List.length hh; simp at this; omega)]
      refine told_fix h ?_
      rw [val_zeros_behind, val_zeros_ahead, hv, norm_pow, norm_pow]
      congr 1
      simp; omega
    · rw [if_neg (by omega), show j = 0 by omega]
      simp only [List.replicate_zero, List.append_nil]
      rw [parse_whole d.neg ((digs_zeros i).append hd) (by simp [hne])]
      refine told_fix h ?_
      rw [val_zeros_ahead, hv, norm_pow]
      congr 1
      simp; omega
  · obtain ⟨a, b, hs, ha, hna, hb, hlen, hv⟩ := (sized_split d.c d.e).2 (by omega)
    have hnb : b ++ List.replicate j 48 ≠ [] := by intro hh; have h2 := congrArg List.length hh; rw [List.length_append, List.length_replicate, hlen, List.length_nil] at h2; omega
    rw [if_neg (by omega), hs]
    have e : List.replicate i 48 ++ (a ++ [46] ++ b) ++ [] ++ List.replicate j 48 = (List.replicate i 48 ++ a) ++ [46] ++ (b ++ List.replicate j 48) := by simp
    rw [e, parse_point d.neg ((digs_zeros i).append ha) (by simp [hna]) (hb.append (digs_zeros j)) hnb]
    refine told_fix h ?_
    have e2 : List.replicate i 48 ++ a ++ (b ++ List.replicate j 48) = List.replicate i 48 ++ ((a ++ b) ++ List.replicate j 48) := by simp
    rw [e2, val_zeros_ahead, val_zeros_behind, hv, norm_pow]
    congr 1
    simp; omega
theorem text_sgn (d : D) : text d = sgn d.neg ++ sized d.c d.e := rfl
theorem parse_text {d : D} (h : d.One) : parse (text d) = (d, 0, 0) := by
  have := parse_zeros h 0 0
  simpa [text_sgn] using this
/-- A whole number with zeros at its end is so many tens. -/
theorem parse_tens {d : D} (h : d.One) (he : 0 ≤ d.e) (h0 : d.c ≠ 0) (j : Nat) (hj : d.e + j ≤ 18) : parse (sgn d.neg ++ (sized d.c d.e ++ List.replicate j 48)) = (⟨d.neg, d.c, d.e + j⟩, 0, 0) := by
  obtain ⟨hd, hne, hv⟩ := (sized_split d.c d.e).1 he
  rw [parse_whole d.neg (hd.append (digs_zeros j)) (by simp [hne])]
  have h1 : (⟨d.neg, d.c, d.e + j⟩ : D).One := by
    refine ⟨?_, fun hc => absurd hc h0⟩
    rcases h.1 with ⟨k, _⟩ | ⟨k1, k2, k3, k4, k5⟩
    · exact absurd k h0
    · exact Or.inr ⟨k1, by show -18 ≤ d.e + j; omega, hj, by show d.c % 10 ≠ 0 ∨ d.e + j = 18; omega, k5⟩
  refine told_fix h1 ?_
  rw [val_zeros_behind, hv, norm_pow, norm_pow]
  congr 1
  simp; omega

theorem pointed_length (row : List UInt8) (k : Nat) : (pointed row k).length ≤ max row.length (k + 1) + 1 := by
  unfold pointed
  simp
  omega
theorem text_length {d : D} (h : d.One) : (text d).length ≤ 39 := by
  have h20 := decDigits_len20 h.fits.c
  have hn := (by rcases h.1 with ⟨h0, h1⟩ | ⟨h0, h1, h2, h3, h4⟩ <;> omega : -18 ≤ d.e ∧ d.e ≤ 18)
  rw [text_sgn, List.length_append]
  have h1 : (sgn d.neg).length ≤ 1 := by unfold sgn; split <;> simp
  have h2 : (sized d.c d.e).length ≤ 38 := by
    unfold sized
    split
    · have := pointed_length (Lib.decDigits d.c) (-d.e).toNat
      omega
    · simp; omega
  omega

theorem scan_bad (l : List UInt8) : ∀ (n : Nat) (below point wanted : Bool) (v p : Nat) (c : Int) (k : Nat), scan n below point wanted v p l = .bad c k → (c = 11 ∨ c = 14) ∧ k ≤ n + l.length := by
  induction l with
  | nil =>
    intro n below point wanted v p c k h
    unfold scan at h
    split at h
    · injection h with h1 h2; exact ⟨Or.inl h1.symm, by simp; omega⟩
    · cases h
  | cons b r ih =>
    intro n below point wanted v p c k h
    rw [scan] at h
    split at h
    · obtain ⟨h1, h2⟩ := ih _ _ _ _ _ _ _ _ h; exact ⟨h1, by simp; omega⟩
    · split at h
      · obtain ⟨h1, h2⟩ := ih _ _ _ _ _ _ _ _ h; exact ⟨h1, by simp; omega⟩
      · split at h
        · obtain ⟨h1, h2⟩ := ih _ _ _ _ _ _ _ _ h; exact ⟨h1, by simp; omega⟩
        · injection h with h1 h2; exact ⟨Or.inr h1.symm, by simp; omega⟩
/-- What Parse tells: a number in its one form, or a fault in the text. -/
theorem parse_cases (l : List UInt8) : ((parse l).1.One ∧ (parse l).2 = (0, 0)) ∨ ((parse l).1 = D0 ∧ (parse l).2.1 ≠ 0 ∧ 0 ≤ (parse l).2.2 ∧ (parse l).2.2 ≤ l.length) := by
  unfold parse
  cases hs : scan 0 false false true 0 0 l with
  | bad c k =>
    obtain ⟨h1, h2⟩ := scan_bad l _ _ _ _ _ _ _ _ hs
    exact Or.inr ⟨rfl, by show c ≠ 0; omega, by show (0 : Int) ≤ (k : Int); omega, by show (k : Int) ≤ l.length; omega⟩
  | ok below v p =>
    rw [told_is]
    cases hn : norm v (-(p : Int)) with
    | none => exact Or.inr ⟨rfl, by show (10 : Int) ≠ 0; omega, by show (0 : Int) ≤ 0; omega, by show (0 : Int) ≤ l.length; omega⟩
    | some q =>
      refine Or.inl ⟨⟨norm_one hn, fun h0 => ?_⟩, rfl⟩
      have h0' : q.1 = 0 := h0
      show (if q.1 = 0 then false else below) = false
      rw [if_pos h0']
end Go.Proofs.YtanobfiheepgbaaDoor
