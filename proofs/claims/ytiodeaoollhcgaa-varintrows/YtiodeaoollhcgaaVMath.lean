/-
  Numbers as bytes, seven bits each, in plain terms: the bytes of a number, what bytes begin with, and how the two go together. Nothing of the program is named here.
-/
import Derived.Lib.BitFns
namespace Go.Proofs.Ytiodeaoollhcgaa

/-- The bytes of a number: seven bits each, the least ones first; all but the last one are 128 and more. -/
def digs (n : Nat) : List Int := if n < 128 then [(n : Int)] else ((n % 128 + 128 : Nat) : Int) :: digs (n / 128)
termination_by n
decreasing_by omega

theorem digs_lt {n : Nat} (h : n < 128) : digs n = [(n : Int)] := by rw [digs, if_pos h]
theorem digs_ge {n : Nat} (h : 128 ≤ n) : digs n = ((n % 128 + 128 : Nat) : Int) :: digs (n / 128) := by rw [digs, if_neg (by omega)]

theorem digs_bytes (n : Nat) : ∀ z ∈ digs n, 0 ≤ z ∧ z < 256 := by
  induction n using Nat.strongRecOn with
  | _ n ih =>
    intro z hz
    by_cases h : n < 128
    · rw [digs_lt h] at hz
      simp at hz
      omega
    · rw [digs_ge (by omega), List.mem_cons] at hz
      rcases hz with rfl | hz
      · omega
      · exact ih (n / 128) (by omega) z hz

theorem digs_pos (n : Nat) : 0 < (digs n).length := by
  by_cases h : n < 128
  · rw [digs_lt h]; simp
  · rw [digs_ge (by omega)]; simp

/-- A number below 128 to the k has at most k bytes. -/
theorem digs_len_le : ∀ (k n : Nat), 0 < k → n < 128 ^ k → (digs n).length ≤ k
  | 0, _, h, _ => absurd h (by omega)
  | 1, n, _, h => by rw [digs_lt (by simpa using h)]; simp
  | k + 2, n, _, h => by
    by_cases hn : n < 128
    · rw [digs_lt hn]; simp
    · rw [digs_ge (by omega), List.length_cons]
      have := digs_len_le (k + 1) (n / 128) (by omega) (by rw [Nat.pow_succ] at h; exact Nat.div_lt_of_lt_mul (by rw [Nat.mul_comm]; exact h))
      omega

/-- .. and one from there on has more. -/
theorem digs_len_gt : ∀ (k n : Nat), 128 ^ k ≤ n → k < (digs n).length
  | 0, n, _ => digs_pos n
  | k + 1, n, h => by
    have h1 : 0 < 128 ^ k := Nat.pow_pos (by omega)
    rw [Nat.pow_succ] at h
    have hn : 128 ≤ n := Nat.le_trans (Nat.le_mul_of_pos_left 128 h1) h
    rw [digs_ge hn, List.length_cons]
    have := digs_len_gt k (n / 128) ((Nat.le_div_iff_mul_le (by omega)).2 h)
    omega

theorem digs_ten {n : Nat} (h : n < 18446744073709551616) : (digs n).length ≤ 10 :=
  digs_len_le 10 n (by omega) (Nat.lt_of_lt_of_le h (by decide))

theorem digs_mono {n m : Nat} (h : n ≤ m) : (digs n).length ≤ (digs m).length := by
  rcases Nat.lt_or_ge m (128 ^ (digs m).length) with hlt | hge
  · exact digs_len_le _ n (digs_pos m) (by omega)
  · exact absurd (digs_len_gt _ m hge) (by omega)

theorem digs_times {n : Nat} (h : 0 < n) : (digs (n * 128)).length = (digs n).length + 1 := by
  rw [digs_ge (n := n * 128) (by omega), List.length_cons, Nat.mul_div_cancel _ (by omega)]

/-- How many bytes a number has, by the length of its bits. -/
theorem digs_bits (n : Nat) (h : n < 18446744073709551616) : (digs n).length = (Lib.bitLen (n / 2 * 2 + 1) + 6) / 7 := by
  induction n using Nat.strongRecOn with
  | _ n ih =>
    by_cases hn : n < 128
    · rw [digs_lt hn]
      have h7 := Lib.bitLen_le (n / 2 * 2 + 1) 7 (by omega) (by omega)
      have h0 := Lib.bitLen_half (n / 2 * 2 + 1) (by omega) (by omega)
      simp only [List.length_cons, List.length_nil]
      omega
    · rw [digs_ge (by omega), List.length_cons, ih (n / 128) (by omega) (by omega)]
      have h1 := Lib.bitLen_shift 7 (n / 2 * 2 + 1) (by omega) (by omega)
      have h2 : (n / 2 * 2 + 1) / 2 ^ 7 = n / 128 := by omega
      have hq : 0 < n / 128 := by omega
      rw [h2] at h1
      have h3 : Lib.bitLen (n / 128) = Lib.bitLen (n / 128 / 2 * 2 + 1) := by
        rw [Lib.bitLen_half (n / 128) (by omega) (by omega), Lib.bitLen_half (n / 128 / 2 * 2 + 1) (by omega) (by omega)]
        congr 2
        omega
      rw [h1, h3]
      omega

/-- What is read at a byte b, behind k bytes that say a: the number, how many bytes were asked in all, the error (0: none). -/
def scan (k a : Nat) : List Int → Nat × Nat × Int
  | [] => (0, k, 13)
  | b :: l =>
    if k = 9 ∧ 1 < b then (0, k + 1, 10)
    else if 0 < k ∧ b = 0 then (0, k + 1, 21)
    else if b < 128 then (a + 128 ^ k * (b.toNat % 128), k + 1, 0)
    else scan (k + 1) (a + 128 ^ k * (b.toNat % 128)) l

section
variable {k a : Nat} {b : Int} {l : List Int}
theorem scan_range (hk : k = 9) (hb : 1 < b) : scan k a (b :: l) = (0, k + 1, 10) := by rw [scan, if_pos ⟨hk, hb⟩]
theorem scan_canon (hk : 0 < k) (hb : b = 0) : scan k a (b :: l) = (0, k + 1, 21) := by rw [scan, if_neg (by omega), if_pos ⟨hk, hb⟩]
theorem scan_last (h9 : ¬ (k = 9 ∧ 1 < b)) (h0 : ¬ (0 < k ∧ b = 0)) (hb : b < 128) : scan k a (b :: l) = (a + 128 ^ k * (b.toNat % 128), k + 1, 0) := by rw [scan, if_neg h9, if_neg h0, if_pos hb]
theorem scan_more (h9 : ¬ (k = 9 ∧ 1 < b)) (h0 : ¬ (0 < k ∧ b = 0)) (hb : ¬ b < 128) : scan k a (b :: l) = scan (k + 1) (a + 128 ^ k * (b.toNat % 128)) l := by rw [scan, if_neg h9, if_neg h0, if_neg hb]
end

/-- How many bytes are asked: one at least behind those ahead, if the error is no ErrShort; all, if it is. -/
theorem scan_asked : ∀ (l : List Int) (k a : Nat), k ≤ (scan k a l).2.1 ∧ (scan k a l).2.1 ≤ k + l.length ∧ ((scan k a l).2.2 = 13 → (scan k a l).2.1 = k + l.length) ∧ ((scan k a l).2.2 ≠ 13 → k < (scan k a l).2.1) ∧ ((scan k a l).2.2 ≠ 0 → (scan k a l).1 = 0)
  | [], k, a => by simp [scan]
  | b :: l, k, a => by
    by_cases h9 : k = 9 ∧ 1 < b
    · rw [scan_range h9.1 h9.2]; simp
    by_cases h0 : 0 < k ∧ b = 0
    · rw [scan_canon h0.1 h0.2]; simp
    by_cases hb : b < 128
    · rw [scan_last h9 h0 hb]; simp
    · rw [scan_more h9 h0 hb]
      have ih := scan_asked l (k + 1) (a + 128 ^ k * (b.toNat % 128))
      rw [List.length_cons]
      refine ⟨by omega, by omega, fun h => ?_, fun h => ?_, ih.2.2.2.2⟩
      · have := ih.2.2.1 h; omega
      · have := ih.2.2.2.1 h; omega

theorem scan_codes : ∀ (l : List Int) (k a : Nat), (scan k a l).2.2 = 0 ∨ (scan k a l).2.2 = 10 ∨ (scan k a l).2.2 = 13 ∨ (scan k a l).2.2 = 21
  | [], k, a => by simp [scan]
  | b :: l, k, a => by
    by_cases h9 : k = 9 ∧ 1 < b
    · rw [scan_range h9.1 h9.2]; simp
    by_cases h0 : 0 < k ∧ b = 0
    · rw [scan_canon h0.1 h0.2]; simp
    by_cases hb : b < 128
    · rw [scan_last h9 h0 hb]; simp
    · rw [scan_more h9 h0 hb]
      exact scan_codes l (k + 1) _

theorem pow_nine {k n : Nat} (h : 128 ^ k * n < 18446744073709551616) (hn : 128 ≤ n) : k < 9 := by
  rcases Nat.lt_or_ge k 9 with h' | h'
  · exact h'
  · have h1 : 128 ^ 9 ≤ 128 ^ k := Nat.pow_le_pow_right (by omega) h'
    have h2 : 128 ^ 9 * 128 ≤ 128 ^ k * n := Nat.mul_le_mul h1 hn
    have h3 : (128 : Nat) ^ 9 * 128 = 1180591620717411303424 := by decide
    omega
theorem pow_le_nine {k n : Nat} (h : 128 ^ k * n < 18446744073709551616) (hn : 0 < n) : k ≤ 9 := by
  rcases Nat.lt_or_ge 9 k with h' | h'
  · have h1 : 128 ^ 10 ≤ 128 ^ k := Nat.pow_le_pow_right (by omega) h'
    have h2 : 128 ^ 10 * 1 ≤ 128 ^ k * n := Nat.mul_le_mul h1 hn
    have h3 : (128 : Nat) ^ 10 * 1 = 1180591620717411303424 := by decide
    omega
  · exact h'
theorem pow_one {n : Nat} (h : 128 ^ 9 * n < 18446744073709551616) : n ≤ 1 := by
  have h3 : (128 : Nat) ^ 9 = 9223372036854775808 := by decide
  rw [h3] at h
  omega
theorem split128 (k n : Nat) : 128 ^ k * (n % 128) + 128 ^ (k + 1) * (n / 128) = 128 ^ k * n := by
  have h := Nat.mod_add_div n 128
  calc 128 ^ k * (n % 128) + 128 ^ (k + 1) * (n / 128) = 128 ^ k * (n % 128 + 128 * (n / 128)) := by rw [Nat.pow_succ, Nat.mul_add, Nat.mul_assoc]
    _ = 128 ^ k * n := by rw [h]

/-- The bytes of a number are read as it, whatever stands behind. -/
theorem scan_digs (n : Nat) : ∀ (k a : Nat) (l : List Int), 128 ^ k * n < 18446744073709551616 → (k = 0 ∨ 0 < n) → scan k a (digs n ++ l) = (a + 128 ^ k * n, k + (digs n).length, 0) := by
  induction n using Nat.strongRecOn with
  | _ n ih =>
    intro k a l h hk
    by_cases hn : n < 128
    · rw [digs_lt hn]
      have h9 : ¬ (k = 9 ∧ 1 < (n : Int)) := by
        rintro ⟨rfl, h1⟩
        have := pow_one h
        omega
      rw [List.cons_append, scan_last h9 (by omega) (by omega), Int.toNat_natCast, Nat.mod_eq_of_lt hn]
      rfl
    · have hk9 := pow_nine h (by omega)
      have hs := split128 k n
      rw [digs_ge (by omega), List.cons_append, scan_more (by omega) (by omega) (by omega), Int.toNat_natCast]
      have e : (n % 128 + 128) % 128 = n % 128 := by omega
      rw [e, ih (n / 128) (by omega) (k + 1) _ l (by omega) (by omega), List.length_cons]
      refine Prod.ext ?_ (Prod.ext ?_ rfl)
      · show a + 128 ^ k * (n % 128) + 128 ^ (k + 1) * (n / 128) = a + 128 ^ k * n
        omega
      · show k + 1 + (digs (n / 128)).length = k + ((digs (n / 128)).length + 1)
        omega

theorem get_digs {n : Nat} (h : n < 18446744073709551616) (l : List Int) : scan 0 0 (digs n ++ l) = (n, (digs n).length, 0) := by
  rw [scan_digs n 0 0 l (by simpa using h) (.inl rfl)]
  simp

/-- A row that ends too early. -/
theorem scan_short (n : Nat) : ∀ (k a m : Nat), 128 ^ k * n < 18446744073709551616 → m < (digs n).length → scan k a ((digs n).take m) = (0, k + m, 13) := by
  induction n using Nat.strongRecOn with
  | _ n ih =>
    intro k a m h hm
    rcases m with _ | m
    · rw [List.take_zero]; rfl
    · by_cases hn : n < 128
      · rw [digs_lt hn] at hm
        simp at hm
      · have hk9 := pow_nine h (by omega)
        have hs := split128 k n
        rw [digs_ge (by omega), List.length_cons] at hm
        rw [digs_ge (by omega), List.take_succ_cons, scan_more (by omega) (by omega) (by omega), ih (n / 128) (by omega) (k + 1) _ m (by omega) (by omega)]
        refine Prod.ext rfl (Prod.ext ?_ rfl)
        show k + 1 + m = k + (m + 1)
        omega

/-- What is read, is the number whose bytes these are. -/
theorem scan_back : ∀ (l : List Int) (k a x j : Nat), (∀ z ∈ l, 0 ≤ z ∧ z < 256) → k ≤ 9 → scan k a l = (x, j, 0) →
    ∃ y, x = a + 128 ^ k * y ∧ k < j ∧ j ≤ k + l.length ∧ digs y = l.take (j - k) ∧ (0 < k → 0 < y) ∧ 128 ^ k * y < 18446744073709551616
  | [], k, a, x, j, _, _, h => by simp [scan] at h
  | b :: l, k, a, x, j, hz, hk, h => by
    have hb0 := hz b (List.mem_cons_self ..)
    by_cases h9 : k = 9 ∧ 1 < b
    · rw [scan_range h9.1 h9.2] at h; simp at h
    by_cases h0 : 0 < k ∧ b = 0
    · rw [scan_canon h0.1 h0.2] at h; simp at h
    by_cases hb : b < 128
    · rw [scan_last h9 h0 hb] at h
      simp only [Prod.mk.injEq, and_true] at h
      obtain ⟨rfl, rfl⟩ := h
      have e : b.toNat % 128 = b.toNat := Nat.mod_eq_of_lt (by omega)
      refine ⟨b.toNat, by rw [e], by omega, by rw [List.length_cons]; omega, ?_, by omega, ?_⟩
      · rw [digs_lt (by omega)]
        have e1 : k + 1 - k = 1 := by omega
        rw [e1, List.take_succ_cons, List.take_zero, Int.toNat_of_nonneg hb0.1]
      · rcases Nat.lt_or_ge k 9 with hk9 | hk9
        · have h1 : 128 ^ k ≤ 128 ^ 8 := Nat.pow_le_pow_right (by omega) (by omega)
          have h2 : 128 ^ k * b.toNat ≤ 128 ^ 8 * 127 := Nat.mul_le_mul h1 (by omega)
          exact Nat.lt_of_le_of_lt h2 (by decide)
        · obtain rfl : k = 9 := by omega
          have h2 : 128 ^ 9 * b.toNat ≤ 128 ^ 9 * 1 := Nat.mul_le_mul (Nat.le_refl _) (by omega)
          exact Nat.lt_of_le_of_lt h2 (by decide)
    · rw [scan_more h9 h0 hb] at h
      obtain ⟨y, hx, hj, hjl, hd, hy, hs⟩ := scan_back l (k + 1) _ x j (fun z hz' => hz z (List.mem_cons_of_mem _ hz')) (by omega) h
      have hy := hy (by omega)
      have hp := split128 k (y * 128 + (b.toNat - 128))
      have e1 : (y * 128 + (b.toNat - 128)) % 128 = b.toNat - 128 := by omega
      have e2 : (y * 128 + (b.toNat - 128)) / 128 = y := by omega
      have e3 : b.toNat % 128 = b.toNat - 128 := by omega
      rw [e1, e2] at hp
      rw [e3] at hx
      refine ⟨y * 128 + (b.toNat - 128), by omega, by omega, by rw [List.length_cons]; omega, ?_, by omega, ?_⟩
      · rw [digs_ge (by omega), e1, e2, hd]
        obtain ⟨i, hi⟩ : ∃ i, j - k = i + 1 := ⟨j - k - 1, by omega⟩
        have hi' : j - (k + 1) = i := by omega
        have eb : ((b.toNat - 128 + 128 : Nat) : Int) = b := by omega
        rw [hi, hi', List.take_succ_cons, eb]
      · rw [← hp]
        have hk8 : k ≤ 8 := by
          have := pow_le_nine hs hy
          omega
        have h1 : 128 ^ k * (b.toNat - 128) ≤ 128 ^ k * 127 := Nat.mul_le_mul (Nat.le_refl _) (by omega)
        have hpk : 0 < 128 ^ k := Nat.pow_pos (by omega)
        have h3 : 128 ^ (k + 1) * (y + 1) ≤ 18446744073709551616 := by
          have hdv : 128 ^ (k + 1) ∣ 18446744073709551616 := by
            have : (18446744073709551616 : Nat) = 2 ^ 64 := by decide
            rw [this, show (128 : Nat) = 2 ^ 7 by decide, ← Nat.pow_mul]
            exact Nat.pow_dvd_pow 2 (by omega)
          obtain ⟨c, hc⟩ := hdv
          rw [hc] at hs ⊢
          have : y < c := Nat.lt_of_mul_lt_mul_left hs
          exact Nat.mul_le_mul (Nat.le_refl _) this
        rw [Nat.mul_add, Nat.pow_succ] at h3
        rw [Nat.pow_succ] at hs ⊢
        omega
end Go.Proofs.Ytiodeaoollhcgaa
