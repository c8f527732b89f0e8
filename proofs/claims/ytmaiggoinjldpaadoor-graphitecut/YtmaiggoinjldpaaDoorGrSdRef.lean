/-
  SdRef, SdNum, GrNum. No statement of the seat is proved here.
-/
import Derived.Test.YtmaiggoinjldpaaDoorGrNRate
import Derived.Test.YtmaiggoinjldpaaDoorGrKIs
/-
  The document's answer for lines of StatsD: words, places of bytes, names. No statement of the seat is proved here.
-/
namespace Go.Proofs.YtmaiggoinjldpaaDoor
open Go.RowKit
open Dc (D D0)

/-- Where a byte stands, from one on. -/
def findB (l : List UInt8) (n : Nat) (c : UInt8) : Nat := n + (cutB c (l.drop n)).1.length
theorem findB_at {l : List UInt8} {n i : Nat} {c : UInt8} (hn : n ≤ i) (hi : i < l.length) (hc : l[i] = c) (h : ∀ j (hj : j < l.length), n ≤ j → j < i → l[j] ≠ c) : findB l n c = i := by
  have e : l.drop n = (l.drop n).take (i - n) ++ c :: l.drop (i + 1) := by
    conv => lhs; rw [← List.take_append_drop (i - n) (l.drop n)]
    rw [List.drop_drop, show n + (i - n) = i by omega, List.drop_eq_getElem_cons hi, hc]
  have hb : c ∉ (l.drop n).take (i - n) := fun hm => by
    obtain ⟨j, hj, ej⟩ := List.mem_iff_getElem.1 hm
    rw [List.length_take, List.length_drop] at hj
    rw [List.getElem_take, List.getElem_drop] at ej
    exact h (n + j) (by omega) (by omega) (by omega) ej
  unfold findB
  rw [e, cutB_hit _ hb]
  show n + ((l.drop n).take (i - n)).length = i
  rw [List.length_take, List.length_drop]
  omega
theorem findB_none {l : List UInt8} {n : Nat} {c : UInt8} (hn : n ≤ l.length) (h : ∀ j (hj : j < l.length), n ≤ j → l[j] ≠ c) : findB l n c = l.length := by
  have hb : c ∉ l.drop n := fun hm => by
    obtain ⟨j, hj, ej⟩ := List.mem_iff_getElem.1 hm
    rw [List.length_drop] at hj
    rw [List.getElem_drop] at ej
    exact h (n + j) (by omega) (by omega) ej
  unfold findB
  rw [cutB_miss hb]
  show n + (l.drop n).length = _
  rw [List.length_drop]
  omega
theorem findB_le (l : List UInt8) {n : Nat} (hn : n ≤ l.length) (c : UInt8) : n ≤ findB l n c ∧ findB l n c ≤ l.length := by
  unfold findB
  rcases cutB_cases c (l.drop n) with ⟨_, e⟩ | ⟨p, r, _, e1, e⟩
  · rw [e]
    show n ≤ n + (l.drop n).length ∧ n + (l.drop n).length ≤ _
    rw [List.length_drop]; omega
  · rw [e]
    have := congrArg List.length e1
    rw [List.length_append, List.length_cons, List.length_drop] at this
    show n ≤ n + p.length ∧ n + p.length ≤ _
    omega

set_option maxRecDepth 100000 in
set_option maxHeartbeats 2000000 in
theorem find_calls (s : ByteArray) (l : List UInt8) (h : Str s l) (hz : l.length ≤ 100000) (n : Nat) (hn : n ≤ l.length) (c : UInt8) (w : World) :
    Calls Tryd.prog 21 #[.string s, .int .i64 n, .int .u8 (c.toNat : Int)] w fun e w' => e = .returned (.int .i64 (findB l n c : Int)) ∧ w = w' := by
  obtain ⟨q, hq⟩ : ∃ q : Nat, findB l n c = q := ⟨_, rfl⟩
  rw [hq]
  have HQ := Lib.hid hq
  have HS := Lib.hid h
  have hsz := h.size
  obtain ⟨z, hzc⟩ : ∃ z : Int, (c.toNat : Int) = z := ⟨_, rfl⟩
  rw [hzc]
  have HC := Lib.hid hzc
  have gl : (s.size : Int) ≤ 100000 := by omega
  have gn : (0 : Int) ≤ (n : Int) := by omega
  clear hq h hzc
  go_enter Tryd.func21, Tryd.ntmps21
  go_wp2_with fail
  go_loopw [7] (fun v7 wr => ∃ i : Nat, v7 = .int .i64 i ∧ n ≤ i ∧ i ≤ l.length ∧ w = wr ∧ Hid (∀ j (hj : j < l.length), n ≤ j → j < i → l[j] ≠ c)) (fun v7 _ => l.length - (intOf v7).toNat)
  case atStart => exact ⟨n, rfl, Nat.le_refl _, hn, rfl, fun j _ h1 h2 => absurd h2 (by omega)⟩
  case round =>
    obtain ⟨i, rfl, hni, hil, rfl, hrel⟩ := hrel
    by_cases hlt : i < l.length
    · have hidx := HS.out.index (i := (i : Int)) i rfl hlt
      have hlt' : (i : Int) < (s.size : Int) := by omega
      obtain ⟨y, hy⟩ : ∃ y : Int, (l[i].toNat : Int) = y := ⟨_, rfl⟩
      rw [hy] at hidx
      have HY := Lib.hid hy
      clear hy
      by_cases hyz : y = z
      · have HE := Lib.hid (show q = i by rw [← HQ.out]; exact findB_at hni hlt (UInt8.toNat_inj.1 (by have := HY.out; have := HC.out; omega)) hrel.out)
        subst hyz
        go_wp2_with fail
        go_ret
        exact ⟨by rw [HE.out]; first | done | rfl, rfl⟩
      · have hyz' : (y == z) = false := by simpa using hyz
        have HN := Lib.hid hyz
        clear hyz
        go_wp2_with fail
        refine ⟨⟨i + 1, by go_num, by omega, by omega, by trivial, fun j hj h1 h2 => ?_⟩, by simp [intOf]; omega⟩
        rcases Nat.lt_or_ge j i with h3 | h3
        · exact hrel.out j hj h1 h3
        · obtain rfl : i = j := by omega
          exact fun e => HN.out (by rw [← HY.out, ← HC.out, e])
    · have hlt' : ¬ (i : Int) < (s.size : Int) := by omega
      have HE := Lib.hid (show q = l.length by rw [← HQ.out]; exact findB_none (by omega) fun j hj h1 => hrel.out j hj h1 (by omega))
      go_wp2_with fail
      go_ret
      exact ⟨by rw [HE.out]; first | done | rfl | congr 2, rfl⟩

theorem words_str : Str ⟨#[99]⟩ [99] ∧ Str ⟨#[103]⟩ [103] ∧ Str ⟨#[109, 115]⟩ [109, 115] ∧ Str ⟨#[104]⟩ [104] ∧ Str ⟨#[]⟩ [] := ⟨rfl, rfl, rfl, rfl, rfl⟩
theorem kind_step {w : List UInt8} {i : Nat} (hi : 1 ≤ i ∧ i ≤ 4) (h : ∀ j : Nat, 1 ≤ j → j < i → wordOf j ≠ w) (e : wordOf i = w) : kindOf w = i := by
  subst e
  exact kindOf_word (by omega)
theorem kind_none {w : List UInt8} (h : ∀ j : Nat, 1 ≤ j → j < 5 → wordOf j ≠ w) : kindOf w = 0 := by
  rcases Decidable.em (kindOf w = 0) with h0 | h0
  · exact h0
  · obtain ⟨h1, h2, h3⟩ := wordOf_kind h0
    exact absurd (by rw [Int.toNat_of_nonneg (by omega)]; exact h1) (h (kindOf w).toNat (by omega) (by omega))
end Go.Proofs.YtmaiggoinjldpaaDoor

/-
  Lines of StatsD by places: what parseS says, by where the marks stand. Nothing of the program.
-/
namespace Go.Proofs.YtmaiggoinjldpaaDoor
open Dc (D D0)

theorem cut_find {l : List UInt8} {n b : Nat} {c : UInt8} (hn : n ≤ l.length) (hb : findB l n c = b) :
    n ≤ b ∧ b ≤ l.length ∧ (cutB c (l.drop n)).1 = (l.drop n).take (b - n) ∧ ((b = l.length ∧ (cutB c (l.drop n)).2.1 = false ∧ (cutB c (l.drop n)).2.2 = []) ∨ (b < l.length ∧ (cutB c (l.drop n)).2.1 = true ∧ (cutB c (l.drop n)).2.2 = l.drop (b + 1))) := by
  have hle := findB_le l hn c
  rw [hb] at hle
  unfold findB at hb
  rcases cutB_cases c (l.drop n) with ⟨_, e⟩ | ⟨p, r, _, e1, e⟩
  · rw [e] at hb ⊢
    have hb : n + (l.drop n).length = b := hb
    rw [List.length_drop] at hb
    refine ⟨hle.1, hle.2, ?_, .inl ⟨by omega, rfl, rfl⟩⟩
    show l.drop n = _
    rw [List.take_of_length_le (by rw [List.length_drop]; omega)]
  · rw [e] at hb ⊢
    have hb : n + p.length = b := hb
    have hlen := congrArg List.length e1
    rw [List.length_append, List.length_cons, List.length_drop] at hlen
    refine ⟨hle.1, hle.2, ?_, .inr ⟨by omega, rfl, ?_⟩⟩
    · show p = _
      rw [e1, show b - n = p.length by omega, List.take_left]
    · show r = _
      rw [show b + 1 = n + (p.length + 1) by omega, ← List.drop_drop, e1, ← List.drop_drop, List.drop_left]
      rfl
/-- The text between two places. -/
def btw (l : List UInt8) (n b : Nat) : List UInt8 := (l.drop n).take (b - n)
theorem btw_len {l : List UInt8} {n b : Nat} (h1 : n ≤ b) (h2 : b ≤ l.length) : (btw l n b).length = b - n := by
  unfold btw
  rw [List.length_take, List.length_drop]; omega
theorem btw_zero (l : List UInt8) (b : Nat) : btw l 0 b = l.take b := by unfold btw; rw [List.drop_zero, Nat.sub_zero]
section
variable {l : List UInt8} {a b c e : Nat}
theorem parseS_num (ha : findB l 0 58 = a) : parseS l = if nameR (btw l 0 a) = false then failS 15 0 else if a = l.length then failS 11 l.length else valueS (a + 1) l.length (btw l 0 a) (l.drop (a + 1)) := by
  obtain ⟨_, h2, h3, h4⟩ := cut_find (Nat.zero_le _) ha
  rw [List.drop_zero] at h3 h4
  unfold parseS btw
  rw [List.drop_zero, h3]
  rcases h4 with ⟨h4, h5, _⟩ | ⟨h4, h5, h6⟩
  · rw [h5, if_pos rfl, if_pos h4]
  · rw [h5, h6, if_neg (show ¬ (true = false) by decide), if_neg (show ¬ a = l.length by omega), List.length_take, Nat.sub_zero, Nat.min_eq_left (by omega)]
theorem valueS_num (hn : a + 1 ≤ l.length) (hb : findB l (a + 1) 124 = b) (n : Nat) (name : List UInt8) : valueS (a + 1) n name (l.drop (a + 1)) = if (Dc.parse (btw l (a + 1) b)).2.1 ≠ 0 then failS 17 (a + 1) else if b = l.length then failS 11 n else wordS (a + 1) (b + 1) name (btw l (a + 1) b) (Dc.parse (btw l (a + 1) b)).1 (l.drop (b + 1)) := by
  obtain ⟨h1, h2, h3, h4⟩ := cut_find hn hb
  unfold valueS btw
  rw [h3]
  rcases h4 with ⟨h4, h5, _⟩ | ⟨h4, h5, h6⟩
  · rw [h5, if_pos rfl, if_pos h4]
  · rw [h5, h6, if_neg (show ¬ (true = false) by decide), if_neg (show ¬ b = l.length by omega), List.length_take, List.length_drop, Nat.min_eq_left (by omega), show a + 1 + (b - (a + 1)) + 1 = b + 1 by omega]
theorem wordS_num (hn : b + 1 ≤ l.length) (hc : findB l (b + 1) 124 = c) (a1 : Nat) (name v : List UInt8) (d : D) : wordS a1 (b + 1) name v d (l.drop (b + 1)) = if kindOf (btw l (b + 1) c) = 0 then failS 16 (b + 1) else if kindOf (btw l (b + 1) c) = 2 ∧ v.head? = some 45 then failS 26 a1 else if c = l.length then (oneS name (kindOf (btw l (b + 1) c)) d 1000000, 0, 0) else restS (c + 1) name (kindOf (btw l (b + 1) c)) d (l.drop (c + 1)) := by
  obtain ⟨h1, h2, h3, h4⟩ := cut_find hn hc
  unfold wordS btw
  rw [h3]
  rcases h4 with ⟨h4, h5, _⟩ | ⟨h4, h5, h6⟩
  · rw [h5, if_pos rfl, if_pos h4]
  · rw [h5, h6, if_neg (show ¬ (true = false) by decide), if_neg (show ¬ c = l.length by omega), List.length_take, List.length_drop, Nat.min_eq_left (by omega), show b + 1 + (c - (b + 1)) + 1 = c + 1 by omega]
theorem restS_end (c : Nat) (name : List UInt8) (k : Int) (d : D) {t : List UInt8} (h : t.head? ≠ some 64) : restS c name k d t = failS 11 c := restS_none h
theorem restS_num (h64 : (l.drop (c + 1)).head? = some 64) (he : findB l (c + 2) 124 = e) (name : List UInt8) (k : Int) (d : D) : restS (c + 1) name k d (l.drop (c + 1)) = if (rated (btw l (c + 2) e)).2.1 ≠ 0 ∨ (k = 2 ∧ (rated (btw l (c + 2) e)).1 ≠ 1000000) then failS 18 (c + 2) else if e = l.length then (oneS name k d (rated (btw l (c + 2) e)).1, 0, 0) else failS 11 e := by
  obtain ⟨t, ht⟩ : ∃ t, l.drop (c + 1) = 64 :: t := by
    cases hd : l.drop (c + 1) with
    | nil => rw [hd] at h64; cases h64
    | cons x t => rw [hd] at h64; injection h64 with h64; subst h64; exact ⟨t, rfl⟩
  have hl := congrArg List.length ht
  rw [List.length_drop, List.length_cons] at hl
  have ht2 : l.drop (c + 2) = t := by rw [show c + 2 = (c + 1) + 1 from rfl, ← List.drop_drop, ht]; rfl
  obtain ⟨h1, h2, h3, h4⟩ := cut_find (n := c + 2) (by omega) he
  rw [ht, restS_cons]
  rw [if_neg (by simp)]
  rw [ht2] at h3 h4
  unfold btw
  rw [ht2, h3]
  rcases h4 with ⟨h4, h5, _⟩ | ⟨h4, h5, h6⟩
  · rw [h5, if_pos h4, if_neg (show ¬ (false = true) by decide)]
  · rw [h5, if_neg (show ¬ e = l.length by omega), if_pos rfl, List.length_take, show t.length = l.length - (c + 2) by omega, Nat.min_eq_left (by omega), show c + 1 + 1 + (e - (c + 2)) = e by omega]
end
end Go.Proofs.YtmaiggoinjldpaaDoor

/-
  Lines of Graphite by places: what parseG says, by where the blanks stand. Nothing of the program.
-/
namespace Go.Proofs.YtmaiggoinjldpaaDoor
open Dc (D D0)

section
variable {l : List UInt8} {a b c : Nat}
theorem parseG_num (ha : findB l 0 32 = a) : parseG l = if nameR (btw l 0 a) = false then failS 15 0 else if a = l.length then failS 11 l.length else valueG (a + 1) l.length (btw l 0 a) (l.drop (a + 1)) := by
  obtain ⟨_, h2, h3, h4⟩ := cut_find (Nat.zero_le _) ha
  rw [List.drop_zero] at h3 h4
  unfold parseG btw
  rw [List.drop_zero, h3]
  rcases h4 with ⟨h4, h5, _⟩ | ⟨h4, h5, h6⟩
  · rw [h5, if_pos rfl, if_pos h4]
  · rw [h5, h6, if_neg (show ¬ (true = false) by decide), if_neg (show ¬ a = l.length by omega), List.length_take, Nat.sub_zero, Nat.min_eq_left (by omega)]
theorem valueG_num (hn : a + 1 ≤ l.length) (hb : findB l (a + 1) 32 = b) (n : Nat) (name : List UInt8) : valueG (a + 1) n name (l.drop (a + 1)) = if (Dc.parse (btw l (a + 1) b)).2.1 ≠ 0 then failS 17 (a + 1) else if b = l.length then failS 11 n else timeG (b + 1) name (Dc.parse (btw l (a + 1) b)).1 (l.drop (b + 1)) := by
  obtain ⟨h1, h2, h3, h4⟩ := cut_find hn hb
  unfold valueG btw
  rw [h3]
  rcases h4 with ⟨h4, h5, _⟩ | ⟨h4, h5, h6⟩
  · rw [h5, if_pos rfl, if_pos h4]
  · rw [h5, h6, if_neg (show ¬ (true = false) by decide), if_neg (show ¬ b = l.length by omega), List.length_take, List.length_drop, Nat.min_eq_left (by omega), show a + 1 + (b - (a + 1)) + 1 = b + 1 by omega]
theorem timeG_num (hn : b + 1 ≤ l.length) (hc : findB l (b + 1) 32 = c) (name : List UInt8) (d : D) : timeG (b + 1) name d (l.drop (b + 1)) = if (parsed (btw l (b + 1) c) 1 MaxT).2.1 ≠ 0 then failS 20 (b + 1) else if c = l.length then (oneG name d (parsed (btw l (b + 1) c) 1 MaxT).1, 0, 0) else failS 11 c := by
  obtain ⟨h1, h2, h3, h4⟩ := cut_find hn hc
  unfold timeG btw
  rw [h3]
  rcases h4 with ⟨h4, h5, _⟩ | ⟨h4, h5, h6⟩
  · rw [h5, if_neg (show ¬ (false = true) by decide), if_pos h4]
  · rw [h5, if_pos rfl, if_neg (show ¬ c = l.length by omega), List.length_take, List.length_drop, Nat.min_eq_left (by omega), show b + 1 + (c - (b + 1)) = c by omega]
end
end Go.Proofs.YtmaiggoinjldpaaDoor
