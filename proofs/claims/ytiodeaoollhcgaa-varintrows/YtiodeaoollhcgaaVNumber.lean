/-
  The contract of package varint's number, whatever function tells the bytes. No statement of the seat is proved here.
-/
import Derived.Test.YtiodeaoollhcgaaVPut
import Derived.Lib.VarintBits
import Derived.WalkMore
namespace Go.Proofs.Ytiodeaoollhcgaa
open Go.RowKit

/-- The next byte, if there is one. -/
def Tells (b : Int) (is : Bool) (Post : World → Prop) (e : Ending) (w' : World) : Prop := e = .returned (.tuple #[.int .u8 b, .bool is]) ∧ Post w'

/-- How number ends: with what the bytes begin with; all bytes that were asked were told, and, if there were too few, that there is no next one. -/
def Counts (bs : List Int) (I : Nat → World → Prop) (J : World → Prop) (e : Ending) (w' : World) : Prop :=
  e = .returned (.tuple #[.int .u64 (scan 0 0 bs).1, .int .i64 (scan 0 0 bs).2.2]) ∧ (if (scan 0 0 bs).2.2 = 13 then J w' else I (scan 0 0 bs).2.1 w')

theorem and_low (c : Nat) (h : c < 256) : bits .andNot .u8 (c : Int) 128 = (c : Int) % 128 := by
  have := u8_andNot_nat c 128 h (by omega)
  refine this.trans ?_
  have e : 255 - 128 = 127 := rfl
  rw [e, nat_mask7]
  omega
theorem getD_mem {l : List Int} {k : Nat} (h : k < l.length) : l.getD k 0 ∈ l := by
  rw [List.getD_eq_getElem?_getD, List.getElem?_eq_getElem h]
  exact List.getElem_mem h
theorem drop_getD {l : List Int} {k : Nat} (h : k < l.length) : l.drop k = l.getD k 0 :: l.drop (k + 1) := by
  rw [List.getD_eq_getElem?_getD, List.getElem?_eq_getElem h]
  exact List.drop_eq_getElem_cons h

theorem or_join (a k c : Nat) (ha : a < 128 ^ k) (hc : 128 ^ k * c < 18446744073709551616) (ha6 : a < 18446744073709551616) : bits .or .u64 (a : Int) ((c : Int) * 2 ^ (7 * k)) = ((a + 128 ^ k * c : Nat) : Int) := by
  have e : (c : Int) * 2 ^ (7 * k) = ((128 ^ k * c : Nat) : Int) := by
    rw [show (128 : Nat) = 2 ^ 7 from rfl, ← Nat.pow_mul, Nat.mul_comm (2 ^ (7 * k)) c]
    simp
  rw [e, u64_or_nat a _ ha6 hc, Nat.or_comm]
  have := nat_join (7 * k) (128 ^ k * c) a (by rw [show (128 : Nat) = 2 ^ 7 from rfl, ← Nat.pow_mul]; exact Nat.mul_mod_right _ _) (by rw [Nat.pow_mul]; exact ha)
  rw [this, Nat.add_comm]

theorem or_shift {a k c : Nat} (ha : a < 128 ^ k) (hk : k ≤ 9) (hc : k = 9 → c % 128 ≤ 1) : bits .or .u64 (a : Int) (IntKind.u64.wrap ((c : Int) % 128 * 2 ^ (7 * k))) = ((a + 128 ^ k * (c % 128) : Nat) : Int) := by
  have hp : 128 ^ k * (c % 128) < 18446744073709551616 := by
    rcases Nat.lt_or_ge k 9 with h | h
    · have h1 : 128 ^ k ≤ 128 ^ 8 := Nat.pow_le_pow_right (by omega) (by omega)
      exact Nat.lt_of_le_of_lt (Nat.mul_le_mul h1 (show c % 128 ≤ 127 by omega)) (by decide)
    · obtain rfl : k = 9 := by omega
      exact Nat.lt_of_le_of_lt (Nat.mul_le_mul (Nat.le_refl _) (hc rfl)) (by decide)
  have hp2 : a < 18446744073709551616 := Nat.lt_of_lt_of_le ha (Nat.le_trans (Nat.pow_le_pow_right (by omega) hk) (by decide))
  have e : (c : Int) % 128 * 2 ^ (7 * k) = ((c % 128 : Nat) : Int) * 2 ^ (7 * k) := by rw [show ((c % 128 : Nat) : Int) = (c : Int) % 128 by omega]
  have e2 : ((c % 128 : Nat) : Int) * 2 ^ (7 * k) = ((128 ^ k * (c % 128) : Nat) : Int) := by
    rw [show (128 : Nat) ^ k = 2 ^ (7 * k) by rw [Nat.pow_mul], Nat.mul_comm (2 ^ (7 * k)) (c % 128)]
    simp
  have hw : IntKind.u64.wrap ((128 ^ k * (c % 128) : Nat) : Int) = ((128 ^ k * (c % 128) : Nat) : Int) := by
    rw [IntKind.wrap_u64]
    omega
  rw [e, e2, hw, ← e2]
  exact or_join a k (c % 128) ha hp hp2

theorem sum_lt {a k c : Nat} (ha : a < 128 ^ k) (hk : k ≤ 9) (hc : k = 9 → c % 128 ≤ 1) : 128 ^ k * (c % 128) < 18446744073709551616 ∧ a + 128 ^ k * (c % 128) < 18446744073709551616 := by
  rcases Nat.lt_or_ge k 9 with h | h
  · have h1 : 128 ^ k ≤ 128 ^ 8 := Nat.pow_le_pow_right (by omega) (by omega)
    have h2 := Nat.mul_le_mul h1 (show c % 128 ≤ 127 by omega)
    have h3 : (128 : Nat) ^ 8 = 72057594037927936 := by decide
    rw [h3] at h1 h2
    omega
  · obtain rfl : k = 9 := by omega
    have h2 := Nat.mul_le_mul (Nat.le_refl (128 ^ 9)) (hc rfl)
    have h3 : (128 : Nat) ^ 9 = 9223372036854775808 := by decide
    rw [h3] at h2 ha ⊢
    omega

theorem step_lt {a k c : Nat} (ha : a < 128 ^ k) (hc : c ≤ 127) : a + 128 ^ k * c < 128 ^ (k + 1) := by
  have h1 : 128 ^ k * c ≤ 128 ^ k * 127 := Nat.mul_le_mul (Nat.le_refl _) hc
  rw [Nat.pow_succ]
  omega

theorem counts_of {bs : List Int} {I : Nat → World → Prop} {J : World → Prop} {n k : Nat} {c : Int} {w' : World} (h : scan 0 0 bs = (n, k, c)) (hc : c ≠ 13) (hI : I k w') : Counts bs I J (.returned (.tuple #[.int .u64 n, .int .i64 c])) w' := by
  unfold Counts
  rw [h]
  exact ⟨rfl, by rw [if_neg hc]; exact hI⟩
theorem counts_short {bs : List Int} {I : Nat → World → Prop} {J : World → Prop} {n k : Nat} {w' : World} (h : scan 0 0 bs = (n, k, 13)) (hI : J w') : Counts bs I J (.returned (.tuple #[.int .u64 n, .int .i64 13])) w' := by
  unfold Counts
  rw [h]
  exact ⟨rfl, by rw [if_pos rfl]; exact hI⟩

set_option maxRecDepth 100000 in
set_option maxHeartbeats 4000000 in
theorem number_calls (w : World) (F : Nat) (caps : Array Value) (hF : ∀ args w, (callFunc F args).run Try.prog w = .ok (.enter F args) w) (bs : List Int) (hbs : ∀ z ∈ bs, 0 ≤ z ∧ z < 256) (I : Nat → World → Prop) (J : World → Prop)
    (hnext : ∀ k w1, k < bs.length → I k w1 → Calls Try.prog F caps w1 (Tells (bs.getD k 0) true (I (k + 1))))
    (hend : ∀ w1, I bs.length w1 → Calls Try.prog F caps w1 (Tells 0 false J)) (h0 : I 0 w) :
    Calls Try.prog 28 #[.func (.func F) #[] caps] w (Counts bs I J) := by
  have HF := Lib.hid hF
  have HB := Lib.hid hbs
  have HN := Lib.hid hnext
  have HE := Lib.hid hend
  have H0 := Lib.hid h0
  clear hF hbs hnext hend h0
  go_enter Try.func28, Try.ntmps28
  go_wp2_with fail
  go_step3
  go_wp2_with fail
  go_step3
  go_wp2_with fail
  go_loopw [4, 6] (fun v4 v6 wr => ∃ a k : Nat, v4 = .int .u64 a ∧ v6 = .int .i64 k ∧ k ≤ 9 ∧ k ≤ bs.length ∧ Hid (a < 128 ^ k ∧ scan 0 0 bs = scan k a (bs.drop k)) ∧ I k wr) (fun _ v6 _ => bs.length - (intOf v6).toNat)
  case atStart => exact ⟨0, 0, rfl, rfl, by omega, by omega, ⟨by decide, rfl⟩, H0.out⟩
  case round =>
    obtain ⟨a, k, rfl, rfl, hk9, hkl, hsc, hI⟩ := hrel
    have HI := Lib.hid hI
    clear hI H0
    by_cases hlt : k < bs.length
    · obtain ⟨c, hc⟩ : ∃ c : Nat, bs.getD k 0 = (c : Int) := ⟨(bs.getD k 0).toNat, by have := HB.out _ (getD_mem hlt); omega⟩
      have hc256 : c < 256 := by have := HB.out _ (getD_mem hlt); omega
      have hx := HN.out k wr hlt HI.out
      rw [hc] at hx
      have HX := Lib.hid hx
      have HC := Lib.hid (show scan 0 0 bs = scan k a ((c : Int) :: bs.drop (k + 1)) by rw [hsc.out.2, drop_getD hlt, hc])
      have HA := Lib.hid hsc.out.1
      clear hx hc hsc
      by_cases h9 : k = 9 ∧ 1 < c
      · have HS := Lib.hid (HC.out.trans (scan_range h9.1 (by omega)))
        have ek : ((k : Int) == 9) = true := by simp; omega
        have hc1 : (1 : Int) < (c : Int) := by omega
        clear HC HA h9
        go_wp2_with fail
        rw [HF.out]
        refine HX.out.mono ?_
        rintro e w1 ⟨rfl, hI1⟩
        have HI1 := Lib.hid hI1
        clear hI1
        go_wp2_with fail
        rw [Exit.noGoto_ret]
        go_ret2
        exact counts_of HS.out (by decide) HI1.out
      · by_cases h0 : 0 < k ∧ c = 0
        · have HS := Lib.hid (HC.out.trans (scan_canon h0.1 (by omega)))
          have hk0 : (0 : Int) < (k : Int) := by omega
          have ec : ((c : Int) == 0) = true := by simp; omega
          have hc1 : ¬ (1 : Int) < (c : Int) := by omega
          clear HC HA h0 h9
          rcases Decidable.em (k = 9) with hk | hk
          · have ek : ((k : Int) == 9) = true := by simp; omega
            clear hk
            go_wp2_with fail
            rw [HF.out]
            refine HX.out.mono ?_
            rintro e w1 ⟨rfl, hI1⟩
            have HI1 := Lib.hid hI1
            clear hI1
            go_wp2_with fail
            rw [Exit.noGoto_ret]
            go_ret2
            exact counts_of HS.out (by decide) HI1.out
          · have ek : ((k : Int) == 9) = false := by simp; omega
            clear hk
            go_wp2_with fail
            rw [HF.out]
            refine HX.out.mono ?_
            rintro e w1 ⟨rfl, hI1⟩
            have HI1 := Lib.hid hI1
            clear hI1
            go_wp2_with fail
            rw [Exit.noGoto_ret]
            go_ret2
            exact counts_of HS.out (by decide) HI1.out
        · have hand := and_low c hc256
          obtain ⟨y, hy⟩ : ∃ y, y = a + 128 ^ k * (c % 128) := ⟨_, rfl⟩
          have hor : bits .or .u64 (a : Int) (IntKind.u64.wrap ((c : Int) % 128 * 2 ^ (7 * k))) = (y : Int) := by
            rw [hy]
            exact or_shift HA.out hk9 (by omega)
          have HY := Lib.hid hy
          have hform : (((k : Int) == 9) = true ∧ ¬ (1 : Int) < (c : Int) ∧ (0 : Int) < (k : Int) ∧ ((c : Int) == 0) = false) ∨ (((k : Int) == 9) = false ∧ (0 : Int) < (k : Int) ∧ ((c : Int) == 0) = false) ∨ (((k : Int) == 9) = false ∧ ¬ (0 : Int) < (k : Int)) := by
            simp
            omega
          clear hy
          by_cases hb : c < 128
          · have hb' : (c : Int) < 128 := by omega
            have HS := Lib.hid (show scan 0 0 bs = (y, k + 1, 0) by rw [HC.out, scan_last (by omega) (by omega) hb', Int.toNat_natCast, HY.out])
            clear HC HA h9 h0
            rcases hform with ⟨ek, hc1, hk0, ec⟩ | ⟨ek, hk0, ec⟩ | ⟨ek, hk0⟩
            all_goals go_wp2_with fail
            all_goals rw [HF.out]
            all_goals refine HX.out.mono ?_
            all_goals rintro e w1 ⟨rfl, hI1⟩
            all_goals have HI1 := Lib.hid hI1
            all_goals clear hI1
            all_goals go_wp2_with fail
            all_goals rw [Exit.noGoto_ret]
            all_goals go_ret2
            all_goals exact counts_of HS.out (by decide) HI1.out
          · have hb' : ¬ (c : Int) < 128 := by omega
            have hk8 : k < 9 := by omega
            have HS := Lib.hid (show y < 128 ^ (k + 1) ∧ scan 0 0 bs = scan (k + 1) y (bs.drop (k + 1)) from ⟨by rw [HY.out]; exact step_lt HA.out (by omega), by rw [HC.out, scan_more (by omega) (by omega) hb', Int.toNat_natCast, HY.out]⟩)
            clear HC HA h9 h0
            rcases hform with ⟨ek, hc1, hk0, ec⟩ | ⟨ek, hk0, ec⟩ | ⟨ek, hk0⟩
            all_goals go_wp2_with fail
            all_goals rw [HF.out]
            all_goals refine HX.out.mono ?_
            all_goals rintro e w1 ⟨rfl, hI1⟩
            all_goals have HI1 := Lib.hid hI1
            all_goals clear hI1
            all_goals go_wp2_with fail
            all_goals exact ⟨⟨y, k + 1, rfl, by go_num, by omega, by omega, HS, HI1.out⟩, by simp [intOf]; omega⟩
    · obtain rfl : k = bs.length := by omega
      have HS := Lib.hid (show scan 0 0 bs = (0, bs.length, 13) by rw [hsc.out.2, List.drop_length]; rfl)
      have HX := Lib.hid (HE.out wr HI.out)
      clear hsc
      go_wp2_with fail
      rw [HF.out]
      refine HX.out.mono ?_
      rintro e w1 ⟨rfl, hI1⟩
      have HI1 := Lib.hid hI1
      clear hI1
      go_wp2_with fail
      rw [Exit.noGoto_ret]
      go_ret2
      exact counts_short HS.out HI1.out
end Go.Proofs.Ytiodeaoollhcgaa
