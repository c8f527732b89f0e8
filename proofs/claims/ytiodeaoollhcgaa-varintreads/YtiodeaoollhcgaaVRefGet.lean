/-
  The contract of the document's Get. No statement of the seat is proved here.
-/
import Derived.Test.YtiodeaoollhcgaaVGet
namespace Go.Proofs.Ytiodeaoollhcgaa
open Go.RowKit

/-- What the document's Get hands back. -/
def RGets (w : World) (r : Nat × Nat × Int) (e : Ending) (w' : World) : Prop :=
  e = .returned (.tuple #[.int .u64 r.1, .int .i64 r.2.1, .int .i64 r.2.2]) ∧ Same w w'

theorem rgets_of {w w' : World} {bs : List Int} {n k : Nat} {c : Int} (h : scan 0 0 bs = (n, k, c)) (hs : Same w w') (v : Value) (hv : v = .tuple #[.int .u64 n, .int .i64 k, .int .i64 c]) : RGets w (scan 0 0 bs) (.returned v) w' := by
  rw [h, hv]
  exact ⟨rfl, hs⟩

set_option maxRecDepth 100000 in
set_option maxHeartbeats 4000000 in
theorem rget_calls (w : World) (A : Option Addr) (n cap : Nat) (bs : List Int) (hl : bs.length = n) (hv : Lies w A (by8 bs)) (hs : ∀ z ∈ bs, 0 ≤ z ∧ z < 256) (hn : n ≤ maxLen) :
    Calls Try.prog 16 #[.slice A n cap] w (RGets w (scan 0 0 bs)) := by
  unfold maxLen at hn
  have HL := Lib.hid hl
  have HS := Lib.hid hs
  have HV := Lib.hid hv
  clear hl hv hs
  go_enter Try.func16, Try.ntmps16
  go_wp2_with fail
  go_loopw [5, 6, 7] (fun v5 v6 v7 wr => ∃ a p k : Nat, v5 = .int .u64 a ∧ v6 = .int .u64 p ∧ v7 = .int .i64 k ∧ k ≤ 9 ∧ k ≤ n ∧ Hid (p = 128 ^ k ∧ a < 128 ^ k ∧ scan 0 0 bs = scan k a (bs.drop k)) ∧ Same w wr) (fun _ _ v7 _ => n - (intOf v7).toNat)
  case atStart => exact ⟨0, 1, 0, rfl, rfl, rfl, by omega, by omega, ⟨rfl, by decide, rfl⟩, .refl _⟩
  case round =>
    obtain ⟨a, p, k, rfl, rfl, rfl, hk9, hkn, hsc, hsame⟩ := hrel
    by_cases hlt : k < n
    · have hltb : k < bs.length := by have := HL.out; omega
      obtain ⟨c, hc⟩ : ∃ c : Nat, bs.getD k 0 = (c : Int) := ⟨(bs.getD k 0).toNat, by have := HS.out _ (getD_mem hltb); omega⟩
      have hc256 : c < 256 := by have := HS.out _ (getD_mem hltb); omega
      obtain ⟨b, off, rfl, hcell⟩ := (HV.out.same hsame).at_ (i := k) (by rw [by8_length]; exact hltb)
      have hcell' : wr.cell? ⟨b, off + k, none⟩ = some (.int .u8 c) := by rw [hcell, ← hc]; simp [by8, hltb]
      have HC := Lib.hid (show scan 0 0 bs = scan k a ((c : Int) :: bs.drop (k + 1)) by rw [hsc.out.2.2, drop_getD hltb, hc])
      have HA := Lib.hid hsc.out.2.1
      have HP := Lib.hid hsc.out.1
      have HSA := Lib.hid hsame
      clear hc hsc hcell hsame HL HS HV
      have hlt' : (k : Int) < (n : Int) := by omega
      have hge' : (0 : Int) ≤ (k : Int) := by omega
      by_cases h9 : k = 9 ∧ 1 < c
      · have HQ := Lib.hid (HC.out.trans (scan_range h9.1 (by omega)))
        have ek : ((k : Int) == 9) = true := by simp; omega
        have hc1 : (1 : Int) < (c : Int) := by omega
        clear HC HA HP h9
        go_wp2_with fail
        refine bodyPost_ret (v := .tuple #[.int .u64 0, .int .i64 (k + 1 : Nat), .int .i64 10]) (by simp [results, Try.results16, go_sem]) rfl (rgets_of HQ.out HSA.out _ rfl)
      · obtain ⟨z, hz⟩ : ∃ z, z = p * (c % 128) := ⟨_, rfl⟩
        obtain ⟨y, hy⟩ : ∃ y, y = a + z := ⟨_, rfl⟩
        have hlow : k = 9 → c % 128 ≤ 1 := by omega
        have hz64 : z < 18446744073709551616 ∧ y < 18446744073709551616 := by
          rw [hy, hz, HP.out]
          exact sum_lt HA.out hk9 hlow
        have hm : IntKind.u64.wrap ((p : Int) * ((c : Int) % 128)) = (z : Int) := by
          have e : (p : Int) * ((c : Int) % 128) = (z : Int) := by rw [hz]; simp
          rw [e, IntKind.wrap_u64]
          omega
        have ha : IntKind.u64.wrap ((a : Int) + (z : Int)) = (y : Int) := by rw [IntKind.wrap_u64]; omega
        obtain ⟨p', hp'⟩ : ∃ p' : Nat, IntKind.u64.wrap ((p : Int) * 128) = (p' : Int) := ⟨(IntKind.u64.wrap ((p : Int) * 128)).toNat, by rw [IntKind.wrap_u64]; omega⟩
        have HPP := Lib.hid (show k < 9 → p' = 128 ^ (k + 1) by
          intro hk
          have h1 : 128 ^ (k + 1) ≤ 128 ^ 9 := Nat.pow_le_pow_right (by omega) (by omega)
          have h2 : (128 : Nat) ^ 9 = 9223372036854775808 := by decide
          have h3 := HP.out
          rw [IntKind.wrap_u64] at hp'
          rw [Nat.pow_succ] at h1 ⊢
          omega)
        have HZ := Lib.hid (show y = a + 128 ^ k * (c % 128) by rw [hy, hz, HP.out])
        clear hz hy hz64 HP
        by_cases h0 : 0 < k ∧ c = 0
        · have HQ := Lib.hid (HC.out.trans (scan_canon h0.1 (by omega)))
          have hk0 : (0 : Int) < (k : Int) := by omega
          have ec : ((c : Int) == 0) = true := by simp; omega
          have hc1 : ¬ (1 : Int) < (c : Int) := by omega
          have hc8 : (c : Int) < 128 := by omega
          clear HC HA h0 h9 hlow
          rcases Decidable.em (k = 9) with hk | hk
          · have ek : ((k : Int) == 9) = true := by simp; omega
            clear hk
            go_wp2_with fail
            refine bodyPost_ret (v := .tuple #[.int .u64 0, .int .i64 (k + 1 : Nat), .int .i64 21]) (by simp [results, Try.results16, go_sem]) rfl (rgets_of HQ.out HSA.out _ rfl)
          · have ek : ((k : Int) == 9) = false := by simp; omega
            clear hk
            go_wp2_with fail
            refine bodyPost_ret (v := .tuple #[.int .u64 0, .int .i64 (k + 1 : Nat), .int .i64 21]) (by simp [results, Try.results16, go_sem]) rfl (rgets_of HQ.out HSA.out _ rfl)
        · have hform : (((k : Int) == 9) = true ∧ ¬ (1 : Int) < (c : Int) ∧ (0 : Int) < (k : Int) ∧ ((c : Int) == 0) = false) ∨ (((k : Int) == 9) = false ∧ (0 : Int) < (k : Int) ∧ ((c : Int) == 0) = false) ∨ (((k : Int) == 9) = false ∧ ¬ (0 : Int) < (k : Int)) := by
            simp
            omega
          by_cases hb : c < 128
          · have hb' : (c : Int) < 128 := by omega
            have HQ := Lib.hid (show scan 0 0 bs = (y, k + 1, 0) by rw [HC.out, scan_last (by omega) (by omega) hb', Int.toNat_natCast, HZ.out])
            clear HC HA h9 h0 hlow
            rcases hform with ⟨ek, hc1, hk0, ec⟩ | ⟨ek, hk0, ec⟩ | ⟨ek, hk0⟩
            all_goals go_wp2_with fail
            all_goals refine bodyPost_ret (v := .tuple #[.int .u64 y, .int .i64 (k + 1 : Nat), .int .i64 0]) (by simp [results, Try.results16, go_sem]) rfl (rgets_of HQ.out HSA.out _ rfl)
          · have hb' : ¬ (c : Int) < 128 := by omega
            have hk8 : k < 9 := by omega
            have ek : ((k : Int) == 9) = false := by simp; omega
            have HQ := Lib.hid (show p' = 128 ^ (k + 1) ∧ y < 128 ^ (k + 1) ∧ scan 0 0 bs = scan (k + 1) y (bs.drop (k + 1)) from ⟨HPP.out hk8, by rw [HZ.out]; exact step_lt HA.out (by omega), by rw [HC.out, scan_more (by omega) (by omega) hb', Int.toNat_natCast, HZ.out]⟩)
            clear HC HA h9 h0 hlow hform
            go_wp2_with fail
            exact ⟨⟨y, p', k + 1, rfl, rfl, by go_num, by omega, by omega, HQ, HSA.out⟩, by simp [intOf]; omega⟩
    · obtain rfl : n = k := by omega
      have HQ := Lib.hid (show scan 0 0 bs = (0, n, 13) by rw [hsc.out.2.2, List.drop_of_length_le (by have := HL.out; omega)]; rfl)
      have HSA := Lib.hid hsame
      have hlt' : ¬ (n : Int) < (n : Int) := by omega
      clear hsc hsame
      go_wp2_with fail
      refine bodyPost_ret (v := .tuple #[.int .u64 0, .int .i64 n, .int .i64 13]) (by simp [results, Try.results16, go_sem]) rfl (rgets_of HQ.out HSA.out _ rfl)
end Go.Proofs.Ytiodeaoollhcgaa
