/-
  Contract of the document's Digits. No statement of the seat is proved here.
-/
import Derived.Test.YtmaiggoinjldpaaGreatDoorGrMem
import Derived.Lib.QuietBelow
namespace Go.Proofs.YtmaiggoinjldpaaGreatDoor
open Go.RowKit

theorem ten_part5 (k : Nat) (h : k < 10) : (([48, 49, 50, 51, 52, 53, 54, 55, 56, 57] : List UInt8).drop k).take (k + 1 - k) = [UInt8.ofNat (48 + k)] := by
  have key : ∀ j : Fin 10, (([48, 49, 50, 51, 52, 53, 54, 55, 56, 57] : List UInt8).drop j.val).take (j.val + 1 - j.val) = [UInt8.ofNat (48 + j.val)] := by decide
  exact key ⟨k, h⟩
theorem ten_str5 : Str ⟨#[48, 49, 50, 51, 52, 53, 54, 55, 56, 57]⟩ [48, 49, 50, 51, 52, 53, 54, 55, 56, 57] := rfl

set_option maxRecDepth 100000 in
set_option maxHeartbeats 4000000 in
theorem digits5_calls : ∀ (n : Nat), n < Two64 → ∀ w : World, Calls Tryz.prog 31 #[.int .u64 n] w fun e w' => e = .returned (.string ⟨(Lib.decDigits n).toArray⟩) ∧ ∃ k, w' = w.drewN k := by
  intro n
  induction n using Nat.strongRecOn with
  | ind n ih =>
    intro h64 w
    obtain ⟨x, hx⟩ : ∃ x : Int, x = (n : Int) := ⟨_, rfl⟩
    by_cases h10 : n < 10
    · have hx10 : x < 10 := by omega
      have hx0 : 0 ≤ x := by omega
      obtain ⟨t, ht, hsl⟩ := ten_str5.part (ki := .u64) (kj := .u64) (i := x) (j := x + 1) n (n + 1) hx (by omega) (by omega) (by simp; omega)
      rw [ten_part5 n h10, ← Lib.decDigits_one h10] at ht
      have he := ht.eq
      rw [← hx]
      have HE := Lib.hid he
      clear hx ih h64 he ht
      go_enter Tryz.func31, Tryz.ntmps31
      go_wp2_with fail
      go_ret
      exact ⟨congrArg (fun z => Ending.returned (.string z)) HE.out, 0, by rw [World.drewN_zero]⟩
    · have hx10 : ¬ x < 10 := by omega
      have hx0 : 0 ≤ x := by omega
      have hlt : n / 10 < n := by omega
      have hI := fun W => ih (n / 10) hlt (by unfold Two64 at h64 ⊢; omega) W
      have hq : IntKind.u64.wrap (x.tdiv 10) = ((n / 10 : Nat) : Int) := by rw [Int.tdiv_eq_ediv_of_nonneg hx0, IntKind.wrap_u64]; unfold Two64 at h64; omega
      obtain ⟨t, ht, hsl⟩ := ten_str5.part (ki := .u64) (kj := .u64) (i := x % 10) (j := x % 10 + 1) (n % 10) (n % 10 + 1) (by omega) (by omega) (by omega) (by simp; omega)
      rw [ten_part5 (n % 10) (by omega)] at ht
      have hz : (t.size : Int) = 1 := by rw [ht.size]; rfl
      have hlen : ((⟨(Lib.decDigits (n / 10)).toArray⟩ : ByteArray).size : Int) ≤ 20 := by
        rw [(Str.mk (Lib.decDigits (n / 10))).size]
        have := decDigits_len20 (u := n / 10) (by unfold Two64 at h64 ⊢; omega)
        omega
      have heq : ((⟨(Lib.decDigits (n / 10)).toArray⟩ : ByteArray) ++ t) = ⟨(Lib.decDigits n).toArray⟩ := by
        have := (Str.mk (Lib.decDigits (n / 10))).append ht
        rw [← decDigits_big h10] at this
        exact this.eq
      generalize (⟨(Lib.decDigits (n / 10)).toArray⟩ : ByteArray) = P at hI hlen heq
      rw [← hx, ← heq]
      have HI := Lib.hid hI
      have hm10 : 0 ≤ x % 10 ∧ x % 10 < 10 := by omega
      clear hx ih h64 heq ht hlt hI
      go_enter Tryz.func31, Tryz.ntmps31
      go_wp2_with fail
      go_quiet ((go_at_call 31; exact Calls.quiet_of (HI.out _)))
      go_wp2_with fail
      go_ret
      exact ⟨rfl, _, rfl⟩
end Go.Proofs.YtmaiggoinjldpaaGreatDoor
