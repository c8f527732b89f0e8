/-
  Contract of package dec's lift. No statement of the seat is proved here.
-/
import Derived.Test.YtikdolgcdkmmaaaShelf
import Derived.Test.YtikdolgcdkmmaaaMem
import Derived.Test.YtikdolgcdkmmaaaDMath
namespace Go.Proofs.Ytikdolgcdkmmaaa.Dc
open Go.RowKit

/-- A number times ten to the power, if there is room for it. -/
def lifted (c : Nat) (p : Int) : Nat × Bool := if c * 10 ^ p.toNat < Two64 then (c * 10 ^ p.toNat, true) else (0, false)

theorem mul10_calls (x : Nat) (hx : x < Two64) (w : World) :
    Calls Try.prog 72 #[.int .u64 x, .int .u64 10] w fun e w' => ∃ h l : Int, e = .returned (.tuple #[.int .u64 h, .int .u64 l]) ∧ w = w' ∧ Hid ((x * 10 < Two64 ∧ h = 0 ∧ l = ((x * 10 : Nat) : Int)) ∨ (Two64 ≤ x * 10 ∧ h ≠ 0)) := by
  refine (Try.bits_Mul64 x 10 hx (by decide) w).mono ?_
  rintro e w' ⟨rfl, rfl⟩
  refine ⟨_, _, rfl, rfl, ?_⟩
  unfold Hid
  unfold Two64
  rcases Nat.lt_or_ge (x * 10) 18446744073709551616 with h | h
  · exact Or.inl ⟨h, by rw [Nat.div_eq_of_lt h]; rfl, by rw [Nat.mod_eq_of_lt h]⟩
  · refine Or.inr ⟨h, ?_⟩
    have := Nat.div_pos h (by decide)
    omega

theorem pow_step (c : Nat) {i : Int} (h : 0 ≤ i) : c * 10 ^ (i + 1).toNat = c * 10 ^ i.toNat * 10 := by
  rw [show (i + 1).toNat = i.toNat + 1 by omega, Nat.pow_succ, Nat.mul_assoc]
theorem pow_mono {c : Nat} {i p : Int} (h : i ≤ p) : c * 10 ^ i.toNat ≤ c * 10 ^ p.toNat := Nat.mul_le_mul_left _ (Nat.pow_le_pow_right (by decide) (by omega))

set_option maxRecDepth 100000 in
theorem lift_calls (c : Nat) (p : Int) (w : World) (hc : c < Two64) (hp : p ≤ 9223372036854775807) :
    Calls Try.prog 61 #[.int .u64 c, .int .i64 p] w fun e w' => e = .returned (.tuple #[.int .u64 ((lifted c p).1 : Nat), .bool (lifted c p).2]) ∧ w = w' := by
  have HC := Lib.hid hc
  obtain ⟨z, hz⟩ : ∃ z : Int, z = (c : Int) := ⟨_, rfl⟩
  rw [← hz]
  have HZ := Lib.hid hz
  clear hc hz
  go_enter Try.func61, Try.ntmps61
  go_wp2_with fail
  go_loopw [0, 9] (fun v0 v9 wr => ∃ a i : Int, v0 = .int .u64 a ∧ v9 = .int .i64 i ∧ 0 ≤ i ∧ (i ≤ p ∨ i = 0) ∧ w = wr ∧ Hid (a = ((c * 10 ^ i.toNat : Nat) : Int) ∧ c * 10 ^ i.toNat < Two64)) (fun _ v9 _ => (p - intOf v9).toNat)
  case atStart => exact ⟨z, 0, rfl, rfl, by omega, by omega, rfl, ⟨by rw [HZ.out]; simp, by simpa using HC.out⟩⟩
  case round =>
    obtain ⟨a, i, rfl, rfl, hi0, hip, rfl, hsc⟩ := hrel
    by_cases hlt : i < p
    · obtain ⟨x, hx⟩ : ∃ x : Nat, c * 10 ^ i.toNat = x := ⟨_, rfl⟩
      rw [hx] at hsc
      have HX := Lib.hid hx
      have HS := hsc.out
      obtain ⟨rfl, hx64⟩ := HS
      have HX6 := Lib.hid hx64
      clear hx hsc hx64
      have HM := Lib.hid (mul10_calls x HX6.out w)
      obtain ⟨y, hy⟩ : ∃ y : Int, y = (x : Int) := ⟨_, rfl⟩
      rw [← hy] at HM ⊢
      have HY := Lib.hid hy
      clear hy
      go_wp2_with fail
      refine HM.out.mono ?_
      rintro e w' ⟨h, l, rfl, rfl, hh⟩
      rcases hh.out with ⟨h1, rfl, h2⟩ | ⟨h1, h2⟩
      · have H1 := Lib.hid (And.intro h1 h2)
        clear hh h1 h2
        go_wp2_with fail
        refine ⟨⟨l, i + 1, rfl, by go_num, by omega, by omega, by trivial, ⟨?_, ?_⟩⟩, by simp [intOf]; omega⟩
        · rw [pow_step c hi0, HX.out]; exact H1.out.2
        · rw [pow_step c hi0, HX.out]; exact H1.out.1
      · have H1 := Lib.hid h1
        clear hh h1
        go_wp2_with fail
        go_ret2
        have hn : lifted c p = (0, false) := by
          unfold lifted
          rw [if_neg]
          have := pow_mono (c := c) (show i + 1 ≤ p by omega)
          rw [pow_step c hi0, HX.out] at this
          have := H1.out
          omega
        rw [hn]
        exact ⟨rfl, rfl⟩
    · have hsc2 := hsc
      clear hsc
      go_wp2_with fail
      go_ret2
      have hp2 : i.toNat = p.toNat := by omega
      have hn : lifted c p = (c * 10 ^ p.toNat, true) := by
        unfold lifted
        rw [if_pos]
        rw [← hp2]; exact hsc2.out.2
      rw [hn, ← hp2, hsc2.out.1]
      exact ⟨rfl, rfl⟩
end Go.Proofs.Ytikdolgcdkmmaaa.Dc
