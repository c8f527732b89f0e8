/-
  Contracts of package varint's Zig and Zag, and of the document's Zig. No statement of the seat is proved here.
-/
import Derived.Test.YtiodeaoollhcgaaVPut
namespace Go.Proofs.Ytiodeaoollhcgaa
open Go.RowKit

/-- What Zig is. -/
def zig (n : Int) : Int := if 0 ≤ n then 2 * n else -2 * n - 1
/-- What Zag is. -/
def zag (m : Int) : Int := if m % 2 = 0 then m / 2 else -(m / 2) - 1

theorem zag_zig (n : Int) : zag (zig n) = n := by
  unfold zag zig
  split <;> split <;> omega
theorem zig_zag (m : Int) (h : 0 ≤ m) : zig (zag m) = m := by
  unfold zag zig
  split <;> split <;> omega

theorem turning_calls (b : Bool) (w : World) : Calls Try.prog 36 #[.bool b] w fun e w' => e = .returned (.func (.func 38) #[] #[.pointer (some ⟨w.heap.size, 0, none⟩)]) ∧ w' = w.alloc (.cells #[.bool b] 4) := by
  have hmf : ∀ (fn : Fn) (first cap : Array Value) (w : World), (Instr.makeFunc fn first cap).run Try.prog w = .ok (.func fn first cap) w := fun _ _ _ _ => rfl
  go_enter Try.func36, Try.ntmps36
  go_wp2_with fail
  go_ret
  exact ⟨rfl, rfl⟩

/-- A word, or all of its bits turned round. -/
def turned (b : Bool) (x : Int) : Int := if b = true then 18446744073709551615 - x else x

theorem xor_all (x : Int) (h0 : 0 ≤ x) (h1 : x ≤ 18446744073709551615) : bits .xor .u64 IntKind.u64.max x = 18446744073709551615 - x := by
  obtain ⟨k, rfl⟩ := Int.eq_ofNat_of_zero_le h0
  have hk : k < 18446744073709551616 := by omega
  show IntKind.u64.wrap ((BitVec.ofInt 64 IntKind.u64.max ^^^ BitVec.ofInt 64 (k : Int)).toNat : Int) = _
  have e : BitVec.ofInt 64 IntKind.u64.max = BitVec.allOnes 64 := by decide
  rw [e, BitVec.allOnes_xor, BitVec.toNat_not, ofInt_u64 k hk, IntKind.wrap_u64]
  omega

theorem turned_calls (b : Bool) (x : Int) (g : Nat) (w : World) (hb : Box w g 4 [.bool b]) (h0 : 0 ≤ x) (h1 : x ≤ 18446744073709551615) :
    Calls Try.prog 38 #[.int .u64 x, .pointer (some ⟨g, 0, none⟩)] w fun e w' => e = .returned (.int .u64 (turned b x)) ∧ w = w' := by
  have c0 : w.cell? ⟨g, 0, none⟩ = some (.bool b) := hb.cell 0
  clear hb
  have HX := Lib.hid (xor_all x h0 h1)
  cases b
  · go_enter Try.func38, Try.ntmps38
    go_wp2_with fail
    go_ret
    exact ⟨rfl, rfl⟩
  · go_enter Try.func38, Try.ntmps38
    go_wp2_with fail
    go_ret
    refine ⟨congrArg (fun z => Ending.returned (.int .u64 z)) ?_, rfl⟩
    exact HX.out

theorem zig_calls (n : Int) (w : World) (h0 : -9223372036854775808 ≤ n) (h1 : n ≤ 9223372036854775807) :
    Calls Try.prog 23 #[.int .i64 n] w fun e w' => e = .returned (.int .u64 (zig n)) ∧ Below w.heap.size w w' := by
  have HF := Lib.hid (show ∀ args w, (callFunc 38 args).run Try.prog w = .ok (.enter 38 args) w from fun _ _ => by kernel_rfl)
  go_enter Try.func23, Try.ntmps23
  go_wp2_with fail
  refine (turning_calls _ w).mono ?_
  rintro e w1 ⟨rfl, rfl⟩
  have hbx := Box.new w 4 [.bool (decide (n < 0))]
  go_wp2_with fail
  refine (turned_calls _ _ _ _ hbx (by rw [IntKind.wrap_u64]; omega) (by rw [IntKind.wrap_u64]; omega)).mono ?_
  rintro e w1 ⟨rfl, rfl⟩
  go_wp2_with fail
  go_ret
  refine ⟨congrArg (fun z => Ending.returned (.int .u64 z)) ?_, (Below.refl _ _).alloc (Nat.le_refl _) _⟩
  rw [IntKind.wrap_u64, IntKind.wrap_u64]
  unfold turned zig
  by_cases hn : n < 0
  · rw [if_pos (by simpa using hn), if_neg (by omega)]
    omega
  · rw [if_neg (by simpa using hn), if_pos (by omega)]
    omega

theorem rzig_calls (n : Int) (w : World) (h0 : -9223372036854775808 ≤ n) (h1 : n ≤ 9223372036854775807) :
    Calls Try.prog 24 #[.int .i64 n] w fun e w' => e = .returned (.int .u64 (zig n)) ∧ w = w' := by
  by_cases hn : 0 ≤ n
  · have HZ := Lib.hid (show zig n = 2 * n by unfold zig; rw [if_pos hn])
    go_enter Try.func24, Try.ntmps24
    go_wp2_with fail
    go_ret
    refine ⟨congrArg (fun z => Ending.returned (.int .u64 z)) ?_, rfl⟩
    rw [HZ.out]
  · have HZ := Lib.hid (show zig n = -2 * n - 1 by unfold zig; rw [if_neg hn])
    go_enter Try.func24, Try.ntmps24
    go_wp2_with fail
    go_ret
    refine ⟨congrArg (fun z => Ending.returned (.int .u64 z)) ?_, rfl⟩
    rw [HZ.out]
    simp only [IntKind.wrap_u64]
    omega

theorem zag_calls (m : Int) (w : World) (h0 : 0 ≤ m) (h1 : m ≤ 18446744073709551615) :
    Calls Try.prog 25 #[.int .u64 m] w fun e w' => e = .returned (.int .i64 (zag m)) ∧ Below w.heap.size w w' := by
  have hand : bits .and .u64 m 1 = m % 2 := by
    have := u64_and m 1 h0 (by omega) (by omega) (by omega)
    rw [this]
    have e : (1 : Int).toNat = 1 := rfl
    rw [e, nat_mask1]
    omega
  go_enter Try.func25, Try.ntmps25
  go_wp2_with fail
  refine (turning_calls _ w).mono ?_
  rintro e w1 ⟨rfl, rfl⟩
  have hbx := Box.new w 4 [.bool (m % 2 == 1)]
  go_wp2_with fail
  refine (turned_calls _ _ _ _ hbx (by omega) (by omega)).mono ?_
  rintro e w1 ⟨rfl, rfl⟩
  go_wp2_with fail
  go_ret
  refine ⟨congrArg (fun z => Ending.returned (.int .i64 z)) ?_, (Below.refl _ _).alloc (Nat.le_refl _) _⟩
  unfold wrap64
  unfold turned zag
  by_cases hm : m % 2 = 0
  · rw [if_neg (by simp; omega), if_pos hm]
    omega
  · rw [if_pos (by simp; omega), if_neg hm]
    omega
end Go.Proofs.Ytiodeaoollhcgaa
