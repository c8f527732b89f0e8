/-
  The contract of math/bits.Len64. No statement of the seat is proved here.
-/
import Derived.Test.YtiodeaoollhcgaaChecked
import Derived.Test.YtiodeaoollhcgaaVMath
import Derived.Lib.Strings
import Derived.Lib.Slices
import Derived.Lib.Small
import Derived.Lib.Walk
namespace Go.Proofs.Ytiodeaoollhcgaa

/-- What is left behind shifts of s bits in all, read in the table, and s, are the length. -/
theorem table_len (x : Int) (h0 : 0 ≤ x) (h1 : x ≤ 18446744073709551615) (s : Nat) (y : Int) (hy : y.toNat = x.toNat / 2 ^ s) (hy0 : 0 ≤ y) (h8 : y < 256) (hs : s = 0 ∨ 2 ^ s ≤ x.toNat) : (s : Int) + Lib.len8 y = (Lib.bitLen x.toNat : Int) := by
  have h := Lib.len8_of y hy0 (by omega)
  rw [h, hy]
  rcases hs with rfl | hs
  · simp
  · rw [Lib.bitLen_shift s x.toNat hs (by omega)]
    omega

theorem len8_few (y : Int) (h0 : 0 ≤ y) (h8 : y < 256) : 0 ≤ Lib.len8 y ∧ Lib.len8 y ≤ 8 := by
  have h := Lib.len8_of y h0 (by omega)
  have l := Lib.bitLen_le8' y h0 (by omega)
  omega

set_option maxHeartbeats 4000000 in
set_option maxRecDepth 100000 in
theorem len64_calls (x : Int) (w : World) (h0 : 0 ≤ x) (h1 : x ≤ 18446744073709551615) :
    Calls Try.prog 27 #[.int .u64 x] w fun e w' => e = .returned (.int .i64 (Lib.bitLen x.toNat)) ∧ w = w' := by
  go_enter Try.func27, Try.ntmps27
  go_wp2
  all_goals go_ret
  all_goals refine ⟨congrArg (fun z => Ending.returned (.int .i64 z)) ?_, rfl⟩
  all_goals first
    | (have t := table_len x h0 h1 56 (x / 4294967296 / 65536 / 256 % 256) (by omega) (by omega) (by omega) (by omega); have l := len8_few (x / 4294967296 / 65536 / 256 % 256) (by omega) (by omega); omega)
    | (have t := table_len x h0 h1 48 (x / 4294967296 / 65536 % 256) (by omega) (by omega) (by omega) (by omega); have l := len8_few (x / 4294967296 / 65536 % 256) (by omega) (by omega); omega)
    | (have t := table_len x h0 h1 40 (x / 4294967296 / 256 % 256) (by omega) (by omega) (by omega) (by omega); have l := len8_few (x / 4294967296 / 256 % 256) (by omega) (by omega); omega)
    | (have t := table_len x h0 h1 32 (x / 4294967296 % 256) (by omega) (by omega) (by omega) (by omega); have l := len8_few (x / 4294967296 % 256) (by omega) (by omega); omega)
    | (have t := table_len x h0 h1 24 (x / 65536 / 256 % 256) (by omega) (by omega) (by omega) (by omega); have l := len8_few (x / 65536 / 256 % 256) (by omega) (by omega); omega)
    | (have t := table_len x h0 h1 16 (x / 65536 % 256) (by omega) (by omega) (by omega) (by omega); have l := len8_few (x / 65536 % 256) (by omega) (by omega); omega)
    | (have t := table_len x h0 h1 8 (x / 256 % 256) (by omega) (by omega) (by omega) (by omega); have l := len8_few (x / 256 % 256) (by omega) (by omega); omega)
    | (have t := table_len x h0 h1 0 (x % 256) (by omega) (by omega) (by omega) (by omega); have l := len8_few (x % 256) (by omega) (by omega); omega)
end Go.Proofs.Ytiodeaoollhcgaa
