/-
  Package class: Count. No statement of the seat is proved here.
-/
import Derived.Test.YtfkdoimjeegljaaKBad
namespace Go.Proofs.Ytfkdoimjeegljaa
open Go.RowKit

/-- How many of the bytes below k are of a class. -/
def cntOf (c : Int) : Nat → Nat
  | 0 => 0
  | k + 1 => cntOf c k + if isOf c k then 1 else 0
theorem cntOf_le (c : Int) (k : Nat) : cntOf c k ≤ k := by
  induction k with
  | zero => exact Nat.le_refl _
  | succ k ih => unfold cntOf; split <;> omega
def cntC (c : Int) : Int := if isCls c then cntOf c 256 else 0
def Counts (w : World) (c : Int) (e : Ending) (w' : World) : Prop := e = .returned (.tuple #[.int .i64 (cntC c), .int .i64 (errC c)]) ∧ Below w.heap.size w w'
theorem cnt1 : cntC 1 = 65 := by decide +kernel
theorem cnt2 : cntC 2 = 66 := by decide +kernel
theorem cnt3 : cntC 3 = 92 := by decide +kernel
theorem cnt4 : cntC 4 = 10 := by decide +kernel

set_option maxRecDepth 100000 in
set_option maxHeartbeats 2000000 in
theorem count_calls (c : Int) (w : World) : Calls Try.prog 8 #[.int .i64 c] w (Counts w c) := by
  have HC := Lib.hid (isClass_calls c w)
  obtain ⟨q, hq⟩ : ∃ q, q = isCls c := ⟨_, rfl⟩
  rw [← hq] at HC
  have HQ := Lib.hid hq
  clear hq
  rcases q with _ | _
  · go_enter Try.func8, Try.ntmps8
    go_wp2_with fail
    refine HC.out.mono ?_
    rintro e w1 ⟨rfl, hb⟩
    have HB := Lib.hid hb
    clear hb HC
    go_wp2_with fail
    go_ret2
    exact ⟨by unfold cntC errC; rw [← HQ.out]; rfl, HB.out⟩
  · go_enter Try.func8, Try.ntmps8
    go_wp2_with fail
    refine HC.out.mono ?_
    rintro e w1 ⟨rfl, hb⟩
    have HB := Lib.hid hb
    clear hb HC
    go_wp2_with fail
    go_loopw [4, 9] (fun v4 v9 wr => ∃ m k : Nat, v4 = .int .i64 m ∧ v9 = .int .i64 k ∧ k ≤ 256 ∧ m ≤ k ∧ Hid (Below w.heap.size w wr ∧ m = cntOf c k)) (fun _ v9 _ => 256 - (intOf v9).toNat)
    case atStart => exact ⟨0, 0, rfl, rfl, by omega, by omega, ⟨HB.out, rfl⟩⟩
    case round =>
      obtain ⟨m, k, rfl, rfl, hk, hm, hrel⟩ := hrel
      clear HB
      by_cases hlt : k < 256
      · have hlt' : (k : Int) < 256 := by omega
        have hw8 : IntKind.u8.wrap (k : Int) = (k : Int) := by rw [IntKind.wrap_u8]; omega
        have hbb := is_calls c (k : Int) wr
        obtain ⟨o, ho⟩ : ∃ o, o = isOf c (k : Int) := ⟨_, rfl⟩
        rw [← ho] at hbb
        have HO := Lib.hid ho
        have HI := Lib.hid hbb
        clear ho hbb
        rcases o with _ | _
        · go_wp2_with fail
          refine HI.out.mono ?_
          rintro e w2 ⟨rfl, hb⟩
          have HB := Lib.hid (Below.trans hrel.out.1 (hb.mono hrel.out.1.size))
          clear hb HI
          go_wp2_with fail
          exact ⟨⟨m, k + 1, rfl, by go_num, by omega, by omega, ⟨HB.out, by rw [cntOf, ← HO.out, hrel.out.2]; rfl⟩⟩, by simp [intOf]; omega⟩
        · go_wp2_with fail
          refine HI.out.mono ?_
          rintro e w2 ⟨rfl, hb⟩
          have HB := Lib.hid (Below.trans hrel.out.1 (hb.mono hrel.out.1.size))
          clear hb HI
          go_wp2_with fail
          exact ⟨⟨m + 1, k + 1, by go_num, by go_num, by omega, by omega, ⟨HB.out, by rw [cntOf, ← HO.out, hrel.out.2]; rfl⟩⟩, by simp [intOf]; omega⟩
      · obtain rfl : 256 = k := by omega
        go_wp2_with fail
        go_ret2
        exact ⟨by unfold cntC errC; rw [← HQ.out, ← hrel.out.2]; rfl, hrel.out.1⟩
end Go.Proofs.Ytfkdoimjeegljaa
