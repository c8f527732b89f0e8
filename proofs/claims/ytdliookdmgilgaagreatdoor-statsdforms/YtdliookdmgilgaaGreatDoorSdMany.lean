/-
  Layer 10: many. No statement of the seat is proved here.
-/
import Derived.Test.YtdliookdmgilgaaGreatDoorGrSdSLine
namespace Go.Proofs.YtdliookdmgilgaaGreatDoor
open Go.RowKit
open Dc (D D0)

set_option maxRecDepth 100000 in
set_option maxHeartbeats 4000000 in
theorem many_calls (n : Nat) (hn : n ≤ 5) (w : World) : Calls Tryz.prog 25 #[.int .i64 n] w fun e w' => e = .returned (.string ⟨(List.replicate n (48 : UInt8)).toArray⟩) ∧ Below w.heap.size w w' := by
  have gn : (n : Int) ≤ 5 := by omega
  go_enter Tryz.func25, Tryz.ntmps25
  go_wp2_with fail
  go_loopw [3, 4] (fun v3 v4 wr => ∃ (o : ByteArray) (i : Nat), v3 = .string o ∧ v4 = .int .i64 i ∧ i ≤ n ∧ w = wr ∧ (o.size : Int) = (i : Int) ∧ Hid (Str o (List.replicate i 48))) (fun _ v4 _ => n - (intOf v4).toNat)
  case atStart => exact ⟨⟨#[]⟩, 0, rfl, rfl, by omega, rfl, rfl, rfl⟩
  case round =>
    obtain ⟨o, i, rfl, rfl, hin, rfl, hsz, hst⟩ := hrel
    by_cases hlt : i < n
    · have g1 : (i : Int) < (n : Int) := by omega
      have g2 : (i : Int) < 5 := by omega
      have hap := hst.out.append (show Str ⟨#[48]⟩ [48] from rfl)
      have HAP := Lib.hid hap
      have hz1 : ((⟨#[48]⟩ : ByteArray).size : Int) = 1 := rfl
      have hsz2 : (o ++ (⟨#[48]⟩ : ByteArray)).size = o.size + 1 := by rw [hap.size]; have := hst.out.size; simp at this ⊢; omega
      have HZ := Lib.hid hsz2
      clear hap hsz2
      go_wp2_with fail
      refine ⟨⟨_, i + 1, rfl, by go_num, by omega, trivial, by rw [HZ.out]; omega, ?_⟩, by simp [intOf]; omega⟩
      have := HAP.out
      rw [← List.replicate_succ'] at this
      exact this
    · obtain rfl : i = n := by omega
      have g1 : ¬ (i : Int) < (i : Int) := by omega
      have HE := Lib.hid hst.out.eq
      go_wp2_with fail
      go_ret
      exact ⟨by rw [HE.out]; first | done | rfl, Below.refl _ _⟩
end Go.Proofs.YtdliookdmgilgaaGreatDoor
