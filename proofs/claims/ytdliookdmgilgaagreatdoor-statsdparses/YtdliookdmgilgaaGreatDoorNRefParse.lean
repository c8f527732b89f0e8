/-
  Layer 5: the document's Value and Parse. No statement of the seat is proved here.
-/
import Derived.Test.YtdliookdmgilgaaGreatDoorGrDMath2
import Derived.Test.YtdliookdmgilgaaGreatDoorGrKRefBad
namespace Go.Proofs.YtdliookdmgilgaaGreatDoor
open Go.RowKit

def valued (v : Nat) : Int × Bool := if v ≤ MaxI then ((v : Int), true) else (0, false)

theorem valF_ge (v : Nat) (l : List UInt8) : v ≤ valF v l := by
  rw [valF_eq]
  have : v * 1 ≤ v * 10 ^ l.length := Nat.mul_le_mul_left _ (Nat.pos_of_ne_zero (by simp))
  omega
theorem val_take_le (l : List UInt8) (k : Nat) : val (l.take k) ≤ val l := by
  have h : val l = valF (val (l.take k)) (l.drop k) := by unfold val; rw [← valF_append, List.take_append_drop]
  rw [h]; exact valF_ge _ _

set_option maxRecDepth 100000 in
set_option maxHeartbeats 2000000 in
theorem value_calls (s : ByteArray) (l : List UInt8) (h : Str s l) (hd : Digs l) (hz : (s.size : Int) ≤ 1000) (w : World) :
    Calls Tryz.prog 71 #[.string s] w fun e w' => e = .returned (.tuple #[.int .i64 (valued (val l)).1, .bool (valued (val l)).2]) ∧ w' = w := by
  have hn : s.size = l.length := h.size
  have HS := Lib.hid (And.intro h hd)
  clear h hd
  obtain ⟨r, hr⟩ : ∃ r, r = valued (val l) := ⟨_, rfl⟩
  rw [← hr]
  have HR := Lib.hid hr
  clear hr
  go_enter Tryz.func71, Tryz.ntmps71
  go_wp2_with fail
  go_loopw [4, 5] (fun v4 v5 wr => ∃ k n : Nat, v4 = .int .i64 n ∧ v5 = .int .i64 k ∧ k ≤ l.length ∧ w = wr ∧ Hid (n = val (l.take k) ∧ n ≤ MaxI)) (fun _ v5 _ => l.length - (intOf v5).toNat)
  case atStart => exact ⟨0, 0, rfl, rfl, by omega, rfl, ⟨rfl, by decide⟩⟩
  case round =>
    obtain ⟨k, n, rfl, rfl, hkl, rfl, hrel⟩ := hrel
    by_cases hlt : k < l.length
    · have hidx := HS.out.1.index (i := (k : Int)) k rfl hlt
      have hlt' : (k : Int) < (s.size : Int) := by omega
      have hb : Dig l[k] := HS.out.2 _ (List.getElem_mem hlt)
      unfold Dig at hb
      have e : val (l.take (k + 1)) = 10 * val (l.take k) + (l[k].toNat - 48) := by rw [List.take_succ_eq_append_getElem hlt, val_snoc]
      obtain ⟨z, hzb⟩ : ∃ z : Int, z = (l[k].toNat : Int) := ⟨_, rfl⟩
      rw [← hzb] at hidx
      obtain ⟨x, hx⟩ : ∃ x : Int, x = (n : Int) := ⟨_, rfl⟩
      rw [← hx]
      have hz0 : 48 ≤ z ∧ z ≤ 57 := by omega
      obtain ⟨y, hy⟩ : ∃ y : Int, y = z - 48 := ⟨_, rfl⟩
      have hsub : IntKind.u8.wrap (z - 48) = y := by rw [IntKind.wrap_u8']; omega
      have hy0 : 0 ≤ y ∧ y ≤ 9 := by omega
      obtain ⟨q, hq⟩ : ∃ q : Int, q = (9223372036854775807 - y) / 10 := ⟨_, rfl⟩
      have hw1 : IntKind.i64.wrap (9223372036854775807 - y) = 9223372036854775807 - y := by rw [IntKind.wrap_i64]; omega
      have hw2 : IntKind.i64.wrap ((9223372036854775807 - y).tdiv 10) = q := by rw [Int.tdiv_eq_ediv_of_nonneg (by omega), IntKind.wrap_i64]; omega
      have hsm := hrel.out.2
      have hxx : 0 ≤ x ∧ x ≤ 9223372036854775807 := by unfold MaxI at hsm; omega
      by_cases hle : q < x
      · have HX := Lib.hid (show r = (0, false) by
          rw [HR.out]
          unfold valued
          have := val_take_le l (k + 1)
          rw [e, ← hrel.out.1] at this
          rw [if_neg (by unfold MaxI; omega)])
        clear hz0 hzb hx hq hb e hy hsm
        go_wp2_with fail
        go_ret2
        exact ⟨by rw [HX.out]; rfl, rfl⟩
      · have HX := Lib.hid (show ((10 * n + (l[k].toNat - 48) : Nat) : Int) = 10 * x + y ∧ 10 * n + (l[k].toNat - 48) = val (l.take (k + 1)) ∧ 10 * n + (l[k].toNat - 48) ≤ MaxI by
          refine ⟨by omega, by rw [e, ← hrel.out.1], by unfold MaxI; omega⟩)
        have h10 : 0 ≤ 10 * x ∧ 10 * x + y ≤ 9223372036854775807 := by omega
        have HL := Lib.hid hlt
        clear hz0 hzb hx hq hb e hy hsm
        go_wp2_with fail
        refine ⟨⟨k + 1, 10 * n + (l[k].toNat - 48), ?_, by go_num, HL.out, trivial, HX.out.2⟩, by have := HL.out; simp [intOf]; omega⟩
        exact congrArg (Value.int .i64) HX.out.1.symm
    · have hlt' : ¬ (k : Int) < (s.size : Int) := by omega
      have hke : l.take k = l := List.take_of_length_le (by omega)
      have HX := Lib.hid (show r = ((n : Int), true) by
        rw [HR.out]
        have := hrel.out
        rw [hke] at this
        unfold valued
        rw [← this.1, if_pos this.2])
      clear hke
      go_wp2_with fail
      go_ret2
      exact ⟨by rw [HX.out]; rfl, rfl⟩

theorem str_empty {s : ByteArray} {l : List UInt8} (h : Str s l) : (s.toList = []) ↔ l = [] := by rw [h.toList]

end Go.Proofs.YtdliookdmgilgaaGreatDoor
