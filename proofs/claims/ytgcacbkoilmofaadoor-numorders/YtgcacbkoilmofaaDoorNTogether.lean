/-
  Package num: the number that digits are. No statement of the seat is proved here.
-/
import Derived.Test.YtgcacbkoilmofaaDoorNPut
namespace Go.Proofs.YtgcacbkoilmofaaDoor
open Go.RowKit

/-- What holds while the digits are put together. -/
structure TogAt (w : World) (l : List UInt8) (k : Nat) (wr : World) : Prop where
  at_ : k ≤ l.length
  so : PutSo w.heap.size w.heap.size (w.heap.size + 1) (val (l.take k)) w wr

theorem TogAt.step {w wr w' : World} {l : List UInt8} {k : Nat} (h : TogAt w l k wr) (hk : k < l.length) (hp : PutSo w.heap.size w.heap.size (w.heap.size + 1) (10 * val (l.take k) + (l[k].toNat - 48)) wr w') : TogAt w l (k + 1) w' := by
  refine ⟨hk, h.so.kept.trans hp.kept, ?_⟩
  have e : val (l.take (k + 1)) = 10 * val (l.take k) + (l[k].toNat - 48) := by rw [List.take_succ_eq_append_getElem hk, val_snoc]
  rw [e]
  exact hp.has

set_option maxRecDepth 100000 in
set_option maxHeartbeats 2000000 in
theorem together_calls (s : ByteArray) (l : List UInt8) (h : Str s l) (hd : Digs l) (hz : (s.size : Int) ≤ 1000) (w : World) :
    Calls Tryd.prog 18 #[.string s] w fun e w' => (∃ (n : Nat) (fits : Bool), e = .returned (.tuple #[.int .i64 n, .bool fits]) ∧ Tog (val l) n fits) ∧ Below w.heap.size w w' := by
  have hmf : ∀ (fn : Fn) (first cap : Array Value) (w : World), (Instr.makeFunc fn first cap).run Tryd.prog w = .ok (.func fn first cap) w := fun _ _ _ _ => rfl
  have hn : s.size = l.length := h.size
  have HS := Lib.hid (And.intro h hd)
  clear h hd
  have b1 := (Box.new w 3 [.int .i64 0]).alloc (.cells #[.bool true] 4)
  have b2 := Box.new (w.alloc (.cells #[.int .i64 0] 3)) 4 [.bool true]
  rw [size_alloc] at b2
  have hk2 := ((Below.refl w.heap.size w).alloc (Nat.le_refl _) (.cells #[.int .i64 0] 3)).alloc (by rw [size_alloc]; omega) (.cells #[.bool true] 4)
  have HG := Lib.hid (show TogAt w l 0 ((w.alloc (.cells #[.int .i64 0] 3)).alloc (.cells #[.bool true] 4)) from ⟨by omega, hk2, 0, true, b1, b2, ⟨by decide, fun _ => rfl, fun h => (by cases h)⟩⟩)
  clear b1 b2 hk2
  go_enter Tryd.func18, Tryd.ntmps18
  go_wp2_with fail
  go_loopw [11] (fun v11 wr => ∃ k : Nat, v11 = .int .i64 k ∧ k ≤ l.length ∧ Hid (TogAt w l k wr)) (fun v11 _ => l.length - (intOf v11).toNat)
  case atStart => exact ⟨0, rfl, by omega, HG⟩
  case round =>
    obtain ⟨k, rfl, hkl, hrel⟩ := hrel
    clear HG
    by_cases hlt : k < l.length
    · have hidx := HS.out.1.index (i := (k : Int)) k rfl hlt
      have hlt' : (k : Int) < (s.size : Int) := by omega
      have hb : Dig l[k] := HS.out.2 _ (List.getElem_mem hlt)
      unfold Dig at hb
      obtain ⟨n, fits, hbn, hbf, htg⟩ := hrel.out.so.has
      have hpc := put_calls wr w.heap.size w.heap.size (w.heap.size + 1) (val (l.take k)) n (l[k].toNat - 48) fits (by omega) hbn hbf htg (Nat.le_refl _) (by omega) (by omega)
      obtain ⟨z, hzb⟩ : ∃ z : Int, z = (l[k].toNat : Int) := ⟨_, rfl⟩
      rw [← hzb] at hidx
      rw [show (((l[k].toNat - 48 : Nat)) : Int) = z - 48 by omega] at hpc
      have hz0 : 48 ≤ z ∧ z ≤ 57 := by omega
      have hsub : IntKind.u8.wrap (z - 48) = z - 48 := by rw [IntKind.wrap_u8']; omega
      have HP := Lib.hid hpc
      have HLT := Lib.hid hlt
      clear hpc hzb hb hbn hbf htg
      go_wp2_with fail
      refine HP.out.mono ?_
      rintro e w3 ⟨rfl, hso⟩
      have HX := Lib.hid (hrel.out.step HLT.out hso)
      clear hso HP
      go_wp2_with fail
      exact ⟨⟨k + 1, by go_num, HLT.out, HX⟩, by have := HLT.out; simp [intOf]; omega⟩
    · have hlt' : ¬ (k : Int) < (s.size : Int) := by omega
      have hke : l.take k = l := List.take_of_length_le (by omega)
      obtain ⟨n, fits, hbn, hbf, htg⟩ := hrel.out.so.has
      rw [hke] at htg
      have cn : wr.cell? ⟨w.heap.size, 0, none⟩ = some (.int .i64 n) := hbn.cell 0
      have cf : wr.cell? ⟨w.heap.size + 1, 0, none⟩ = some (.bool fits) := hbf.cell 0
      have HT := Lib.hid (And.intro htg hrel.out.so.kept)
      clear hbn hbf htg hke hrel
      go_wp2_with fail
      go_quiet (fail)
      go_wp2_with fail
      go_ret2
      exact ⟨⟨n, fits, rfl, HT.out.1⟩, HT.out.2.trans (Same.below (Same.drewN _ _))⟩
end Go.Proofs.YtgcacbkoilmofaaDoor
