/-
  Contract of the document's Put. No statement of the seat is proved here.
-/
import Derived.Test.YtiodeaoollhcgaaVPut
namespace Go.Proofs.Ytiodeaoollhcgaa
open Go.RowKit

theorem rput_calls (n : Nat) (w : World) (h : U64 n) : Calls Try.prog 10 #[.int .u64 n] w (GivesRow w (by8 (digs n))) := by
  have H := Lib.hid h
  have HT := Lib.hid (digs_ten h)
  clear h
  have HI0 := Lib.hid (show PutInv w n n (.slice (some ⟨w.heap.size, 0, none⟩) 0 0) (w.alloc (.cells #[] 5)) from ⟨[], own_empty w, rfl, H.out, (Below.refl _ _).alloc (Nat.le_refl _) _⟩)
  go_enter Try.func10, Try.ntmps10
  go_wp2_with fail
  go_loopw [0, 3] (fun v0 v3 wr => ∃ m : Nat, v0 = .int .u64 m ∧ PutInv w n m v3 wr) (fun v0 _ _ => (intOf v0).toNat)
  case atStart => exact ⟨n, rfl, HI0.out⟩
  case round =>
    obtain ⟨m, rfl, xs, hown, hxs, hu, hb⟩ := hrel
    clear HI0
    have HXS := Lib.hid hxs
    have HU := Lib.hid hu
    have hlx : xs.length ≤ 10 := by have := congrArg List.length hxs; rw [List.length_append] at this; have := HT.out; omega
    have hsz := hb.size
    have hvb := own_blocks hown
    have HB := Lib.hid hb
    have HVB := Lib.hid hvb
    have HO := Lib.hid hown
    clear hxs hu hb hvb hown
    by_cases hm : 128 ≤ m
    · have hm' : (127 : Int) < (m : Int) := by omega
      have hq : IntKind.u64.wrap ((m : Int) / 128) = (m : Int) / 128 := by rw [IntKind.wrap_u64]; have := HU.out; unfold U64 at this; omega
      have hu8 : IntKind.u8.wrap ((m : Int) % 128 + 128) = (m : Int) % 128 + 128 := by rw [IntKind.wrap_u8']; omega
      have HL := Lib.hid (lies_one wr ((m : Int) % 128 + 128) rfl)
      have hsz1 : w.heap.size ≤ (wr.alloc (.cells #[.int .u8 ((m : Int) % 128 + 128)] 5)).heap.size := by simp; omega
      have HO1 := Lib.hid (own_keep HO.out ((Below.refl _ _).alloc (Nat.le_refl _) (.cells #[.int .u8 ((m : Int) % 128 + 128)] 5)))
      go_wp2_with (at_builtin; refine wpList_append_row _ rfl (.tmp 7) (.tmp 12) rfl w.heap.size u3 xs.length (by8 xs) rfl HO1.out (some ⟨wr.heap.size, 0, none⟩) 1 1 (by8 [(m : Int) % 128 + 128]) rfl rfl HL.out by8_one (by omega) hsz1 ?_; intro v5 w5 hown5 hgr5 hob5; have HF := Lib.hid (PutInv.more HXS.out HU.out HB.out _ hown5 hgr5 HVB.out hm); clear hown5 hgr5 hob5 HO1 HL hsz1)
      exact ⟨⟨m / 128, by go_num, HF.out⟩, by simp [intOf]; omega⟩
    · have hm' : ¬ (127 : Int) < (m : Int) := by omega
      have HL := Lib.hid (lies_one wr (m : Int) rfl)
      have hsz1 : w.heap.size ≤ (wr.alloc (.cells #[.int .u8 (m : Int)] 5)).heap.size := by simp; omega
      have HO1 := Lib.hid (own_keep HO.out ((Below.refl _ _).alloc (Nat.le_refl _) (.cells #[.int .u8 (m : Int)] 5)))
      go_wp2_with (at_builtin; refine wpList_append_row _ rfl (.tmp 16) (.tmp 19) rfl w.heap.size u3 xs.length (by8 xs) rfl HO1.out (some ⟨wr.heap.size, 0, none⟩) 1 1 (by8 [(m : Int)]) rfl rfl HL.out by8_one (by omega) hsz1 ?_; intro v5 w5 hown5 hgr5 hob5; have HF := Lib.hid (PutInv.done HXS.out HB.out _ hown5 hgr5 HVB.out (by omega)); clear hown5 hgr5 hob5 HO1 HL hsz1)
      go_ret
      exact HF.out

end Go.Proofs.Ytiodeaoollhcgaa
