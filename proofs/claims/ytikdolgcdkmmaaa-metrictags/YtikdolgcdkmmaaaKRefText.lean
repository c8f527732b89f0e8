/-
  Layer 4: the document's Text. No statement of the seat is proved here.
-/
import Derived.Test.YtikdolgcdkmmaaaKT0
import Derived.Test.YtikdolgcdkmmaaaKRefBad
namespace Go.Proofs.Ytikdolgcdkmmaaa
open Go.RowKit

set_option maxRecDepth 100000 in
set_option maxHeartbeats 2000000 in
theorem rtext_calls (c : Int) (hc : isCls c = true) (s : ByteArray) (l : List UInt8) (h : Str s l) (hz : (s.size : Int) ≤ 100000) (lo hi : Int) (hlo : ¬ lo < 0) (hhi : ¬ hi < lo) (w : World) :
    Calls Try.prog 95 #[.int .i64 c, .string s, .int .i64 lo, .int .i64 hi] w (Faults w (faultOf c l lo hi)) := by
  have hn : s.size = l.length := h.size
  have HK := Lib.hid (rbad_calls c hc s l h hz)
  have HC := Lib.hid hc
  clear h hc
  have b0 := Box.new w 74 [.int .i64 0, .int .i64 0]
  have HB := Lib.hid (And.intro b0 ((Below.refl w.heap.size w).alloc (Nat.le_refl _) (.cells #[.int .i64 0, .int .i64 0] 74)))
  rcases (by omega : ((s.size : Int) < lo) ∨ (¬ (s.size : Int) < lo ∧ hi < (s.size : Int)) ∨ (¬ (s.size : Int) < lo ∧ ¬ hi < (s.size : Int))) with h3 | ⟨h3, h4⟩ | ⟨h3, h4⟩
  · have hr : faultOf c l lo hi = (13, (l.length : Int)) := by
      unfold faultOf; rw [if_neg, if_pos (by omega)]
      have := HC.out; simp [this]; omega
    have HR := Lib.hid hr
    clear hr
    go_enter Try.func95, Try.ntmps95
    go_wp2_with fail
    exact ret_fault rfl rfl rfl (Box.new w 74 [_, _]) (faults_of HR.out ((Below.refl w.heap.size w).alloc (Nat.le_refl _) _))
  · have hr : faultOf c l lo hi = (12, hi) := by
      unfold faultOf; rw [if_neg, if_neg (by omega), if_pos (by omega)]
      have := HC.out; simp [this]; omega
    have HR := Lib.hid hr
    clear hr
    go_enter Try.func95, Try.ntmps95
    go_wp2_with fail
    exact ret_fault rfl rfl rfl (Box.new w 74 [_, _]) (faults_of HR.out ((Below.refl w.heap.size w).alloc (Nat.le_refl _) _))
  · have hr : faultOf c l lo hi = if 0 ≤ bad c l then (14, bad c l) else (0, 0) := by
      unfold faultOf; rw [if_neg, if_neg (by omega), if_neg (by omega)]
      have := HC.out; simp [this]; omega
    obtain ⟨z, hz'⟩ : ∃ z, z = bad c l := ⟨_, rfl⟩
    rw [← hz'] at hr
    have HR := Lib.hid hr
    have HZ := Lib.hid hz'
    clear hr hz' b0
    go_enter Try.func95, Try.ntmps95
    go_wp2_with fail
    refine (HK.out _).mono ?_
    rintro e w2 ⟨rfl, hb⟩
    rw [← HZ.out]
    have b2 := HB.out.1.keep hb
    have HB2 := Lib.hid (And.intro b2 (Below.trans HB.out.2 (hb.mono HB.out.2.size)))
    have c0 : w2.cell? ⟨w.heap.size, 0, none⟩ = some (.int .i64 0) := b2.cell 0
    have c1 : w2.cell? ⟨w.heap.size, 1, none⟩ = some (.int .i64 0) := b2.cell 1
    have f0 := b2.frozen 0
    have f1 := b2.frozen 1
    clear hb b2 HB HK HZ
    by_cases hz0 : 0 ≤ z
    · have HR2 := Lib.hid (show faultOf c l lo hi = (14, z) by rw [HR.out, if_pos hz0])
      clear HR
      go_wp2_with fail
      exact ret_fault rfl rfl rfl (laidF_is HB2.out.1 HB2.out.2 _ _).1 (faults_of HR2.out (laidF_is HB2.out.1 HB2.out.2 _ _).2)
    · have HR2 := Lib.hid (show faultOf c l lo hi = (0, 0) by rw [HR.out, if_neg hz0])
      clear HR
      go_wp2_with fail
      exact ret_fault rfl rfl rfl (laidF_is HB2.out.1 HB2.out.2 _ _).1 (faults_of HR2.out (laidF_is HB2.out.1 HB2.out.2 _ _).2)
end Go.Proofs.Ytikdolgcdkmmaaa
