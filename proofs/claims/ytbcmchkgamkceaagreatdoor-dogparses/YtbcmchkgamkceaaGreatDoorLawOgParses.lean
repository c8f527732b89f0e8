/-
  The walk of DogParses. No statement of the seat is proved here.
-/
import Derived.Test.YtbcmchkgamkceaaGreatDoorGrOgRefLine
namespace Go.Proofs.YtbcmchkgamkceaaGreatDoor
open Go.RowKit
open Dc (D D0)

/-- What is parsed is small. -/
theorem parseD_small {l : List UInt8} {m : Mt} {c a : Int} (hp : parseD l = (m, c, a)) : Small m := by
  rcases parseD_told l with ⟨c', a', e, _⟩ | ⟨m', e, hr, _⟩
  · rw [e] at hp
    injection hp with hp _
    rw [← hp]
    exact small00
  · rw [e] at hp
    injection hp with hp _
    rw [← hp]
    exact hr.small

set_option maxRecDepth 100000 in
set_option maxHeartbeats 4000000 in
theorem oparses_walk (s : ByteArray) (W : World) (ht : Tab W) : Calls Tryz.prog 5 #[.string s] W fun e w' => e = .returned (.bool true) ∧ Below W.heap.size W w' := by
  have HT := Lib.hid (fun W' (b : Below W.heap.size W W') => awake11_calls W' (ht.keep b))
  clear ht
  obtain ⟨l, hl⟩ : ∃ l, Str s l := ⟨_, Str.self s⟩
  have hsz : (s.size : Int) = (l.length : Int) := by rw [hl.size]
  have HS := Lib.hid hl
  clear hl
  go_enter Tryz.func5, Tryz.ntmps5
  rcases (by omega : (3000 < (s.size : Int) ∧ (s.size : Int) < 8180) ∨ 8200 < (s.size : Int) ∨ ¬ 3000 < (s.size : Int) ∨ (3000 < (s.size : Int) ∧ ¬ (s.size : Int) < 8180 ∧ ¬ 8200 < (s.size : Int))) with ⟨h1, h2⟩ | h1 | h1 | ⟨h1, h2, h3⟩
  iterate 2
   · go_wp2_with fail
     refine (HT.out _ (Below.refl _ _)).mono ?_
     rintro e w1 ⟨rfl, hb⟩
     have HB := Lib.hid hb
     clear hb
     go_wp2_with fail
     go_ret
     exact ⟨rfl, HB.out⟩
  iterate 2
   · obtain ⟨m, c, a, hp⟩ : ∃ m c a, parseD l = (m, c, a) := ⟨_, _, _, rfl⟩
     have HP := Lib.hid hp
     have HZ := Lib.hid (parseD_small hp)
     have HL := Lib.hid (show l.length ≤ 100000 by omega)
     clear hp
     go_wp2_with fail
     refine ((Kb.start W).oparse_ HS.out HL.out HP.out).mono ?_
     rintro e w1 ⟨s1, A1, n1, ca1, B1, k1, cb1, rfl, hb⟩
     have HB1 := Lib.hid (hb.olay2 (.string s1) (.int .i64 m.kind) (.slice A1 n1 ca1) (.int .i64 m.rate) (.slice B1 k1 cb1) (.int .i64 m.time) (.int .i64 c) (.int .i64 a))
     clear hb
     go_wp2_with fail
     refine (HB1.out.orparse_ HS.out HL.out HP.out).mono ?_
     rintro e w2 ⟨s2, A2, n2, ca2, B2, k2, cb2, rfl, hb⟩
     have HB2 := Lib.hid (hb.olay2 (.string s2) (.int .i64 m.kind) (.slice A2 n2 ca2) (.int .i64 m.rate) (.slice B2 k2 cb2) (.int .i64 m.time) (.int .i64 c) (.int .i64 a))
     clear hb HB1
     go_upto_region 5 with fail
     have HE := Lib.hid (HB2.out.requal_ (.tail _ (.head _)) (.head _) HZ.out (decide_eq_true rfl) ca1 cb1 ca2 cb2)
     obtain ⟨c0, c1, c2, c3, c4, c5⟩ := HB2.out.six (g := w1.heap.size) (.tail _ (.tail _ (.tail _ (.head _))))
     obtain ⟨d0, d1, d2, d3, d4, d5⟩ := HB2.out.six (g := w2.heap.size) (.tail _ (.head _))
     have f0 := HB2.out.cell (g := w1.heap.size + 1) (i := 0) (.tail _ (.tail _ (.head _))) rfl
     have f1 := HB2.out.cell (g := w1.heap.size + 1) (i := 1) (.tail _ (.tail _ (.head _))) rfl
     have g0 := HB2.out.cell (g := w2.heap.size + 1) (i := 0) (.head _) rfl
     have g1 := HB2.out.cell (g := w2.heap.size + 1) (i := 1) (.head _) rfl
     have q1 := fun w => feq_run (x := c) (y := a) (u := c) (v := a) (q := true) (decide_eq_true rfl) w
     have hg := fguard
     generalize World.alloc _ (.cells #[.int .i64 c, .int .i64 a] 42) = W5 at HB2 HE c0 c1 c2 c3 c4 c5 d0 d1 d2 d3 d4 d5 f0 f1 g0 g1 ⊢
     go_wp2_with fail
     refine HE.out.mono ?_
     rintro e w3 ⟨rfl, hb⟩
     have HB3 := Lib.hid hb
     clear hb HB2 HE c0 c1 c2 c3 c4 c5 d0 d1 d2 d3 d4 d5 f0 f1 g0 g1
     go_wp2_with fail
     refine (HT.out _ HB3.out.kept).mono ?_
     rintro e w4 ⟨rfl, hb⟩
     have HB4 := Lib.hid (HB3.out.next hb).kept
     clear hb HB3
     go_wp2_with fail
     go_ret
     exact ⟨rfl, HB4.out⟩
end Go.Proofs.YtbcmchkgamkceaaGreatDoor
