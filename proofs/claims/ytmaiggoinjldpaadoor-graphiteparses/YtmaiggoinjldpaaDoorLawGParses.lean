/-
  The walk of GraphiteParses. No statement of the seat is proved here.
-/
import Derived.Test.YtmaiggoinjldpaaDoorGrAwake
import Derived.Test.YtmaiggoinjldpaaDoorGrRefParse
namespace Go.Proofs.YtmaiggoinjldpaaDoor
open Go.RowKit
open Dc (D D0)

theorem Kb.rgparse_ {w W : World} {L : List (Nat × TypeId × List Value)} {M : List (ByteArray × Option Addr × Nat × Option Addr × Nat × Mt)} {t : ByteArray} {l : List UInt8} {m : Mt} {c a : Int} (h : Kb w L M W) (hs : Str t l) (hl : l.length ≤ 9000) (hp : parseG l = (m, c, a)) : Calls Tryd.prog 9 #[.string t] W (PKb w L M m c a) :=
  (rgparse_calls hs hl W).mono fun e w' k => by
    obtain ⟨s, A, n, ca, B, k, cb, he, hm, hb⟩ := tells_says hp k
    exact ⟨s, A, n, ca, B, k, cb, he, (h.next hb).mAdd hm⟩
/-- What is parsed is small. -/
theorem parseG_small {l : List UInt8} {m : Mt} {c a : Int} (hp : parseG l = (m, c, a)) : Small m := by
  rcases parseG_told l with ⟨c', a', e, _, _⟩ | ⟨name, v, d, t, e, hs, _⟩
  · rw [e] at hp
    injection hp with hp _
    rw [← hp]
    exact ⟨by decide, by decide, fun d hd => (by cases hd), by decide, fun t ht => (by cases ht)⟩
  · rw [e] at hp
    injection hp with hp _
    rw [← hp]
    have hn := name_bytes hs.name
    refine ⟨by show name.length ≤ 1000; omega, by show 1 ≤ 1000; omega, fun d' hd => ?_, by show 0 ≤ 200; omega, fun t ht => by cases ht⟩
    rcases List.mem_singleton.1 hd with rfl
    exact hs.val.fits

set_option maxRecDepth 100000 in
set_option maxHeartbeats 4000000 in
theorem gparses_walk (s : ByteArray) (W : World) (ht : Tab W) : Calls Tryd.prog 3 #[.string s] W fun e w' => e = .returned (.bool true) ∧ Below W.heap.size W w' := by
  have HT := Lib.hid (fun W' (b : Below W.heap.size W W') => awake12_calls W' (ht.keep b))
  clear ht
  obtain ⟨l, hl⟩ : ∃ l, Str s l := ⟨_, Str.self s⟩
  have hsz : (s.size : Int) = (l.length : Int) := by rw [hl.size]
  have HS := Lib.hid hl
  clear hl
  go_enter Tryd.func3, Tryd.ntmps3
  by_cases hlong : 600 < (s.size : Int)
  · go_wp2_with fail
    refine (HT.out _ (Below.refl _ _)).mono ?_
    rintro e w1 ⟨rfl, hb⟩
    have HB := Lib.hid hb
    clear hb
    go_wp2_with fail
    go_ret
    exact ⟨rfl, HB.out⟩
  · obtain ⟨m, c, a, hp⟩ : ∃ m c a, parseG l = (m, c, a) := ⟨_, _, _, rfl⟩
    have HP := Lib.hid hp
    have HZ := Lib.hid (parseG_small hp)
    have HL := Lib.hid (show l.length ≤ 600 by omega)
    clear hp
    go_wp2_with fail
    refine ((Kb.start W).gparse_ HS.out (by have := HL.out; omega) HP.out).mono ?_
    rintro e w1 ⟨s1, A1, n1, ca1, B1, k1, cb1, rfl, hb⟩
    have HB1 := Lib.hid (hb.lay2 (.string s1) (.int .i64 m.kind) (.slice A1 n1 ca1) (.int .i64 m.rate) (.slice B1 k1 cb1) (.int .i64 m.time) (.int .i64 c) (.int .i64 a))
    clear hb
    go_wp2_with fail
    refine (HB1.out.rgparse_ HS.out (by have := HL.out; omega) HP.out).mono ?_
    rintro e w2 ⟨s2, A2, n2, ca2, B2, k2, cb2, rfl, hb⟩
    have HB2 := Lib.hid (hb.lay2 (.string s2) (.int .i64 m.kind) (.slice A2 n2 ca2) (.int .i64 m.rate) (.slice B2 k2 cb2) (.int .i64 m.time) (.int .i64 c) (.int .i64 a))
    clear hb HB1
    go_upto_region 5 with fail
    have HE := Lib.hid (HB2.out.requal_ (.tail _ (.head _)) (.head _) HZ.out (decide_eq_true rfl) ca1 cb1 ca2 cb2)
    obtain ⟨c0, c1, c2, c3, c4, c5⟩ := HB2.out.six (g := w1.heap.size) (.tail _ (.tail _ (.tail _ (.head _))))
    obtain ⟨d0, d1, d2, d3, d4, d5⟩ := HB2.out.six (g := w2.heap.size) (.tail _ (.head _))
    generalize World.alloc _ (.cells #[.int .i64 c, .int .i64 a] 29) = W5 at HB2 HE c0 c1 c2 c3 c4 c5 d0 d1 d2 d3 d4 d5 ⊢
    go_wp2_with fail
    refine HE.out.mono ?_
    rintro e w3 ⟨rfl, hb⟩
    have HB3 := Lib.hid hb
    clear hb HB2 HE c0 c1 c2 c3 c4 c5 d0 d1 d2 d3 d4 d5
    have f0 := HB3.out.cell (g := w1.heap.size + 1) (i := 0) (.tail _ (.tail _ (.head _))) rfl
    have f1 := HB3.out.cell (g := w1.heap.size + 1) (i := 1) (.tail _ (.tail _ (.head _))) rfl
    have g0 := HB3.out.cell (g := w2.heap.size + 1) (i := 0) (.head _) rfl
    have g1 := HB3.out.cell (g := w2.heap.size + 1) (i := 1) (.head _) rfl
    have q1 := fun w => feq_run (x := c) (y := a) (u := c) (v := a) (q := true) (decide_eq_true rfl) w
    have hg := fguard
    go_wp2_with fail
    refine (HT.out _ HB3.out.kept).mono ?_
    rintro e w4 ⟨rfl, hb⟩
    have HB4 := Lib.hid (HB3.out.next hb).kept
    clear hb HB3
    go_wp2_with fail
    go_ret
    exact ⟨rfl, HB4.out⟩
end Go.Proofs.YtmaiggoinjldpaaDoor
