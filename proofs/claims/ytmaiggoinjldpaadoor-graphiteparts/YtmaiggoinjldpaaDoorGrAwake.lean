/-
  Layer 12: what the laws call, with its answer named; awake. No statement of the seat is proved here.
-/
import Derived.Test.YtmaiggoinjldpaaDoorGrGrParts
import Derived.Test.YtmaiggoinjldpaaDoorGrLine
import Derived.Test.YtmaiggoinjldpaaDoorGrNRate
namespace Go.Proofs.YtmaiggoinjldpaaDoor
open Go.RowKit
open Dc (D D0)

section
variable {w W : World} {L : List (Nat × TypeId × List Value)} {M : List (ByteArray × Option Addr × Nat × Option Addr × Nat × Mt)}
theorem Kb.gparse_ {t : ByteArray} {l : List UInt8} {m : Mt} {c a : Int} (h : Kb w L M W) (hs : Str t l) (hl : l.length ≤ 9000) (hp : parseG l = (m, c, a)) : Calls Tryd.prog 8 #[.string t] W (PKb w L M m c a) :=
  (gparse_calls hs hl W).mono fun e w' k => by
    obtain ⟨s, A, n, ca, B, k, cb, he, hm, hb⟩ := tells_says hp k
    exact ⟨s, A, n, ca, B, k, cb, he, (h.next hb).mAdd hm⟩
theorem Kb.gline_ {s : ByteArray} {A B : Option Addr} {n k : Nat} {m : Mt} {t : List UInt8} {c : Int} (h : Kb w L M W) (hm : (s, A, n, B, k, m) ∈ M) (z : Small m) (ht : Tab w) (hl : lineGT m = t) (hc : metricE m 3 = c) (ca cb : Nat) :
    Calls Tryd.prog 12 #[.agg #[.string s, .int .i64 m.kind, .slice A n ca, .int .i64 m.rate, .slice B k cb, .int .i64 m.time]] W fun e w' => e = .returned (.tuple #[.string ⟨t.toArray⟩, .int .i64 c]) ∧ Kb w L M w' := by
  have := gline_calls (ca := ca) (cb := cb) (h.m hm) z (ht.keep h.kept)
  rw [hl, hc] at this
  exact this.mono fun e w' k => ⟨k.1, h.next k.2⟩
end

def mG : Mt := ⟨[97, 46, 98], 2, [⟨true, 15, -1⟩], 1000000, [], 1700000000⟩
theorem ag1 : parseG [97, 46, 98, 32, 45, 49, 46, 53, 48, 32, 49, 55, 48, 48, 48, 48, 48, 48, 48, 48] = (mG, 0, 0) := by decide +kernel
theorem ag2 : parseG [97, 32, 49, 32, 48] = (M0, 20, 4) := by decide +kernel
theorem ag3 : parseG [97, 32, 32, 49, 32, 53] = (M0, 17, 2) := by decide +kernel
theorem ag4 : parseG [97, 32, 49, 32, 53, 32] = (M0, 11, 5) := by decide +kernel
theorem ag5 : lineGT mG = [97, 46, 98, 32, 45, 49, 46, 53, 32, 49, 55, 48, 48, 48, 48, 48, 48, 48, 48] := by decide +kernel
theorem ag6 : metricE mG 3 = 0 := by decide +kernel
theorem small_mG : Small mG := ⟨by decide, by decide, by intro d hd; rcases List.mem_singleton.1 hd with rfl; exact ⟨by decide, by decide, by decide⟩, by decide, by intro t ht; cases ht⟩
set_option maxRecDepth 100000 in
set_option maxHeartbeats 4000000 in
theorem awake12_calls (w : World) (ht : Tab w) : Calls Tryd.prog 7 #[] w fun e w' => e = .returned (.bool true) ∧ Below w.heap.size w w' := by
  have HT := Lib.hid ht
  clear ht
  go_enter Tryd.func7, Tryd.ntmps7
  go_wp2_with fail
  refine ((Kb.start w).gparse_ (l := [97, 46, 98, 32, 45, 49, 46, 53, 48, 32, 49, 55, 48, 48, 48, 48, 48, 48, 48, 48]) (Str.mk _) (by decide) ag1).mono ?_
  rintro e w1 ⟨s1, A1, n1, ca1, B1, k1, cb1, rfl, hb⟩
  simp only [show mG.kind = 2 from rfl, show mG.rate = 1000000 from rfl, show mG.time = 1700000000 from rfl]
  have hn1 : n1 = 1 := (hb.m (.head _)).vlen.symm
  have hk1 : k1 = 0 := (hb.m (.head _)).tlen.symm
  subst hn1 hk1
  have HB1 := Lib.hid (hb.lay2 (.string s1) (.int .i64 2) (.slice A1 1 ca1) (.int .i64 1000000) (.slice B1 0 cb1) (.int .i64 1700000000) (.int .i64 0) (.int .i64 0))
  clear hb
  have HL := Lib.hid (HB1.out.gline_ (.head _) small_mG HT.out ag5 ag6 ca1 cb1)
  simp only [show mG.kind = 2 from rfl, show mG.rate = 1000000 from rfl, show mG.time = 1700000000 from rfl] at HL
  go_wp2_with fail
  refine HL.out.mono ?_
  rintro e w2 ⟨rfl, hb⟩
  have HB2 := Lib.hid hb
  clear hb HL HB1
  go_wp2_with fail
  refine (HB2.out.gparse_ (l := [97, 32, 49, 32, 48]) (Str.mk _) (by decide) ag2).mono ?_
  rintro e w3 ⟨s3, A3, n3, ca3, B3, k3, cb3, rfl, hb⟩
  simp only [show M0.kind = 0 from rfl, show M0.rate = 0 from rfl, show M0.time = 0 from rfl]
  have HB3 := Lib.hid (hb.lay2 (.string s3) (.int .i64 0) (.slice A3 n3 ca3) (.int .i64 0) (.slice B3 k3 cb3) (.int .i64 0) (.int .i64 20) (.int .i64 4))
  clear hb HB2
  go_wp2_with fail
  refine (HB3.out.gparse_ (l := [97, 32, 32, 49, 32, 53]) (Str.mk _) (by decide) ag3).mono ?_
  rintro e w4 ⟨s4, A4, n4, ca4, B4, k4, cb4, rfl, hb⟩
  simp only [show M0.kind = 0 from rfl, show M0.rate = 0 from rfl, show M0.time = 0 from rfl]
  have HB4 := Lib.hid (hb.lay2 (.string s4) (.int .i64 0) (.slice A4 n4 ca4) (.int .i64 0) (.slice B4 k4 cb4) (.int .i64 0) (.int .i64 17) (.int .i64 2))
  clear hb HB3
  go_wp2_with fail
  refine (HB4.out.gparse_ (l := [97, 32, 49, 32, 53, 32]) (Str.mk _) (by decide) ag4).mono ?_
  rintro e w5 ⟨s5, A5, n5, ca5, B5, k5, cb5, rfl, hb⟩
  simp only [show M0.kind = 0 from rfl, show M0.rate = 0 from rfl, show M0.time = 0 from rfl]
  have HB5 := Lib.hid (hb.lay2 (.string s5) (.int .i64 0) (.slice A5 n5 ca5) (.int .i64 0) (.slice B5 k5 cb5) (.int .i64 0) (.int .i64 11) (.int .i64 5))
  clear hb HB4
  obtain ⟨c0, c1, c2, c3, c4, c5⟩ := HB5.out.six (g := w1.heap.size) (.tail _ (.tail _ (.tail _ (.tail _ (.tail _ (.tail _ (.tail _ (.head _))))))))
  have f0 := HB5.out.cell (g := w1.heap.size + 1) (i := 0) (.tail _ (.tail _ (.tail _ (.tail _ (.tail _ (.tail _ (.head _))))))) rfl
  have f1 := HB5.out.cell (g := w1.heap.size + 1) (i := 1) (.tail _ (.tail _ (.tail _ (.tail _ (.tail _ (.tail _ (.head _))))))) rfl
  have g0 := HB5.out.cell (g := w3.heap.size + 1) (i := 0) (.tail _ (.tail _ (.tail _ (.tail _ (.head _))))) rfl
  have g1 := HB5.out.cell (g := w3.heap.size + 1) (i := 1) (.tail _ (.tail _ (.tail _ (.tail _ (.head _))))) rfl
  have h0 := HB5.out.cell (g := w4.heap.size + 1) (i := 0) (.tail _ (.tail _ (.head _))) rfl
  have h1 := HB5.out.cell (g := w4.heap.size + 1) (i := 1) (.tail _ (.tail _ (.head _))) rfl
  have i0 := HB5.out.cell (g := w5.heap.size + 1) (i := 0) (.head _) rfl
  have i1 := HB5.out.cell (g := w5.heap.size + 1) (i := 1) (.head _) rfl
  have hm := HB5.out.m (s := s1) (A := A1) (B := B1) (n := 1) (k := 0) (m := mG) (.tail _ (.tail _ (.tail _ (.head _))))
  have hsn : s1 = ⟨#[97, 46, 98]⟩ := hm.name.eq
  obtain ⟨b, off, x, y, z, e1, d0, d1, d2, hdl⟩ := hm.vals.get (i := 0) (by decide)
  obtain ⟨rfl, rfl, rfl⟩ : x = true ∧ y = 15 ∧ z = -1 := ⟨hdl.neg, hdl.c, hdl.e⟩
  subst e1
  simp only [Nat.zero_mul, Nat.add_zero] at d0 d1 d2
  have HB6 := Lib.hid HB5.out.kept
  have q1 := fun w => fne_run (x := 0) (y := 0) (u := 0) (v := 0) (q := true) (by decide) w
  have q2 := fun w => feq_run (x := 20) (y := 4) (u := 20) (v := 4) (q := true) (by decide) w
  have q3 := fun w => feq_run (x := 17) (y := 2) (u := 17) (v := 2) (q := true) (by decide) w
  have q4 := fun w => feq_run (x := 11) (y := 5) (u := 11) (v := 5) (q := true) (by decide) w
  have q5 := fun w => dne_run (Dl.mk_ ⟨true, 15, -1⟩) (Dl.mk_ ⟨true, 15, -1⟩) (q := true) (by decide) w
  have hg := fguard
  have hg2 := dguard
  go_upto_region 6 with fail
  generalize World.alloc _ (.cells #[.int .i64 11, .int .i64 5] 29) = W5 at *
  subst hsn
  clear HB5 hm hdl
  go_wp2_with fail
  go_ret
  exact ⟨rfl, HB6.out⟩
section
variable {w W : World} {L : List (Nat × TypeId × List Value)} {M : List (ByteArray × Option Addr × Nat × Option Addr × Nat × Mt)}
theorem Kb.awake12_ (h : Kb w L M W) (ht : Tab w) : Calls Tryd.prog 7 #[] W fun e w' => e = .returned (.bool true) ∧ Kb w L M w' :=
  (awake12_calls W (ht.keep h.kept)).mono fun _ _ k => ⟨k.1, h.next k.2⟩
theorem Kb.emetric12_ {s : ByteArray} {A B : Option Addr} {n k : Nat} {m : Mt} {c : Int} (h : Kb w L M W) (hm : (s, A, n, B, k, m) ∈ M) (z : Small m) (hx : metricE m 3 = c) (ca cb : Nat) :
    Calls Tryd.prog 13 #[.agg #[.string s, .int .i64 m.kind, .slice A n ca, .int .i64 m.rate, .slice B k cb, .int .i64 m.time], .int .i64 3] W fun e w' => e = .returned (.int .i64 c) ∧ Kb w L M w' := by
  have := emetric_calls (ca := ca) (cb := cb) (h.m hm) z (f := 3) (show (Lit.int .i64 3).wf = true by decide)
  rw [hx] at this
  exact this.mono fun e w' k => ⟨k.1, h.next k.2⟩
end
end Go.Proofs.YtmaiggoinjldpaaDoor
