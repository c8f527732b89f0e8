/-
  The walk of GraphiteBack. No statement of the seat is proved here.
-/
import Derived.Test.YtmaiggoinjldpaaDoorGrAwake
namespace Go.Proofs.YtmaiggoinjldpaaDoor
open Go.RowKit
open Dc (D D0)

theorem Kb.sub {w W : World} {L L' : List (Nat × TypeId × List Value)} {M M' : List (ByteArray × Option Addr × Nat × Option Addr × Nat × Mt)} (h : Kb w L M W) (hL : ∀ x ∈ L', x ∈ L) (hM : ∀ x ∈ M', x ∈ M) : Kb w L' M' W :=
  ⟨h.kept, fun x hx => h.box x (hL x hx), fun x hx => h.met x (hM x hx)⟩
/-- A line that is written: it is no longer than 300 bytes, and is parsed as the metric. -/
theorem lineGT_back {m : Mt} (h : metricE m 3 = 0) : (lineGT m).length ≤ 300 ∧ parseG (lineGT m) = (m, 0, 0) := by
  obtain ⟨name, d, t, rfl, hs⟩ := metricE_saidG h
  unfold lineGT
  rw [if_pos h]
  exact ⟨lineG_len hs, hs.back⟩
/-- What is parsed. -/
theorem parseG_cases (l : List UInt8) : (∃ c a : Int, parseG l = (M0, c, a) ∧ c ≠ 0 ∧ 0 ≤ a ∧ a ≤ (l.length : Int)) ∨ ∃ m, parseG l = (m, 0, 0) ∧ metricE m 3 = 0 ∧ isM m = true ∧ (lineGT m).length ≤ l.length := by
  rcases parseG_told l with ⟨c, a, e, h1, h2⟩ | ⟨name, v, d, t, e, hs, _, _, _, h2⟩
  · exact .inl ⟨c, a, e, h1, by omega, by omega⟩
  · refine .inr ⟨_, e, hs.metricE, hs.check.2.2, ?_⟩
    unfold lineGT
    rw [if_pos hs.metricE]
    exact h2
theorem saidG_small {m : Mt} (h : metricE m 3 = 0) : Small m := by
  obtain ⟨name, d, t, rfl, hs⟩ := metricE_saidG h
  have hn := name_bytes hs.name
  refine ⟨by show name.length ≤ 1000; omega, by show 1 ≤ 1000; omega, fun d' hd => ?_, by show 0 ≤ 200; omega, fun t ht => by cases ht⟩
  rcases List.mem_singleton.1 hd with rfl
  exact hs.val.fits
theorem small_M0 : Small M0 := ⟨by decide, by decide, fun d hd => (by cases hd), by decide, fun t ht => (by cases ht)⟩

set_option maxRecDepth 100000 in
set_option maxHeartbeats 4000000 in
theorem gback_walk {w : World} {s : ByteArray} {A B : Option Addr} {n k ca cb : Nat} {m : Mt} (h : MIs w s A n B k m) (hf : ∀ d ∈ m.vals, d.Fits) (x : ByteArray) (ht : Tab w) :
    Calls Tryd.prog 4 #[mV s m.kind A n ca m.rate B k cb m.time, .string x] w fun e w' => e = .returned (.bool true) ∧ Below w.heap.size w w' := by
  obtain ⟨q, hq⟩ : ∃ q, smallM m = q := ⟨_, rfl⟩
  have HZ := Lib.hid (fun (e : q = true) => smallM_small (hq.trans e) hf)
  have HQ := Lib.hid hq
  have HB := Lib.hid (Kb.enter (ca := ca) (cb := cb) h)
  have HT := Lib.hid ht
  obtain ⟨l, hl⟩ : ∃ l, Str x l := ⟨_, Str.self x⟩
  have hsz : (x.size : Int) = (l.length : Int) := by rw [hl.size]
  have HX := Lib.hid hl
  unfold mV
  clear hq h hf ht hl
  obtain ⟨c0, c1, c2, c3, c4, c5⟩ := HB.out.six (.head _)
  go_enter Tryd.func4, Tryd.ntmps4
  go_wp2_with fail
  refine (HB.out.small10_ (.head _) HQ.out _ _).mono ?_
  rintro e w1 ⟨rfl, hb⟩
  have HB1 := Lib.hid hb
  clear hb HB c0 c1 c2 c3 c4 c5
  by_cases hin : q = true ∧ ¬ 600 < (x.size : Int)
  rotate_left
  · rcases (by cases q <;> simp at hin ⊢ <;> omega : q = false ∨ (q = true ∧ 600 < (x.size : Int))) with rfl | ⟨rfl, h2⟩
    all_goals
      clear hin
      go_wp2_with fail
      refine (HB1.out.awake12_ HT.out).mono ?_
      rintro e w2 ⟨rfl, hb⟩
      have HB2 := Lib.hid hb
      clear hb HB1
      go_wp2_with fail
      go_ret
      exact ⟨rfl, HB2.out.kept⟩
  obtain ⟨rfl, h600⟩ := hin
  have HS := Lib.hid (HZ.out rfl)
  clear HZ
  obtain ⟨c, hc⟩ : ∃ c, metricE m 3 = c := ⟨_, rfl⟩
  obtain ⟨t, htt⟩ : ∃ t, lineGT m = t := ⟨_, rfl⟩
  have HC := Lib.hid (And.intro hc htt)
  clear hc htt
  obtain ⟨c0, c1, c2, c3, c4, c5⟩ := HB1.out.six (.head _)
  go_wp2_with fail
  refine (HB1.out.gline_ (.head _) HS.out HT.out HC.out.2 HC.out.1 _ _).mono ?_
  rintro e w2 ⟨rfl, hb⟩
  have HB2 := Lib.hid hb
  clear hb HB1 c0 c1 c2 c3 c4 c5
  go_upto_if 30 with fail
  go_cut [] from 7 (fun wx => Hid (Kb w [(w.heap.size, 26, [.string s, .int .i64 m.kind, .slice A n ca, .int .i64 m.rate, .slice B k cb, .int .i64 m.time])] [(s, A, n, B, k, m)] wx))
  case first =>
    by_cases hc0 : c = 0
    · subst hc0
      have HY := Lib.hid (lineGT_back HC.out.1)
      rw [HC.out.2] at HY
      go_wp2_with fail
      refine (HB2.out.gparse_ (Str.mk t) (by have := HY.out.1; omega) HY.out.2).mono ?_
      rintro e w3 ⟨s3, A3, n3, ca3, B3, k3, cb3, rfl, hb⟩
      have HB3 := Lib.hid (hb.lay2 (.string s3) (.int .i64 m.kind) (.slice A3 n3 ca3) (.int .i64 m.rate) (.slice B3 k3 cb3) (.int .i64 m.time) (.int .i64 0) (.int .i64 0))
      clear hb HB2
      go_upto_region 8 with fail
      have HE := Lib.hid (HB3.out.equal_ (.head _) (.tail _ (.head _)) HS.out (decide_eq_true rfl) ca3 cb3 ca cb)
      obtain ⟨c0, c1, c2, c3, c4, c5⟩ := HB3.out.six (g := w3.heap.size) (.tail _ (.head _))
      obtain ⟨d0, d1, d2, d3, d4, d5⟩ := HB3.out.six (g := w.heap.size) (.tail _ (.tail _ (.head _)))
      have f0 := HB3.out.cell (g := w3.heap.size + 1) (i := 0) (.head _) rfl
      have f1 := HB3.out.cell (g := w3.heap.size + 1) (i := 1) (.head _) rfl
      have q1 := fun w => fne_run (x := 0) (y := 0) (u := 0) (v := 0) (q := true) (by decide) w
      have hg := fguard
      generalize World.alloc _ (.cells #[.int .i64 0, .int .i64 0] 29) = W5 at HB3 HE c0 c1 c2 c3 c4 c5 d0 d1 d2 d3 d4 d5 f0 f1 ⊢
      go_wp2_with fail
      refine HE.out.mono ?_
      rintro e w4 ⟨rfl, hb⟩
      have HB4 := Lib.hid hb
      clear hb HB3 HE c0 c1 c2 c3 c4 c5 d0 d1 d2 d3 d4 d5 f0 f1
      go_wp2_with fail
      go_meet
      exact Lib.hid (HB4.out.sub (fun x hx => .tail _ (.tail _ hx)) (fun x hx => .tail _ hx))
    · have hcb : (c != 0) = true := by simpa using hc0
      have ht0 : t = [] := by rw [← HC.out.2]; unfold lineGT; rw [HC.out.1, if_neg hc0]
      subst ht0
      obtain ⟨c0, c1, c2, c3, c4, c5⟩ := HB2.out.six (.head _)
      go_wp2_with fail
      refine (HB2.out.emetric12_ (.head _) HS.out HC.out.1 _ _).mono ?_
      rintro e w3 ⟨rfl, hb⟩
      have HB3 := Lib.hid hb
      clear hb HB2 c0 c1 c2 c3 c4 c5
      go_wp2_with fail
      go_meet
      exact HB3
  case rest =>
  have HB3 := Lib.hid hcut.out
  obtain ⟨W3, hW3⟩ : ∃ W, W = wc := ⟨_, rfl⟩
  subst hW3
  clear hcut HB2 HC HS
  have hl9 : l.length ≤ 9000 := by omega
  rcases parseG_cases l with ⟨c2, a2, hp, h1, h2, h3⟩ | ⟨m2, hp, h1, h2, h3⟩
  · go_wp2_with fail
    refine (HB3.out.gparse_ HX.out hl9 hp).mono ?_
    rintro e w4 ⟨s4, A4, n4, ca4, B4, k4, cb4, rfl, hb⟩
    simp only [show M0.kind = 0 from rfl, show M0.rate = 0 from rfl, show M0.time = 0 from rfl]
    have HB4 := Lib.hid ((hb.lay2 (.string s4) (.int .i64 0) (.slice A4 n4 ca4) (.int .i64 0) (.slice B4 k4 cb4) (.int .i64 0) (.int .i64 c2) (.int .i64 a2)).mAdd (mis0 _ none none))
    clear hb HB3 hp
    go_upto_region 11 with fail
    have HE := Lib.hid (HB4.out.equal_ (.tail _ (.head _)) (.head _) small_M0 (decide_eq_true rfl) ca4 cb4 0 0)
    simp only [show M0.kind = 0 from rfl, show M0.rate = 0 from rfl, show M0.time = 0 from rfl] at HE
    obtain ⟨c0, c1, c2', c3, c4, c5⟩ := HB4.out.six (g := w4.heap.size) (.tail _ (.head _))
    have f0 := HB4.out.cell (g := w4.heap.size + 1) (i := 0) (.head _) rfl
    have f1 := HB4.out.cell (g := w4.heap.size + 1) (i := 1) (.head _) rfl
    have q1 := fun w => fne_run (x := c2) (y := a2) (u := 0) (v := 0) (q := false) (decide_eq_false fun e => h1 (congrArg Prod.fst e)) w
    have hg := fguard
    have hcb : (c2 != 0) = true := by simpa using h1
    have g3 : a2 ≤ (x.size : Int) := by omega
    generalize World.alloc _ (.cells #[.int .i64 c2, .int .i64 a2] 29) = W5 at HB4 HE c0 c1 c2' c3 c4 c5 f0 f1 ⊢
    go_wp2_with fail
    refine HE.out.mono ?_
    rintro e w5 ⟨rfl, hb⟩
    have HB5 := Lib.hid hb
    clear hb HB4 HE c0 c1 c2' c3 c4 c5 f0 f1
    have f0 := HB5.out.cell (g := w4.heap.size + 1) (i := 0) (.head _) rfl
    have f1 := HB5.out.cell (g := w4.heap.size + 1) (i := 1) (.head _) rfl
    go_wp2_with fail
    refine (HB5.out.awake12_ HT.out).mono ?_
    rintro e w6 ⟨rfl, hb⟩
    have HB6 := Lib.hid hb
    clear hb HB5 f0 f1
    go_wp2_with fail
    go_ret
    exact ⟨rfl, HB6.out.kept⟩
  · have HM := Lib.hid (And.intro h1 (And.intro h2 (saidG_small h1)))
    have HY := Lib.hid (lineGT_back h1)
    obtain ⟨t2, ht2⟩ : ∃ t, lineGT m2 = t := ⟨_, rfl⟩
    rw [ht2] at HY h3
    have HT2 := Lib.hid ht2
    obtain ⟨u, hu⟩ : ∃ u : ByteArray, (⟨t2.toArray⟩ : ByteArray) = u := ⟨_, rfl⟩
    have hus : Str u t2 := by rw [← hu]; exact Str.mk _
    have HU := Lib.hid (And.intro hu hus)
    have g3 : (u.size : Int) ≤ (x.size : Int) := by rw [hus.size]; omega
    clear ht2 hu hus h3 h1 h2
    go_wp2_with fail
    refine (HB3.out.gparse_ HX.out hl9 hp).mono ?_
    rintro e w4 ⟨s4, A4, n4, ca4, B4, k4, cb4, rfl, hb⟩
    have HB4 := Lib.hid (hb.lay2 (.string s4) (.int .i64 m2.kind) (.slice A4 n4 ca4) (.int .i64 m2.rate) (.slice B4 k4 cb4) (.int .i64 m2.time) (.int .i64 0) (.int .i64 0))
    clear hb HB3 hp
    go_upto_region 11 with fail
    obtain ⟨c0, c1, c2, c3, c4, c5⟩ := HB4.out.six (g := w4.heap.size) (.tail _ (.head _))
    have f0 := HB4.out.cell (g := w4.heap.size + 1) (i := 0) (.head _) rfl
    have f1 := HB4.out.cell (g := w4.heap.size + 1) (i := 1) (.head _) rfl
    have q1 := fun w => fne_run (x := 0) (y := 0) (u := 0) (v := 0) (q := true) (by decide) w
    have q2 := fun w => feq_run (x := 0) (y := 0) (u := 0) (v := 0) (q := true) (by decide) w
    have hg := fguard
    have HL := Lib.hid (HB4.out.gline_ (.head _) HM.out.2.2 HT.out HT2.out HM.out.1 ca4 cb4)
    rw [HU.out.1] at HL
    generalize World.alloc _ (.cells #[.int .i64 0, .int .i64 0] 29) = W5 at HB4 HL c0 c1 c2 c3 c4 c5 f0 f1 ⊢
    go_wp2_with fail
    refine HL.out.mono ?_
    rintro e w5 ⟨rfl, hb⟩
    have HB5 := Lib.hid hb
    clear hb HB4 HL c0 c1 c2 c3 c4 c5 f0 f1
    go_wp2_with fail
    refine (HB5.out.gparse_ HU.out.2 (by have := HY.out.1; omega) HY.out.2).mono ?_
    rintro e w6 ⟨s6, A6, n6, ca6, B6, k6, cb6, rfl, hb⟩
    have HB6 := Lib.hid (hb.lay2 (.string s6) (.int .i64 m2.kind) (.slice A6 n6 ca6) (.int .i64 m2.rate) (.slice B6 k6 cb6) (.int .i64 m2.time) (.int .i64 0) (.int .i64 0))
    clear hb HB5
    go_upto_region 15 with fail
    obtain ⟨c0, c1, c2, c3, c4, c5⟩ := HB6.out.six (g := w4.heap.size) (.tail _ (.tail _ (.tail _ (.head _))))
    have HI := Lib.hid (HB6.out.is_ (.tail _ (.head _)) HM.out.2.2 HM.out.2.1 ca4 cb4)
    generalize World.alloc _ (.cells #[.int .i64 0, .int .i64 0] 29) = W7 at HB6 HI c0 c1 c2 c3 c4 c5 ⊢
    go_wp2_with fail
    refine HI.out.mono ?_
    rintro e w7 ⟨rfl, hb⟩
    have HB7 := Lib.hid hb
    clear hb HB6 HI c0 c1 c2 c3 c4 c5
    obtain ⟨c0, c1, c2, c3, c4, c5⟩ := HB7.out.six (g := w4.heap.size) (.tail _ (.tail _ (.tail _ (.head _))))
    go_wp2_with fail
    refine (HB7.out.emetric12_ (.tail _ (.head _)) HM.out.2.2 HM.out.1 _ _).mono ?_
    rintro e w8 ⟨rfl, hb⟩
    have HB8 := Lib.hid hb
    clear hb HB7 c0 c1 c2 c3 c4 c5
    obtain ⟨c0, c1, c2, c3, c4, c5⟩ := HB8.out.six (g := w4.heap.size) (.tail _ (.tail _ (.tail _ (.head _))))
    obtain ⟨d0, d1, d2, d3, d4, d5⟩ := HB8.out.six (g := w6.heap.size) (.tail _ (.head _))
    have f0 := HB8.out.cell (g := w4.heap.size + 1) (i := 0) (.tail _ (.tail _ (.head _))) rfl
    have f1 := HB8.out.cell (g := w4.heap.size + 1) (i := 1) (.tail _ (.tail _ (.head _))) rfl
    have g0 := HB8.out.cell (g := w6.heap.size + 1) (i := 0) (.head _) rfl
    have g1 := HB8.out.cell (g := w6.heap.size + 1) (i := 1) (.head _) rfl
    go_wp2_with fail
    refine (HB8.out.equal_ (.tail _ (.head _)) (.head _) HM.out.2.2 (decide_eq_true rfl) _ _ _ _).mono ?_
    rintro e w9 ⟨rfl, hb⟩
    have HB9 := Lib.hid hb
    clear hb HB8 c0 c1 c2 c3 c4 c5 d0 d1 d2 d3 d4 d5 f0 f1 g0 g1
    go_wp2_with fail
    refine (HB9.out.awake12_ HT.out).mono ?_
    rintro e w10 ⟨rfl, hb⟩
    have HB10 := Lib.hid hb
    clear hb HB9
    go_wp2_with fail
    go_ret
    exact ⟨rfl, HB10.out.kept⟩
end Go.Proofs.YtmaiggoinjldpaaDoor
