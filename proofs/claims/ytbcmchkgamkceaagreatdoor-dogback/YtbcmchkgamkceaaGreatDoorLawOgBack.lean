/-
  The walk of DogBack. No statement of the seat is proved here.
-/
import Derived.Test.YtbcmchkgamkceaaGreatDoorGrOgRefLine
namespace Go.Proofs.YtbcmchkgamkceaaGreatDoor
open Go.RowKit
open Dc (D D0)

set_option maxRecDepth 100000 in
set_option maxHeartbeats 4000000 in
theorem oback_walk {w : World} {s : ByteArray} {A B : Option Addr} {n k ca cb : Nat} {m : Mt} (h : MIs w s A n B k m) (hf : ∀ d ∈ m.vals, d.Fits) (x : ByteArray) (ht : Tab w) :
    Calls Tryz.prog 6 #[mV s m.kind A n ca m.rate B k cb m.time, .string x] w fun e w' => e = .returned (.bool true) ∧ Below w.heap.size w w' := by
  obtain ⟨q, hq⟩ : ∃ q, fewM m = q := ⟨_, rfl⟩
  have HZ := Lib.hid (fun (e : q = true) => few_small (hq.trans e) hf)
  have HQ := Lib.hid hq
  have HB := Lib.hid (Kb.enter (ca := ca) (cb := cb) h)
  have HT := Lib.hid ht
  obtain ⟨l, hl⟩ : ∃ l, Str x l := ⟨_, Str.self x⟩
  have hsz : (x.size : Int) = (l.length : Int) := by rw [hl.size]
  have HX := Lib.hid hl
  unfold mV
  clear hq h hf ht hl
  obtain ⟨c0, c1, c2, c3, c4, c5⟩ := HB.out.six (.head _)
  go_enter Tryz.func6, Tryz.ntmps6
  go_wp2_with fail
  refine (HB.out.few_ (.head _) HQ.out _ _).mono ?_
  rintro e w1 ⟨rfl, hb⟩
  have HB1 := Lib.hid hb
  clear hb HB c0 c1 c2 c3 c4 c5
  by_cases hin : q = true ∧ ¬ 3000 < (x.size : Int)
  rotate_left
  · rcases (by cases q <;> simp at hin ⊢ <;> omega : q = false ∨ (q = true ∧ 3000 < (x.size : Int))) with rfl | ⟨rfl, h2⟩
    all_goals
      clear hin
      go_wp2_with fail
      refine (HB1.out.awake11_ HT.out).mono ?_
      rintro e w2 ⟨rfl, hb⟩
      have HB2 := Lib.hid hb
      clear hb HB1
      go_wp2_with fail
      go_ret
      exact ⟨rfl, HB2.out.kept⟩
  obtain ⟨rfl, h600⟩ := hin
  have HS := Lib.hid (HZ.out rfl)
  clear HZ
  obtain ⟨c, hc⟩ : ∃ c, codeM m = c := ⟨_, rfl⟩
  obtain ⟨t, htt⟩ : ∃ t, lineO m = t := ⟨_, rfl⟩
  obtain ⟨m', hm'⟩ : ∃ m', nM m = m' := ⟨_, rfl⟩
  have HC := Lib.hid (And.intro hc (And.intro htt hm'))
  clear hc htt hm'
  obtain ⟨c0, c1, c2, c3, c4, c5⟩ := HB1.out.six (.head _)
  go_wp2_with fail
  refine (HB1.out.oline_ (.head _) HS.out HT.out HC.out.2.1 HC.out.1 _ _).mono ?_
  rintro e w2 ⟨rfl, hb⟩
  have HB2 := Lib.hid hb
  clear hb HB1 c0 c1 c2 c3 c4 c5
  obtain ⟨c0, c1, c2, c3, c4, c5⟩ := HB2.out.six (.head _)
  go_wp2_with fail
  refine (HB2.out.normal_ (.head _) HS.out HC.out.1 HC.out.2.2 _ _).mono ?_
  rintro e w3 ⟨s3, A3, n3, ca3, B3, k3, cb3, rfl, hb0⟩
  have HB3 := Lib.hid (hb0.lay (.string s3) (.int .i64 m'.kind) (.slice A3 n3 ca3) (.int .i64 m'.rate) (.slice B3 k3 cb3) (.int .i64 m'.time))
  clear hb0 HB2 c0 c1 c2 c3 c4 c5
  obtain ⟨tt, htt⟩ : ∃ u : ByteArray, (⟨t.toArray⟩ : ByteArray) = u := ⟨_, rfl⟩
  have hts : Str tt t := by rw [← htt]; exact Str.mk _
  rw [htt]
  clear htt
  have HTT := Lib.hid hts
  clear hts
  go_upto_if 40 with fail
  go_cut [] from 9 (fun wx => Hid (Kb w [] [] wx))
  case first =>
    by_cases hc0 : c = 0
    · subst hc0
      have HR := Lib.hid (show RightM m' ∧ t.length ≤ 8192 ∧ parseD t = (m', 0, 0) by
        have h1 := nM_right HC.out.1
        have h2 := lineO_right HC.out.1
        rw [HC.out.2.2] at h1 h2
        rw [HC.out.2.1] at h2
        rw [h2]
        exact ⟨h1.1, h1.1.len, h1.1.self h1.2⟩)
      have g4 : ¬ 8192 < (tt.size : Int) := by have := HR.out.2.1; rw [HTT.out.size]; omega
      go_wp2_with fail
      refine (HB3.out.oparse_ HTT.out (by have := HR.out.2.1; omega) HR.out.2.2).mono ?_
      rintro e w4 ⟨s4, A4, n4, ca4, B4, k4, cb4, rfl, hb⟩
      have HB4 := Lib.hid (hb.olay2 (.string s4) (.int .i64 m'.kind) (.slice A4 n4 ca4) (.int .i64 m'.rate) (.slice B4 k4 cb4) (.int .i64 m'.time) (.int .i64 0) (.int .i64 0))
      clear hb HB3
      go_upto_region 9 with fail
      have HE := Lib.hid (HB4.out.equal_ (.head _) (.tail _ (.head _)) HR.out.1.small (decide_eq_true rfl) ca4 cb4 ca3 cb3)
      obtain ⟨c0, c1, c2, c3, c4, c5⟩ := HB4.out.six (g := w4.heap.size) (.tail _ (.head _))
      obtain ⟨d0, d1, d2, d3, d4, d5⟩ := HB4.out.six (g := w3.heap.size) (.tail _ (.tail _ (.head _)))
      have f0 := HB4.out.cell (g := w4.heap.size + 1) (i := 0) (.head _) rfl
      have f1 := HB4.out.cell (g := w4.heap.size + 1) (i := 1) (.head _) rfl
      have q1 := fun w => fne_run (x := 0) (y := 0) (u := 0) (v := 0) (q := true) (by decide) w
      have hg := fguard
      generalize World.alloc _ (.cells #[.int .i64 0, .int .i64 0] 42) = W5 at HB4 HE c0 c1 c2 c3 c4 c5 d0 d1 d2 d3 d4 d5 f0 f1 ⊢
      go_wp2_with fail
      refine HE.out.mono ?_
      rintro e w5 ⟨rfl, hb⟩
      have HB5 := Lib.hid hb
      clear hb HB4 HE c0 c1 c2 c3 c4 c5 d0 d1 d2 d3 d4 d5 f0 f1
      go_wp2_with fail
      go_meet
      exact Lib.hid (HB5.out.subs (fun x hx => by cases hx) (fun x hx => by cases hx))
    · have hcb : (c == 0) = false := by simpa using hc0
      go_wp2_with fail
      go_meet
      exact Lib.hid (HB3.out.subs (fun x hx => by cases hx) (fun x hx => by cases hx))
  case rest =>
  have HB3 := Lib.hid hcut.out
  obtain ⟨W3, hW3⟩ : ∃ W, W = wc := ⟨_, rfl⟩
  subst hW3
  clear hcut HC HS
  have hl9 : l.length ≤ 100000 := by omega
  rcases parseD_told l with ⟨c2, a2, hp, h1, h2, h3⟩ | ⟨m2, hp, h1, h2⟩
  · go_wp2_with fail
    refine (HB3.out.oparse_ HX.out hl9 hp).mono ?_
    rintro e w4 ⟨s4, A4, n4, ca4, B4, k4, cb4, rfl, hb⟩
    simp only [show M0.kind = 0 from rfl, show M0.rate = 0 from rfl, show M0.time = 0 from rfl]
    have HB4 := Lib.hid ((hb.olay2 (.string s4) (.int .i64 0) (.slice A4 n4 ca4) (.int .i64 0) (.slice B4 k4 cb4) (.int .i64 0) (.int .i64 c2) (.int .i64 a2)).mAdd (mis0 _ none none))
    clear hb HB3 hp
    go_upto_region 12 with fail
    have HE := Lib.hid (HB4.out.equal_ (.tail _ (.head _)) (.head _) small00 (decide_eq_true rfl) ca4 cb4 0 0)
    simp only [show M0.kind = 0 from rfl, show M0.rate = 0 from rfl, show M0.time = 0 from rfl] at HE
    obtain ⟨c0, c1, c2', c3, c4, c5⟩ := HB4.out.six (g := w4.heap.size) (.tail _ (.head _))
    have f0 := HB4.out.cell (g := w4.heap.size + 1) (i := 0) (.head _) rfl
    have f1 := HB4.out.cell (g := w4.heap.size + 1) (i := 1) (.head _) rfl
    have q1 := fun w => fne_run (x := c2) (y := a2) (u := 0) (v := 0) (q := false) (decide_eq_false fun e => h1 (congrArg Prod.fst e)) w
    have hg := fguard
    have hcb : (c2 != 0) = true := by simpa using h1
    have g3 : a2 ≤ (x.size : Int) := by omega
    generalize World.alloc _ (.cells #[.int .i64 c2, .int .i64 a2] 42) = W5 at HB4 HE c0 c1 c2' c3 c4 c5 f0 f1 ⊢
    go_wp2_with fail
    refine HE.out.mono ?_
    rintro e w5 ⟨rfl, hb⟩
    have HB5 := Lib.hid hb
    clear hb HB4 HE c0 c1 c2' c3 c4 c5 f0 f1
    have f0 := HB5.out.cell (g := w4.heap.size + 1) (i := 0) (.head _) rfl
    have f1 := HB5.out.cell (g := w4.heap.size + 1) (i := 1) (.head _) rfl
    go_wp2_with fail
    refine (HB5.out.awake11_ HT.out).mono ?_
    rintro e w6 ⟨rfl, hb⟩
    have HB6 := Lib.hid hb
    clear hb HB5 f0 f1
    go_wp2_with fail
    go_ret
    exact ⟨rfl, HB6.out.kept⟩
  · have h3 := h1.nM_ h2
    have h4 := h1.self h2
    have h5 := h1.len
    obtain ⟨t2, ht2⟩ : ∃ t, lineD m2 = t := ⟨_, rfl⟩
    rw [ht2] at h4 h5
    have HM := Lib.hid (show Small m2 ∧ isM m2 = true ∧ lineO m2 = t2 ∧ codeM m2 = 0 from ⟨h1.small, h1.isM h2, by rw [lineO_right h3.1, h3.2, ht2], h3.1⟩)
    have HY := Lib.hid h4
    obtain ⟨u, hu⟩ : ∃ u : ByteArray, (⟨t2.toArray⟩ : ByteArray) = u := ⟨_, rfl⟩
    have hus : Str u t2 := by rw [← hu]; exact Str.mk _
    have HU := Lib.hid (And.intro hu hus)
    have g3 : (u.size : Int) ≤ 8192 := by rw [hus.size]; omega
    have g4 : t2.length ≤ 100000 := by omega
    clear ht2 hu hus h1 h2 h3 h4 h5
    go_wp2_with fail
    refine (HB3.out.oparse_ HX.out hl9 hp).mono ?_
    rintro e w4 ⟨s4, A4, n4, ca4, B4, k4, cb4, rfl, hb⟩
    have HB4 := Lib.hid (hb.olay2 (.string s4) (.int .i64 m2.kind) (.slice A4 n4 ca4) (.int .i64 m2.rate) (.slice B4 k4 cb4) (.int .i64 m2.time) (.int .i64 0) (.int .i64 0))
    clear hb HB3 hp
    go_upto_region 12 with fail
    obtain ⟨c0, c1, c2, c3, c4, c5⟩ := HB4.out.six (g := w4.heap.size) (.tail _ (.head _))
    have f0 := HB4.out.cell (g := w4.heap.size + 1) (i := 0) (.head _) rfl
    have f1 := HB4.out.cell (g := w4.heap.size + 1) (i := 1) (.head _) rfl
    have q1 := fun w => fne_run (x := 0) (y := 0) (u := 0) (v := 0) (q := true) (by decide) w
    have q2 := fun w => feq_run (x := 0) (y := 0) (u := 0) (v := 0) (q := true) (by decide) w
    have hg := fguard
    have HL := Lib.hid (HB4.out.oline_ (.head _) HM.out.1 HT.out HM.out.2.2.1 HM.out.2.2.2 ca4 cb4)
    rw [HU.out.1] at HL
    generalize World.alloc _ (.cells #[.int .i64 0, .int .i64 0] 42) = W5 at HB4 HL c0 c1 c2 c3 c4 c5 f0 f1 ⊢
    go_wp2_with fail
    refine HL.out.mono ?_
    rintro e w5 ⟨rfl, hb⟩
    have HB5 := Lib.hid hb
    clear hb HB4 HL c0 c1 c2 c3 c4 c5 f0 f1
    go_wp2_with fail
    refine (HB5.out.oparse_ HU.out.2 g4 HY.out).mono ?_
    rintro e w6 ⟨s6, A6, n6, ca6, B6, k6, cb6, rfl, hb⟩
    have HB6 := Lib.hid (hb.olay2 (.string s6) (.int .i64 m2.kind) (.slice A6 n6 ca6) (.int .i64 m2.rate) (.slice B6 k6 cb6) (.int .i64 m2.time) (.int .i64 0) (.int .i64 0))
    clear hb HB5
    go_upto_region 16 with fail
    obtain ⟨c0, c1, c2, c3, c4, c5⟩ := HB6.out.six (g := w4.heap.size) (.tail _ (.tail _ (.tail _ (.head _))))
    have HI := Lib.hid (HB6.out.is_ (.tail _ (.head _)) HM.out.1 HM.out.2.1 ca4 cb4)
    generalize World.alloc _ (.cells #[.int .i64 0, .int .i64 0] 42) = W7 at HB6 HI c0 c1 c2 c3 c4 c5 ⊢
    go_wp2_with fail
    refine HI.out.mono ?_
    rintro e w7 ⟨rfl, hb⟩
    have HB7 := Lib.hid hb
    clear hb HB6 HI c0 c1 c2 c3 c4 c5
    obtain ⟨c0, c1, c2, c3, c4, c5⟩ := HB7.out.six (g := w4.heap.size) (.tail _ (.tail _ (.tail _ (.head _))))
    obtain ⟨d0, d1, d2, d3, d4, d5⟩ := HB7.out.six (g := w6.heap.size) (.tail _ (.head _))
    have g0 := HB7.out.cell (g := w6.heap.size + 1) (i := 0) (.head _) rfl
    have g1 := HB7.out.cell (g := w6.heap.size + 1) (i := 1) (.head _) rfl
    go_wp2_with fail
    refine (HB7.out.equal_ (.tail _ (.head _)) (.head _) HM.out.1 (decide_eq_true rfl) _ _ _ _).mono ?_
    rintro e w9 ⟨rfl, hb⟩
    have HB9 := Lib.hid hb
    clear hb HB7 c0 c1 c2 c3 c4 c5 d0 d1 d2 d3 d4 d5 g0 g1
    go_wp2_with fail
    refine (HB9.out.awake11_ HT.out).mono ?_
    rintro e w10 ⟨rfl, hb⟩
    have HB10 := Lib.hid hb
    clear hb HB9
    go_wp2_with fail
    go_ret
    exact ⟨rfl, HB10.out.kept⟩
end Go.Proofs.YtbcmchkgamkceaaGreatDoor
