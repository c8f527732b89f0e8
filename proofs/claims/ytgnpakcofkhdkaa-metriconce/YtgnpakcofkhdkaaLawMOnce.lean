/-
  The walk of MetricOnce. No statement of the seat is proved here.
-/
import Derived.Test.YtgnpakcofkhdkaaMLaw
namespace Go.Proofs.Ytgnpakcofkhdkaa
open Go.RowKit Go.Sort
open Dc (D D0)

section
variable {w : World} {s : ByteArray} {A B : Option Addr} {n k ca cb : Nat} {m : Mt}
set_option maxRecDepth 100000 in
set_option maxHeartbeats 8000000 in
theorem once_walk (h : MIs w s A n B k m) (hf : ∀ d ∈ m.vals, d.Fits) : Calls Try.prog 6 #[mV s m.kind A n ca m.rate B k cb m.time] w fun e w' => e = .returned (.bool true) ∧ Below w.heap.size w w' := by
  obtain ⟨q, hq⟩ : ∃ q, fewM m = q := ⟨_, rfl⟩
  have HZ := Lib.hid (fun (e : q = true) => few_small (hq.trans e) hf)
  have HQ := Lib.hid hq
  have HB := Lib.hid (Kb.enter (ca := ca) (cb := cb) h)
  unfold mV
  clear hq h hf
  go_enter Try.func6, Try.ntmps6
  go_wp2_with fail
  refine (HB.out.few_ (.head _) HQ.out _ _).mono ?_
  rintro e w1 ⟨rfl, hb⟩
  have HB1 := Lib.hid hb
  clear hb HB
  cases q
  · go_wp2_with fail
    refine (HB1.out.awake_).mono ?_
    rintro e w2 ⟨rfl, hb⟩
    have HB2 := Lib.hid hb
    clear hb HB1
    go_wp2_with fail
    go_ret
    exact ⟨rfl, HB2.out.kept⟩
  · have hz := HZ.out rfl
    obtain ⟨x, hx⟩ : ∃ x, codeM m = x := ⟨_, rfl⟩
    obtain ⟨c, hc⟩ : ∃ c, checkM m = c := ⟨_, rfl⟩
    obtain ⟨m', hm'⟩ : ∃ m', nM m = m' := ⟨_, rfl⟩
    have HX := Lib.hid (And.intro hz (And.intro hx (And.intro hc hm')))
    have hz' : Small m' := hm' ▸ hz.n
    have HZ' := Lib.hid hz'
    clear hz hx hc hm' hz' HZ HQ
    obtain ⟨c0, c1, c2, c3, c4, c5⟩ := HB1.out.six (.head _)
    go_wp2_with fail
    refine (HB1.out.normal_ (.head _) HX.out.1 HX.out.2.1 HX.out.2.2.2 _ _).mono ?_
    rintro e w2 ⟨s2, A2, n2, ca2, B2, k2, cb2, rfl, hb0⟩
    have hb := hb0.lay (.string s2) (.int .i64 m'.kind) (.slice A2 n2 ca2) (.int .i64 m'.rate) (.slice B2 k2 cb2) (.int .i64 m'.time)
    clear c0 c1 c2 c3 c4 c5
    obtain ⟨c0, c1, c2, c3, c4, c5⟩ := hb.six (.tail _ (.head _))
    have HB2 := Lib.hid hb
    clear hb hb0 HB1
    by_cases hx0 : x = 0
    · subst hx0
      have HN := Lib.hid (show codeM m' = 0 ∧ checkM m' = 0 ∧ isM m' = true ∧ sameM m m' = true ∧ nM m' = m' ∧ m'.tags = norm m'.tags by
        obtain ⟨_, h1, _, h2⟩ := HX.out
        rw [← h2]
        exact ⟨codeM_nM h1, checkM_nM h1, isM_nM h1, sameM_nM h1, nM_nM h1, tags_nM h1⟩)
      go_wp2_with fail
      refine (HB2.out.normal_ (.head _) HZ'.out HN.out.1 HN.out.2.2.2.2.1 _ _).mono ?_
      rintro e w3 ⟨s3, A3, n3, ca3, B3, k3, cb3, rfl, hb0⟩
      have hb := hb0.lay (.string s3) (.int .i64 m'.kind) (.slice A3 n3 ca3) (.int .i64 m'.rate) (.slice B3 k3 cb3) (.int .i64 m'.time)
      clear c0 c1 c2 c3 c4 c5
      obtain ⟨d0, d1, d2, d3, d4, d5⟩ := hb.six (.tail _ (.head _))
      have HB3 := Lib.hid hb
      clear hb hb0 HB2
      clear d0 d1 d2 d3 d4 d5
      by_cases hc0 : c = 0
      · subst hc0
        obtain ⟨p, hp⟩ : ∃ p, decide (m = m') = p := ⟨_, rfl⟩
        have HE := Lib.hid (And.intro hp (show isM m = p by
          obtain ⟨_, _, h1, h2⟩ := HX.out
          rw [isM_of h1, h2]; exact hp))
        clear hp
        go_wp2_with fail
        obtain ⟨c0, c1, c2, c3, c4, c5⟩ := HB3.out.sixq (.tail _ (.tail _ (.head _)))
        obtain ⟨d0, d1, d2, d3, d4, d5⟩ := HB3.out.sixq (.tail _ (.head _))
        obtain ⟨e0, e1, e2, e3, e4, e5⟩ := HB3.out.sixq (.head _)
        have Q0 := Lib.hid (fun d os => HB3.out.checkq (.tail _ (.head _)) HZ'.out HN.out.2.1 ca2 cb2 d os)
        have Q1 := Lib.hid (fun d os => HB3.out.isq (.tail _ (.head _)) HZ'.out HN.out.2.2.1 ca2 cb2 d os)
        have Q2 := Lib.hid (fun d os => HB3.out.tagisq (.tail _ (.head _)) HZ'.out (decide_eq_true HN.out.2.2.2.2.2) cb2 d os)
        have Q3 := Lib.hid (fun d os => HB3.out.equalq (.head _) (.tail _ (.head _)) HZ'.out (decide_eq_true rfl) ca3 cb3 ca2 cb2 d os)
        have Q4 := Lib.hid (fun d os => HB3.out.sameq (.tail _ (.tail _ (.head _))) (.tail _ (.head _)) HX.out.1 HZ'.out HN.out.2.2.2.1 ca cb ca2 cb2 d os)
        have Q5 := Lib.hid (fun d os => HB3.out.checkq (.tail _ (.tail _ (.head _))) HX.out.1 HX.out.2.2.1 ca cb d os)
        have Q6 := Lib.hid (fun d os => HB3.out.awakeq d os)
        have Q7 := Lib.hid (fun d os => HB3.out.isq (.tail _ (.tail _ (.head _))) HX.out.1 HE.out.2 ca cb d os)
        have Q8 := Lib.hid (fun d os => HB3.out.equalq (.tail _ (.tail _ (.head _))) (.tail _ (.head _)) HX.out.1 HE.out.1 ca cb ca2 cb2 d os)
        refine wp_region_quiet_below (by kernel_rfl) (by kernel_rfl) ?_
        repeat (go_big_quiet_step (first | with_reducible exact Q0.out _ _ | with_reducible exact Q1.out _ _ | with_reducible exact Q2.out _ _ | with_reducible exact Q3.out _ _ | with_reducible exact Q4.out _ _ | with_reducible exact Q5.out _ _ | with_reducible exact Q6.out _ _ | with_reducible exact Q7.out _ _ | with_reducible exact Q8.out _ _))
        refine wpQuiet_nil ?_
        rintro _ ⟨⟨dq, osq⟩, rfl⟩
        have hb := HB3.out.next (below_regrown _ dq osq)
        clear c0 c1 c2 c3 c4 c5 d0 d1 d2 d3 d4 d5 e0 e1 e2 e3 e4 e5 Q0 Q1 Q2 Q3 Q4 Q5 Q6 Q7 Q8
        have HB4 := Lib.hid hb
        clear hb HB3
        go_wp2_with fail
        go_ret
        exact ⟨rfl, HB4.out.kept⟩
      · have HE := Lib.hid (show isM m = false by
          obtain ⟨_, _, h1, h2⟩ := HX.out
          unfold isM; rw [decide_eq_false (by rw [h1]; exact hc0)]; rfl)
        have g1 : (c == 0) = false := by simpa using hc0
        go_wp2_with fail
        obtain ⟨c0, c1, c2, c3, c4, c5⟩ := HB3.out.sixq (.tail _ (.tail _ (.head _)))
        obtain ⟨d0, d1, d2, d3, d4, d5⟩ := HB3.out.sixq (.tail _ (.head _))
        obtain ⟨e0, e1, e2, e3, e4, e5⟩ := HB3.out.sixq (.head _)
        have Q0 := Lib.hid (fun d os => HB3.out.checkq (.tail _ (.head _)) HZ'.out HN.out.2.1 ca2 cb2 d os)
        have Q1 := Lib.hid (fun d os => HB3.out.isq (.tail _ (.head _)) HZ'.out HN.out.2.2.1 ca2 cb2 d os)
        have Q2 := Lib.hid (fun d os => HB3.out.tagisq (.tail _ (.head _)) HZ'.out (decide_eq_true HN.out.2.2.2.2.2) cb2 d os)
        have Q3 := Lib.hid (fun d os => HB3.out.equalq (.head _) (.tail _ (.head _)) HZ'.out (decide_eq_true rfl) ca3 cb3 ca2 cb2 d os)
        have Q4 := Lib.hid (fun d os => HB3.out.sameq (.tail _ (.tail _ (.head _))) (.tail _ (.head _)) HX.out.1 HZ'.out HN.out.2.2.2.1 ca cb ca2 cb2 d os)
        have Q5 := Lib.hid (fun d os => HB3.out.checkq (.tail _ (.tail _ (.head _))) HX.out.1 HX.out.2.2.1 ca cb d os)
        have Q6 := Lib.hid (fun d os => HB3.out.awakeq d os)
        have Q7 := Lib.hid (fun d os => HB3.out.isq (.tail _ (.tail _ (.head _))) HX.out.1 HE.out ca cb d os)
        refine wp_region_quiet_below (by kernel_rfl) (by kernel_rfl) ?_
        repeat (go_big_quiet_step (first | with_reducible exact Q0.out _ _ | with_reducible exact Q1.out _ _ | with_reducible exact Q2.out _ _ | with_reducible exact Q3.out _ _ | with_reducible exact Q4.out _ _ | with_reducible exact Q5.out _ _ | with_reducible exact Q6.out _ _ | with_reducible exact Q7.out _ _))
        refine wpQuiet_nil ?_
        rintro _ ⟨⟨dq, osq⟩, rfl⟩
        have hb := HB3.out.next (below_regrown _ dq osq)
        clear c0 c1 c2 c3 c4 c5 d0 d1 d2 d3 d4 d5 e0 e1 e2 e3 e4 e5 Q0 Q1 Q2 Q3 Q4 Q5 Q6 Q7
        have HB4 := Lib.hid hb
        clear hb HB3
        go_wp2_with fail
        go_ret
        exact ⟨rfl, HB4.out.kept⟩
    · have HN := Lib.hid (show isM m = false ∧ sameM m m = false ∧ checkM m = c ∧ c ≠ 0 ∧ m' = M0 by
        obtain ⟨_, h1, h2, h3⟩ := HX.out
        have hne : codeM m ≠ 0 := by rw [h1]; exact hx0
        exact ⟨isM_no hne, sameM_no hne, h2, by rw [← h2]; exact check_no hne, by rw [← h3, nM_no hne]⟩)
      have g2 : ¬ c = 0 := HN.out.2.2.2.1
      have g1 : (c == 0) = false := by simpa using HN.out.2.2.2.1
      go_wp2_with fail
      refine (HB2.out.check_ (.tail _ (.head _)) HX.out.1 HN.out.2.2.1 _ _).mono ?_
      rintro e w3 ⟨rfl, hb⟩
      clear c0 c1 c2 c3 c4 c5
      obtain ⟨c0, c1, c2, c3, c4, c5⟩ := hb.six (.tail _ (.head _))
      have HB3 := Lib.hid hb
      clear hb HB2
      go_wp2_with fail
      refine (HB3.out.is_ (.tail _ (.head _)) HX.out.1 HN.out.1 _ _).mono ?_
      rintro e w4 ⟨rfl, hb⟩
      clear c0 c1 c2 c3 c4 c5
      obtain ⟨c0, c1, c2, c3, c4, c5⟩ := hb.six (.tail _ (.head _))
      have HB4 := Lib.hid hb
      clear hb HB3
      go_wp2_with fail
      refine (HB4.out.same_ (.tail _ (.head _)) (.tail _ (.head _)) HX.out.1 HX.out.1 HN.out.2.1 _ _ _ _).mono ?_
      rintro e w5 ⟨rfl, hb⟩
      clear c0 c1 c2 c3 c4 c5
      obtain ⟨d0, d1, d2, d3, d4, d5⟩ := hb.six (.head _)
      have HB5 := Lib.hid hb
      clear hb HB4
      have hb := HB5.out.mAdd (mis0 _ none none)
      have HC := Lib.hid hb
      clear hb HB5
      go_wp2_with fail
      refine (HC.out.equal_ (.tail _ (.head _)) (.head _) HZ'.out (decide_eq_true HN.out.2.2.2.2) _ _ 0 0).mono ?_
      rintro e w6 ⟨rfl, hb⟩
      clear d0 d1 d2 d3 d4 d5
      have HB6 := Lib.hid hb
      clear hb HC
      go_wp2_with fail
      refine (HB6.out.awake_).mono ?_
      rintro e w7 ⟨rfl, hb⟩
      have HB7 := Lib.hid hb
      clear hb HB6
      go_wp2_with fail
      go_ret
      exact ⟨by show Ending.returned (.bool (c != 0)) = _; rw [show (c != 0) = true by simpa using HN.out.2.2.2.1], HB7.out.kept⟩
end
end Go.Proofs.Ytgnpakcofkhdkaa
