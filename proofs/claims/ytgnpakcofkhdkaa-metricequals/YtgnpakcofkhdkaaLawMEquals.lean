/-
  The walk of MetricEquals. No statement of the seat is proved here.
-/
import Derived.Test.YtgnpakcofkhdkaaMLaw
namespace Go.Proofs.Ytgnpakcofkhdkaa
open Go.RowKit Go.Sort
open Dc (D D0)

section
variable {w : World} {s : ByteArray} {A B : Option Addr} {n k ca cb : Nat} {m : Mt} {s' : ByteArray} {A' B' : Option Addr} {n' k' ca' cb' : Nat} {m' : Mt}
set_option maxRecDepth 100000 in
set_option maxHeartbeats 8000000 in
theorem equals_walk (h : MIs w s A n B k m) (hf : ∀ d ∈ m.vals, d.Fits) (h' : MIs w s' A' n' B' k' m') (hf' : ∀ d ∈ m'.vals, d.Fits) :
    Calls Try.prog 5 #[mV s m.kind A n ca m.rate B k cb m.time, mV s' m'.kind A' n' ca' m'.rate B' k' cb' m'.time] w fun e w' => e = .returned (.bool true) ∧ Below w.heap.size w w' := by
  obtain ⟨q, hq⟩ : ∃ q, fewM m = q := ⟨_, rfl⟩
  obtain ⟨q', hq'⟩ : ∃ q, fewM m' = q := ⟨_, rfl⟩
  have HZ := Lib.hid (fun (e : q = true) => few_small (hq.trans e) hf)
  have HZ' := Lib.hid (fun (e : q' = true) => few_small (hq'.trans e) hf')
  have HQ := Lib.hid (And.intro hq hq')
  have hb := (((Kb.start w).mAdd h).mAdd h').lay (.string s) (.int .i64 m.kind) (.slice A n ca) (.int .i64 m.rate) (.slice B k cb) (.int .i64 m.time) |>.lay (.string s') (.int .i64 m'.kind) (.slice A' n' ca') (.int .i64 m'.rate) (.slice B' k' cb') (.int .i64 m'.time)
  rw [size_alloc] at hb
  have HB := Lib.hid hb
  unfold mV
  clear hq hq' h hf h' hf' hb
  go_enter Try.func5, Try.ntmps5
  go_wp2_with fail
  refine (HB.out.few_ (.tail _ (.head _)) HQ.out.1 _ _).mono ?_
  rintro e w1 ⟨rfl, hb⟩
  obtain ⟨c0, c1, c2, c3, c4, c5⟩ := hb.six (.tail _ (.head _))
  obtain ⟨d0, d1, d2, d3, d4, d5⟩ := hb.six (.head _)
  have HB1 := Lib.hid hb
  clear hb HB
  cases q
  · go_wp2_with fail
    refine (HB1.out.awake_).mono ?_
    rintro e w2 ⟨rfl, hb⟩
    clear c0 c1 c2 c3 c4 c5 d0 d1 d2 d3 d4 d5
    have HB2 := Lib.hid hb
    clear hb HB1
    go_wp2_with fail
    go_ret
    exact ⟨rfl, HB2.out.kept⟩
  · have HZ1 := Lib.hid (HZ.out rfl)
    clear HZ
    go_wp2_with fail
    refine (HB1.out.few_ (.head _) HQ.out.2 _ _).mono ?_
    rintro e w2 ⟨rfl, hb⟩
    clear c0 c1 c2 c3 c4 c5 d0 d1 d2 d3 d4 d5
    obtain ⟨c0, c1, c2, c3, c4, c5⟩ := hb.six (.tail _ (.head _))
    obtain ⟨d0, d1, d2, d3, d4, d5⟩ := hb.six (.head _)
    have HB2 := Lib.hid hb
    clear hb HB1
    cases q'
    · go_wp2_with fail
      refine (HB2.out.awake_).mono ?_
      rintro e w3 ⟨rfl, hb⟩
      clear c0 c1 c2 c3 c4 c5 d0 d1 d2 d3 d4 d5
      have HB3 := Lib.hid hb
      clear hb HB2
      go_wp2_with fail
      go_ret
      exact ⟨rfl, HB3.out.kept⟩
    · have hz := HZ1.out
      have hz' := HZ'.out rfl
      obtain ⟨x, hx⟩ : ∃ x, codeM m = x := ⟨_, rfl⟩
      obtain ⟨y, hy⟩ : ∃ x, codeM m' = x := ⟨_, rfl⟩
      obtain ⟨p, hp⟩ : ∃ p, decide (m = m') = p := ⟨_, rfl⟩
      obtain ⟨r, hr⟩ : ∃ p, sameM m m' = p := ⟨_, rfl⟩
      obtain ⟨l, hl⟩ : ∃ l, nM m = l := ⟨_, rfl⟩
      obtain ⟨l', hl'⟩ : ∃ l, nM m' = l := ⟨_, rfl⟩
      have HY := Lib.hid (show (decide (x = 0) && decide (y = 0) && decide (l = l')) = r by rw [← hx, ← hy, ← hl, ← hl', ← hr]; rfl)
      have HX := Lib.hid (And.intro hx (And.intro hy (And.intro hp (And.intro hr (And.intro hl hl')))))
      have HZ := Lib.hid (And.intro hz (And.intro hz' (And.intro (show Small l from hl ▸ hz.n) (show sameM m' m = r by rw [sameM_comm]; exact hr))))
      clear hz hz' hx hy hp hr hl hl' HQ HZ' HZ1
      
      go_wp2_with fail
      refine (HB2.out.rnormal_ (.tail _ (.head _)) HZ.out.1 HX.out.1 HX.out.2.2.2.2.1 _ _).mono ?_
      rintro e w3 ⟨s3, A3, n3, ca3, B3, k3, cb3, rfl, hb0⟩
      have hb := hb0.lay (.string s3) (.int .i64 l.kind) (.slice A3 n3 ca3) (.int .i64 l.rate) (.slice B3 k3 cb3) (.int .i64 l.time)
      clear c0 c1 c2 c3 c4 c5 d0 d1 d2 d3 d4 d5
      obtain ⟨d0, d1, d2, d3, d4, d5⟩ := hb.six (.tail _ (.head _))
      have HB3 := Lib.hid hb
      clear hb hb0 HB2
      go_wp2_with fail
      refine (HB3.out.rnormal_ (.tail _ (.head _)) HZ.out.2.1 HX.out.2.1 HX.out.2.2.2.2.2 _ _).mono ?_
      rintro e w4 ⟨s4, A4, n4, ca4, B4, k4, cb4, rfl, hb0⟩
      have hb := hb0.lay (.string s4) (.int .i64 l'.kind) (.slice A4 n4 ca4) (.int .i64 l'.rate) (.slice B4 k4 cb4) (.int .i64 l'.time)
      clear d0 d1 d2 d3 d4 d5
      obtain ⟨c0, c1, c2, c3, c4, c5⟩ := hb.six (.tail _ (.tail _ (.tail _ (.head _))))
      obtain ⟨d0, d1, d2, d3, d4, d5⟩ := hb.six (.tail _ (.tail _ (.head _)))
      obtain ⟨e0, e1, e2, e3, e4, e5⟩ := hb.six (.tail _ (.head _))
      have HB4 := Lib.hid hb
      clear hb hb0 HB3
      rcases (by omega : x ≠ 0 ∨ (x = 0 ∧ y ≠ 0) ∨ (x = 0 ∧ y = 0)) with hx0 | ⟨rfl, hy0⟩ | ⟨rfl, rfl⟩
      · have HR := Lib.hid (show false = r by rw [← HY.out, decide_eq_false hx0]; simp)
        obtain rfl := HR.out
        have g1 : (x == 0) = false := by simpa using hx0
        clear c0 c1 c2 c3 c4 c5 d0 d1 d2 d3 d4 d5 e0 e1 e2 e3 e4 e5
        go_wp2_with fail
        obtain ⟨c0, c1, c2, c3, c4, c5⟩ := HB4.out.sixq (.tail _ (.tail _ (.tail _ (.head _))))
        obtain ⟨d0, d1, d2, d3, d4, d5⟩ := HB4.out.sixq (.tail _ (.tail _ (.head _)))
        have Q0 := Lib.hid (fun d os => HB4.out.equalq (.tail _ (.tail _ (.tail _ (.head _)))) (.tail _ (.tail _ (.head _))) HZ.out.1 HX.out.2.2.1 ca cb ca' cb' d os)
        have Q1 := Lib.hid (fun d os => HB4.out.requalq (.tail _ (.tail _ (.tail _ (.head _)))) (.tail _ (.tail _ (.head _))) HZ.out.1 HX.out.2.2.1 ca cb ca' cb' d os)
        have Q2 := Lib.hid (fun d os => HB4.out.sameq (.tail _ (.tail _ (.tail _ (.head _)))) (.tail _ (.tail _ (.head _))) HZ.out.1 HZ.out.2.1 HX.out.2.2.2.1 ca cb ca' cb' d os)
        have Q3 := Lib.hid (fun d os => HB4.out.sameq (.tail _ (.tail _ (.head _))) (.tail _ (.tail _ (.tail _ (.head _)))) HZ.out.2.1 HZ.out.1 HZ.out.2.2.2 ca' cb' ca cb d os)
        have Q4 := Lib.hid (fun d os => HB4.out.awakeq d os)
        refine wp_region_quiet_below (by kernel_rfl) (by kernel_rfl) ?_
        repeat (go_big_quiet_step (first | with_reducible exact Q0.out _ _ | with_reducible exact Q1.out _ _ | with_reducible exact Q2.out _ _ | with_reducible exact Q3.out _ _ | with_reducible exact Q4.out _ _))
        refine wpQuiet_nil ?_
        rintro _ ⟨⟨dq, osq⟩, rfl⟩
        have hb := HB4.out.next (below_regrown _ dq osq)
        clear c0 c1 c2 c3 c4 c5 d0 d1 d2 d3 d4 d5 Q0 Q1 Q2 Q3 Q4
        have HB5 := Lib.hid hb
        clear hb HB4
        go_wp2_with fail
        go_ret
        exact ⟨rfl, HB5.out.kept⟩
      · have HR := Lib.hid (show false = r by rw [← HY.out, decide_eq_false hy0]; simp)
        obtain rfl := HR.out
        have g1 : (y == 0) = false := by simpa using hy0
        clear c0 c1 c2 c3 c4 c5 d0 d1 d2 d3 d4 d5 e0 e1 e2 e3 e4 e5
        go_wp2_with fail
        obtain ⟨c0, c1, c2, c3, c4, c5⟩ := HB4.out.sixq (.tail _ (.tail _ (.tail _ (.head _))))
        obtain ⟨d0, d1, d2, d3, d4, d5⟩ := HB4.out.sixq (.tail _ (.tail _ (.head _)))
        have Q0 := Lib.hid (fun d os => HB4.out.equalq (.tail _ (.tail _ (.tail _ (.head _)))) (.tail _ (.tail _ (.head _))) HZ.out.1 HX.out.2.2.1 ca cb ca' cb' d os)
        have Q1 := Lib.hid (fun d os => HB4.out.requalq (.tail _ (.tail _ (.tail _ (.head _)))) (.tail _ (.tail _ (.head _))) HZ.out.1 HX.out.2.2.1 ca cb ca' cb' d os)
        have Q2 := Lib.hid (fun d os => HB4.out.sameq (.tail _ (.tail _ (.tail _ (.head _)))) (.tail _ (.tail _ (.head _))) HZ.out.1 HZ.out.2.1 HX.out.2.2.2.1 ca cb ca' cb' d os)
        have Q3 := Lib.hid (fun d os => HB4.out.sameq (.tail _ (.tail _ (.head _))) (.tail _ (.tail _ (.tail _ (.head _)))) HZ.out.2.1 HZ.out.1 HZ.out.2.2.2 ca' cb' ca cb d os)
        have Q4 := Lib.hid (fun d os => HB4.out.awakeq d os)
        refine wp_region_quiet_below (by kernel_rfl) (by kernel_rfl) ?_
        repeat (go_big_quiet_step (first | with_reducible exact Q0.out _ _ | with_reducible exact Q1.out _ _ | with_reducible exact Q2.out _ _ | with_reducible exact Q3.out _ _ | with_reducible exact Q4.out _ _))
        refine wpQuiet_nil ?_
        rintro _ ⟨⟨dq, osq⟩, rfl⟩
        have hb := HB4.out.next (below_regrown _ dq osq)
        clear c0 c1 c2 c3 c4 c5 d0 d1 d2 d3 d4 d5 Q0 Q1 Q2 Q3 Q4
        have HB5 := Lib.hid hb
        clear hb HB4
        go_wp2_with fail
        go_ret
        exact ⟨rfl, HB5.out.kept⟩
      · have HR := Lib.hid (show decide (l = l') = r by rw [← HY.out]; simp)
        go_wp2_with fail
        refine (HB4.out.requal_ (.tail _ (.head _)) (.head _) HZ.out.2.2.1 HR.out _ _ _ _).mono ?_
        rintro e w5 ⟨rfl, hb⟩
        clear c0 c1 c2 c3 c4 c5 d0 d1 d2 d3 d4 d5 e0 e1 e2 e3 e4 e5
        obtain ⟨c0, c1, c2, c3, c4, c5⟩ := hb.six (.tail _ (.tail _ (.tail _ (.head _))))
        obtain ⟨d0, d1, d2, d3, d4, d5⟩ := hb.six (.tail _ (.tail _ (.head _)))
        have HB5 := Lib.hid hb
        clear hb HB4
        clear c0 c1 c2 c3 c4 c5 d0 d1 d2 d3 d4 d5
        go_wp2_with fail
        obtain ⟨c0, c1, c2, c3, c4, c5⟩ := HB5.out.sixq (.tail _ (.tail _ (.tail _ (.head _))))
        obtain ⟨d0, d1, d2, d3, d4, d5⟩ := HB5.out.sixq (.tail _ (.tail _ (.head _)))
        have Q0 := Lib.hid (fun d os => HB5.out.equalq (.tail _ (.tail _ (.tail _ (.head _)))) (.tail _ (.tail _ (.head _))) HZ.out.1 HX.out.2.2.1 ca cb ca' cb' d os)
        have Q1 := Lib.hid (fun d os => HB5.out.requalq (.tail _ (.tail _ (.tail _ (.head _)))) (.tail _ (.tail _ (.head _))) HZ.out.1 HX.out.2.2.1 ca cb ca' cb' d os)
        have Q2 := Lib.hid (fun d os => HB5.out.sameq (.tail _ (.tail _ (.tail _ (.head _)))) (.tail _ (.tail _ (.head _))) HZ.out.1 HZ.out.2.1 HX.out.2.2.2.1 ca cb ca' cb' d os)
        have Q3 := Lib.hid (fun d os => HB5.out.sameq (.tail _ (.tail _ (.head _))) (.tail _ (.tail _ (.tail _ (.head _)))) HZ.out.2.1 HZ.out.1 HZ.out.2.2.2 ca' cb' ca cb d os)
        have Q4 := Lib.hid (fun d os => HB5.out.awakeq d os)
        refine wp_region_quiet_below (by kernel_rfl) (by kernel_rfl) ?_
        repeat (go_big_quiet_step (first | with_reducible exact Q0.out _ _ | with_reducible exact Q1.out _ _ | with_reducible exact Q2.out _ _ | with_reducible exact Q3.out _ _ | with_reducible exact Q4.out _ _))
        refine wpQuiet_nil ?_
        rintro _ ⟨⟨dq, osq⟩, rfl⟩
        have hb := HB5.out.next (below_regrown _ dq osq)
        clear c0 c1 c2 c3 c4 c5 d0 d1 d2 d3 d4 d5 Q0 Q1 Q2 Q3 Q4
        have HB6 := Lib.hid hb
        clear hb HB5
        go_wp2_with fail
        go_ret
        exact ⟨rfl, HB6.out.kept⟩
end
end Go.Proofs.Ytgnpakcofkhdkaa
