/-
  The walk of ExprSays. No statement of the seat is proved here.
-/
import Derived.Test.YteffankkelbhiaaEFormats
import Derived.Test.YteffankkelbhiaaEAwake
namespace Go.Proofs.Yteffankkelbhiaa
open Go.RowKit Go.Sort
open Dc (D D0)

/-- The formats up to one are the first ones of all four. -/
theorem fmtsTo_get {m : Mt} : ∀ (r j : Nat) {i : Nat} {x : Int}, (fmtsTo m j)[i]? = some x → (fmtsTo m (j + r))[i]? = some x
  | 0, _, _, _, h => h
  | r + 1, j, i, x, h => by
    have h1 := fmtsTo_get r j h
    have e : fmtsTo m (j + (r + 1)) = if metricE m (((j + r : Nat) : Int) + 1) = 0 then fmtsTo m (j + r) ++ [((j + r : Nat) : Int) + 1] else fmtsTo m (j + r) := rfl
    rw [e]
    split
    · rw [List.getElem?_append_left (List.getElem?_eq_some_iff.1 h1).1]; exact h1
    · exact h1
theorem fmtsTo_next {m : Mt} {j : Nat} (hj : j < 4) (h : metricE m ((j : Int) + 1) = 0) : (fmtsTo m 4)[(fmtsTo m j).length]? = some ((j : Int) + 1) ∧ (fmtsTo m (j + 1)).length = (fmtsTo m j).length + 1 ∧ (fmtsTo m j).length < (fmtsTo m 4).length := by
  have e1 : fmtsTo m (j + 1) = fmtsTo m j ++ [(j : Int) + 1] := by show (if _ then _ else _) = _; rw [if_pos h]
  have h1 : (fmtsTo m (j + 1))[(fmtsTo m j).length]? = some ((j : Int) + 1) := by rw [e1]; simp
  have h2 := fmtsTo_get (4 - (j + 1)) (j + 1) h1
  rw [show j + 1 + (4 - (j + 1)) = 4 by omega] at h2
  exact ⟨h2, by rw [e1, List.length_append]; rfl, (List.getElem?_eq_some_iff.1 h2).1⟩
theorem fmtsTo_stay {m : Mt} {j : Nat} (h : metricE m ((j : Int) + 1) ≠ 0) : fmtsTo m (j + 1) = fmtsTo m j := by show (if _ then _ else _) = _; rw [if_neg h]

section
open Go.Sort
variable {w W : World} {L : List (Nat × TypeId × List Value)} {M : List (ByteArray × Option Addr × Nat × Option Addr × Nat × Mt)} {s : ByteArray} {A B : Option Addr} {n k : Nat} {m : Mt} {f x : Int}
theorem Kb.emetricq (h : Kb w L M W) (hm : (s, A, n, B, k, m) ∈ M) (z : Small m) (hf : WfI f) (hx : metricE m f = x) (ca cb : Nat) :
    Qt W 12 #[.agg #[.string s, .int .i64 m.kind, .slice A n ca, .int .i64 m.rate, .slice B k cb, .int .i64 m.time], .int .i64 f] (.int .i64 x) := h.quiet fun W' h' => by
  have := emetric_calls (ca := ca) (cb := cb) (h'.m hm) z hf
  rw [hx] at this; exact this
theorem Kb.rmetricq (h : Kb w L M W) (hm : (s, A, n, B, k, m) ∈ M) (z : Small m) (hx : metricE m f = x) (ca cb : Nat) :
    Qt W 11 #[.agg #[.string s, .int .i64 m.kind, .slice A n ca, .int .i64 m.rate, .slice B k cb, .int .i64 m.time], .int .i64 f] (.int .i64 x) := h.quiet fun W' h' => by
  have := rmetric_calls (ca := ca) (cb := cb) (h'.m hm) z f
  rw [hx] at this; exact this
theorem Kb.awake9q (h : Kb w L M W) : Qt W 9 #[] (.bool true) := h.quiet fun W' _ => awake9_calls W'
end

set_option maxRecDepth 100000 in
set_option maxHeartbeats 8000000 in
theorem esays_walk {w : World} {s : ByteArray} {A B : Option Addr} {n k ca cb : Nat} {m : Mt} (h : MIs w s A n B k m) (hf : ∀ d ∈ m.vals, d.Fits) {f : Int} (hw : WfI f) :
    Calls Try.prog 3 #[mV s m.kind A n ca m.rate B k cb m.time, .int .i64 f] w fun e w' => e = .returned (.bool true) ∧ Below w.heap.size w w' := by
  obtain ⟨q, hq⟩ : ∃ q, fewM m = q := ⟨_, rfl⟩
  have HZ := Lib.hid (fun (e : q = true) => few_small (hq.trans e) hf)
  have HQ := Lib.hid (And.intro hq hw)
  have HB := Lib.hid (Kb.enter (ca := ca) (cb := cb) h)
  unfold mV
  clear hq h hf hw
  obtain ⟨c0, c1, c2, c3, c4, c5⟩ := HB.out.six (.head _)
  go_enter Try.func3, Try.ntmps3
  go_wp2_with fail
  refine (HB.out.few_ (.head _) HQ.out.1 _ _).mono ?_
  rintro e w1 ⟨rfl, hb⟩
  have HB1 := Lib.hid hb
  clear hb HB c0 c1 c2 c3 c4 c5
  cases q
  · go_wp2_with fail
    refine (awake9_calls _).mono ?_
    rintro e w2 ⟨rfl, hb⟩
    have HB2 := Lib.hid (HB1.out.next hb)
    clear hb HB1
    go_wp2_with fail
    go_ret
    exact ⟨rfl, HB2.out.kept⟩
  · have hz := HZ.out rfl
    have HF := Lib.hid (formats_calls (ca := ca) (cb := cb) (HB1.out.m (.head _)) hz)
    have HZ1 := Lib.hid hz
    clear hz HZ
    obtain ⟨c0, c1, c2, c3, c4, c5⟩ := HB1.out.six (.head _)
    go_wp2_with fail
    refine HF.out.mono ?_
    rintro e w2 ⟨⟨A', c', rfl, hl⟩, hb⟩
    have HB2 := Lib.hid (HB1.out.next hb)
    have HL2 := Lib.hid hl
    clear hb hl HF HB1 c0 c1 c2 c3 c4 c5
    obtain ⟨N, hN⟩ : ∃ N, (fmtsTo m 4).length = N := ⟨_, rfl⟩
    have HN := Lib.hid (And.intro hN (show N ≤ 4 by have := fmtsTo_len m 4; omega))
    rw [hN]
    clear hN
    go_wp2_with fail
    go_loopw [6, 7] (fun v6 v7 wr => ∃ j : Nat, ∃ i : Nat, v7 = .int .i64 ((j : Int) + 1) ∧ v6 = .int .i64 (i : Int) ∧ j ≤ 4 ∧ i ≤ j ∧ Hid (Kb w [(w.heap.size, 25, [.string s, .int .i64 m.kind, .slice A n ca, .int .i64 m.rate, .slice B k cb, .int .i64 m.time])] [(s, A, n, B, k, m)] wr ∧ Lies wr A' ((fmtsTo m 4).map intV) ∧ (fmtsTo m j).length = i)) (fun _ v7 _ => 5 - (intOf v7).toNat)
    case atStart => exact ⟨0, 0, rfl, rfl, by omega, by omega, ⟨HB2.out, HL2.out, rfl⟩⟩
    case round =>
      obtain ⟨j, i, rfl, rfl, hj, hij, hrel⟩ := hrel
      have HR := Lib.hid hrel.out
      clear hrel
      obtain ⟨c0, c1, c2, c3, c4, c5⟩ := HR.out.1.six (.head _)
      by_cases hlt : j < 4
      · have g1 : (j : Int) + 1 ≤ 4 := by omega
        obtain ⟨x, hx⟩ : ∃ x, metricE m ((j : Int) + 1) = x := ⟨_, rfl⟩
        have HC := Lib.hid (rmetric_calls (ca := ca) (cb := cb) (HR.out.1.m (.head _)) HZ1.out ((j : Int) + 1))
        rw [hx] at HC
        have HX := Lib.hid hx
        clear hx
        go_wp2_with fail
        refine HC.out.mono ?_
        rintro e w3 ⟨rfl, hb⟩
        have HB3 := Lib.hid (And.intro (HR.out.1.next hb) (HR.out.2.1.keep hb))
        clear hb HC c0 c1 c2 c3 c4 c5
        by_cases hx0 : x = 0
        · subst hx0
          obtain ⟨k1, k2, k3⟩ := fmtsTo_next hlt HX.out
          rw [HR.out.2.2] at k1 k2 k3
          rw [HN.out.1] at k3
          obtain ⟨b, off, e1, d0⟩ := HB3.out.2 i (intV ((j : Int) + 1)) (by rw [List.getElem?_map, k1]; rfl)
          unfold intV at d0
          subst e1
          have g2 : (i : Int) < (N : Int) := by omega
          have g3 : (0 : Int) ≤ (i : Int) := by omega
          have g4 : ¬ (N : Int) ≤ (i : Int) := by omega
          have HK := Lib.hid k2
          clear k1 k2 k3
          go_wp2_with fail
          refine ⟨⟨j + 1, i + 1, by go_num, by go_num, by omega, by omega, ⟨HB3.out.1, HB3.out.2, HK.out⟩⟩, by simp [intOf]; omega⟩
        · have HE := Lib.hid (fmtsTo_stay (m := m) (j := j) (by rw [HX.out]; exact hx0))
          have g2 : (x == 0) = false := by simpa using hx0
          go_wp2_with fail
          refine ⟨⟨j + 1, i, by go_num, rfl, by omega, by omega, ⟨HB3.out.1, HB3.out.2, by rw [HE.out]; exact HR.out.2.2⟩⟩, by simp [intOf]; omega⟩
      · obtain rfl : j = 4 := by omega
        obtain rfl : N = i := by rw [← HN.out.1]; exact HR.out.2.2
        have HB3 := Lib.hid HR.out.1
        obtain ⟨x, hx⟩ : ∃ x, metricE m f = x := ⟨_, rfl⟩
        have HX := Lib.hid hx
        clear hx
        go_wp2_with fail
        clear c0 c1 c2 c3 c4 c5
        obtain ⟨c0, c1, c2, c3, c4, c5⟩ := HB3.out.sixq (.head _)
        have Q0 := Lib.hid (fun d os => HB3.out.emetricq (.head _) HZ1.out HQ.out.2 HX.out ca cb d os)
        have Q1 := Lib.hid (fun d os => HB3.out.rmetricq (f := f) (.head _) HZ1.out HX.out ca cb d os)
        have Q2 := Lib.hid (fun d os => HB3.out.awake9q d os)
        refine wp_region_quiet_below (by kernel_rfl) (by kernel_rfl) ?_
        repeat (go_big_quiet_step (first | with_reducible exact Q0.out _ _ | with_reducible exact Q1.out _ _ | with_reducible exact Q2.out _ _))
        refine wpQuiet_nil ?_
        rintro _ ⟨⟨dq, osq⟩, rfl⟩
        have HB4 := Lib.hid (HB3.out.next (below_regrown _ dq osq))
        clear c0 c1 c2 c3 c4 c5 Q0 Q1 Q2 HB3
        go_wp2_with fail
        go_ret
        exact ⟨rfl, HB4.out.kept⟩
end Go.Proofs.Yteffankkelbhiaa
