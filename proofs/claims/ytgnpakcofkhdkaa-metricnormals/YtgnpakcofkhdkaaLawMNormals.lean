/-
  The walk of MetricNormals. No statement of the seat is proved here.
-/
import Derived.Test.YtgnpakcofkhdkaaMLaw
namespace Go.Proofs.Ytgnpakcofkhdkaa
open Go.RowKit
open Dc (D D0)

section
variable {w : World} {s : ByteArray} {A B : Option Addr} {n k ca cb : Nat} {m : Mt}
set_option maxRecDepth 100000 in
set_option maxHeartbeats 8000000 in
theorem normals_walk (h : MIs w s A n B k m) (hf : ∀ d ∈ m.vals, d.Fits) : Calls Try.prog 4 #[mV s m.kind A n ca m.rate B k cb m.time] w fun e w' => e = .returned (.bool true) ∧ Below w.heap.size w w' := by
  obtain ⟨q, hq⟩ : ∃ q, fewM m = q := ⟨_, rfl⟩
  have HZ := Lib.hid (fun (e : q = true) => few_small (hq.trans e) hf)
  have HQ := Lib.hid hq
  have HB := Lib.hid (Kb.enter (ca := ca) (cb := cb) h)
  unfold mV
  clear hq h hf
  go_enter Try.func4, Try.ntmps4
  go_wp2_with fail
  refine (HB.out.few_ (.head _) HQ.out _ _).mono ?_
  rintro e w1 ⟨rfl, hb⟩
  have HB1 := Lib.hid hb
  clear hb HB HQ
  cases q
  · go_wp2_with fail
    refine HB1.out.awake_.mono ?_
    rintro e w2 ⟨rfl, hb⟩
    have HB2 := Lib.hid hb
    clear hb HB1
    go_wp2_with fail
    go_ret
    exact ⟨rfl, HB2.out.kept⟩
  · have hz := HZ.out rfl
    obtain ⟨x, hx⟩ : ∃ x, codeM m = x := ⟨_, rfl⟩
    obtain ⟨c, hc⟩ : ∃ c, checkM m = c := ⟨_, rfl⟩
    obtain ⟨p, hp⟩ : ∃ p, isM m = p := ⟨_, rfl⟩
    obtain ⟨m', hm'⟩ : ∃ m', nM m = m' := ⟨_, rfl⟩
    have HX := Lib.hid (And.intro hz (And.intro hx (And.intro hc (And.intro hm' hp))))
    have hz' : Small m' := hm' ▸ hz.n
    have HZ' := Lib.hid hz'
    clear hz hx hc hp hm' hz' HZ
    obtain ⟨c0, c1, c2, c3, c4, c5⟩ := HB1.out.six (.head _)
    go_wp2_with fail
    refine (HB1.out.normal_ (.head _) HX.out.1 HX.out.2.1 HX.out.2.2.2.1 _ _).mono ?_
    rintro e w2 ⟨s1, A1, n1, ca1, B1, k1, cb1, rfl, hb⟩
    have hb2 := hb.lay (.string s1) (.int .i64 m'.kind) (.slice A1 n1 ca1) (.int .i64 m'.rate) (.slice B1 k1 cb1) (.int .i64 m'.time)
    clear c0 c1 c2 c3 c4 c5
    obtain ⟨c0, c1, c2, c3, c4, c5⟩ := hb2.six (.tail _ (.head _))
    have HB2 := Lib.hid hb2
    clear hb hb2 HB1
    go_wp2_with fail
    refine (HB2.out.rnormal_ (.tail _ (.head _)) HX.out.1 HX.out.2.1 HX.out.2.2.2.1 _ _).mono ?_
    rintro e w3 ⟨s2, A2, n2, ca2, B2, k2, cb2, rfl, hb⟩
    have hb3 := hb.lay (.string s2) (.int .i64 m'.kind) (.slice A2 n2 ca2) (.int .i64 m'.rate) (.slice B2 k2 cb2) (.int .i64 m'.time)
    clear c0 c1 c2 c3 c4 c5
    obtain ⟨c0, c1, c2, c3, c4, c5⟩ := hb3.six (.tail _ (.head _))
    have HB3 := Lib.hid hb3
    clear hb hb3 HB2
    go_wp2_with fail
    refine (HB3.out.requal_ (.tail _ (.head _)) (.head _) HZ'.out (decide_eq_true rfl) _ _ _ _).mono ?_
    rintro e w4 ⟨rfl, hb⟩
    clear c0 c1 c2 c3 c4 c5
    obtain ⟨c0, c1, c2, c3, c4, c5⟩ := hb.six (.tail _ (.tail _ (.head _)))
    obtain ⟨d0, d1, d2, d3, d4, d5⟩ := hb.six (.head _)
    have HB4 := Lib.hid hb
    clear hb HB3
    rcases (by omega : x ≠ 0 ∨ (x = 0 ∧ c ≠ 0) ∨ (x = 0 ∧ c = 0)) with hx0 | ⟨rfl, hc0⟩ | ⟨rfl, rfl⟩
    · have g1 : (x == 0) = false := by simpa using hx0
      have HP := Lib.hid (show isM m = false by
        obtain ⟨_, h2, h3, _⟩ := HX.out
        unfold isM
        rw [decide_eq_false fun h => hx0 (h2.symm.trans (check_code h))]; rfl)
      go_wp2_with fail
      refine (HB4.out.is_ (.tail _ (.tail _ (.head _))) HX.out.1 HP.out _ _).mono ?_
      rintro e w5 ⟨rfl, hb⟩
      have HB5 := Lib.hid hb
      clear hb HB4 c0 c1 c2 c3 c4 c5 d0 d1 d2 d3 d4 d5
      go_wp2_with fail
      refine HB5.out.awake_.mono ?_
      rintro e w6 ⟨rfl, hb⟩
      have HB6 := Lib.hid hb
      clear hb HB5
      go_wp2_with fail
      go_ret
      exact ⟨rfl, HB6.out.kept⟩
    · have HP := Lib.hid (show isM m = false by
        obtain ⟨_, h2, h3, _⟩ := HX.out
        unfold isM
        rw [decide_eq_false fun h => hc0 (h3.symm.trans h)]; rfl)
      have g1 : (c == 0) = false := by simpa using hc0
      go_wp2_with fail
      refine (HB4.out.rcheck_ (.tail _ (.tail _ (.head _))) HX.out.1 HX.out.2.2.1 _ _).mono ?_
      rintro e w5 ⟨rfl, hb⟩
      clear c0 c1 c2 c3 c4 c5 d0 d1 d2 d3 d4 d5
      obtain ⟨c0, c1, c2, c3, c4, c5⟩ := hb.six (.tail _ (.tail _ (.head _)))
      have HB5 := Lib.hid hb
      clear hb HB4
      go_wp2_with fail
      refine (HB5.out.is_ (.tail _ (.tail _ (.head _))) HX.out.1 HP.out _ _).mono ?_
      rintro e w6 ⟨rfl, hb⟩
      have HB6 := Lib.hid hb
      clear hb HB5 c0 c1 c2 c3 c4 c5
      go_wp2_with fail
      refine HB6.out.awake_.mono ?_
      rintro e w7 ⟨rfl, hb⟩
      have HB7 := Lib.hid hb
      clear hb HB6
      go_wp2_with fail
      go_ret
      exact ⟨rfl, HB7.out.kept⟩
    · have HP := Lib.hid (show decide (m = m') = p by
        obtain ⟨_, h2, h3, h4, h5⟩ := HX.out
        rw [← h5, isM_iff, decide_eq_true h3, Bool.true_and, ← h4, nM_ok h2])
      go_wp2_with fail
      refine (HB4.out.rcheck_ (.tail _ (.tail _ (.head _))) HX.out.1 HX.out.2.2.1 _ _).mono ?_
      rintro e w5 ⟨rfl, hb⟩
      clear c0 c1 c2 c3 c4 c5 d0 d1 d2 d3 d4 d5
      obtain ⟨c0, c1, c2, c3, c4, c5⟩ := hb.six (.tail _ (.tail _ (.head _)))
      obtain ⟨d0, d1, d2, d3, d4, d5⟩ := hb.six (.head _)
      have HB5 := Lib.hid hb
      clear hb HB4
      go_wp2_with fail
      refine (HB5.out.requal_ (.tail _ (.tail _ (.head _))) (.head _) HX.out.1 HP.out _ _ _ _).mono ?_
      rintro e w6 ⟨rfl, hb⟩
      clear c0 c1 c2 c3 c4 c5 d0 d1 d2 d3 d4 d5
      obtain ⟨c0, c1, c2, c3, c4, c5⟩ := hb.six (.tail _ (.tail _ (.head _)))
      have HB6 := Lib.hid hb
      clear hb HB5
      go_wp2_with fail
      refine (HB6.out.is_ (.tail _ (.tail _ (.head _))) HX.out.1 HX.out.2.2.2.2 _ _).mono ?_
      rintro e w7 ⟨rfl, hb⟩
      have HB7 := Lib.hid hb
      clear hb HB6 c0 c1 c2 c3 c4 c5
      go_wp2_with fail
      refine HB7.out.awake_.mono ?_
      rintro e w8 ⟨rfl, hb⟩
      have HB8 := Lib.hid hb
      clear hb HB7
      go_wp2_with fail
      go_ret
      exact ⟨rfl, HB8.out.kept⟩
end
end Go.Proofs.Ytgnpakcofkhdkaa
