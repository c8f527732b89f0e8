/-
  expr.Metric, and the document's. No statement of the seat is proved here.
-/
import Derived.Test.YtmaiggoinjldpaaGreatDoorGrEMap
import Derived.Test.YtmaiggoinjldpaaGreatDoorGrMRef1
namespace Go.Proofs.YtmaiggoinjldpaaGreatDoor
open Go.RowKit
open Dc (D D0)

/-- A number that fits. -/
def WfI (f : Int) : Prop := (Lit.int .i64 f).wf = true

theorem can_enter (f : Int) : ∀ args w, (callFunc (fnOf f) args).run Tryz.prog w = .ok (.enter (fnOf f) args) w := by
  intro args w
  unfold fnOf
  split
  · kernel_rfl
  · split
    · kernel_rfl
    · kernel_rfl

section
variable {w : World} {s : ByteArray} {A B : Option Addr} {n k ca cb : Nat} {m : Mt}
set_option maxRecDepth 100000 in
set_option maxHeartbeats 4000000 in
theorem emetric_calls (h : MIs w s A n B k m) (z : Small m) {f : Int} (hf : WfI f) : Calls Tryz.prog 10 #[.agg #[.string s, .int .i64 m.kind, .slice A n ca, .int .i64 m.rate, .slice B k cb, .int .i64 m.time], .int .i64 f] w fun e w' => e = .returned (.int .i64 (metricE m f)) ∧ Below w.heap.size w w' := by
  obtain ⟨q, hq⟩ : ∃ q, metricE m f = q := ⟨_, rfl⟩
  rw [hq]
  obtain ⟨kn, hkn⟩ : ∃ x, known f = x := ⟨_, rfl⟩
  obtain ⟨c, hc⟩ : ∃ x, checkM m = x := ⟨_, rfl⟩
  obtain ⟨y, hy⟩ : ∃ x, saysM m f = x := ⟨_, rfl⟩
  unfold metricE at hq
  rw [hkn, hc, hy] at hq
  have HQ := Lib.hid hq
  have HY := Lib.hid (And.intro hkn (And.intro hc (And.intro hy hf)))
  have HB := Lib.hid (Kb.enter (ca := ca) (cb := cb) h)
  have HZ := Lib.hid z
  clear hq hkn hc hy h z hf
  go_enter Tryz.func10, Tryz.ntmps10
  go_wp2_with fail
  refine (questions_calls _).mono ?_
  rintro e w1 ⟨b, rfl, hown, hb⟩
  obtain ⟨v, hl, hv⟩ := look_ok hown HY.out.2.2.2
  rw [HY.out.1] at hl hv
  have HB1 := Lib.hid (HB.out.next hb)
  obtain ⟨c0, c1, c2, c3, c4, c5⟩ := HB1.out.six (.head _)
  have HV := Lib.hid hv
  clear hb hown hv HB
  cases kn
  · have HE := Lib.hid (show q = 29 by rw [← HQ.out]; rfl)
    go_wp2_with fail
    go_ret
    exact ⟨by rw [HE.out]; first | done | rfl, HB1.out.kept⟩
  · obtain rfl := HV.out rfl
    go_wp2_with fail
    refine (HB1.out.check_ (.head _) HZ.out HY.out.2.1 _ _).mono ?_
    rintro e w2 ⟨rfl, hb⟩
    have HB2 := Lib.hid hb
    clear hb HB1 hl c0 c1 c2 c3 c4 c5
    obtain ⟨c0, c1, c2, c3, c4, c5⟩ := HB2.out.six (.head _)
    by_cases hc0 : c = 0
    · subst hc0
      have HC := Lib.hid (can_calls (ca := ca) (cb := cb) (HB2.out.m (.head _)) f)
      rw [HY.out.2.2.1] at HC
      go_wp2_with fail
      rw [can_enter]
      refine HC.out.mono ?_
      rintro e w3 ⟨rfl, hb⟩
      have HB3 := Lib.hid (HB2.out.next hb)
      clear hb HB2 HC c0 c1 c2 c3 c4 c5
      cases y
      · have HE := Lib.hid (show q = 26 by rw [← HQ.out]; rfl)
        go_wp2_with fail
        go_ret
        exact ⟨by rw [HE.out]; first | done | rfl, HB3.out.kept⟩
      · have HE := Lib.hid (show q = 0 by rw [← HQ.out]; rfl)
        go_wp2_with fail
        go_ret
        exact ⟨by rw [HE.out]; first | done | rfl, HB3.out.kept⟩
    · have HE := Lib.hid (show q = c by rw [← HQ.out]; simp [hc0])
      have hq : (c != 0) = true := by simpa using hc0
      go_wp2_with fail
      go_ret
      exact ⟨by rw [HE.out]; first | done | rfl, HB2.out.kept⟩

set_option maxRecDepth 100000 in
set_option maxHeartbeats 4000000 in
theorem rmetric_calls (h : MIs w s A n B k m) (z : Small m) (f : Int) : Calls Tryz.prog 7 #[.agg #[.string s, .int .i64 m.kind, .slice A n ca, .int .i64 m.rate, .slice B k cb, .int .i64 m.time], .int .i64 f] w fun e w' => e = .returned (.int .i64 (metricE m f)) ∧ Below w.heap.size w w' := by
  obtain ⟨q, hq⟩ : ∃ q, metricE m f = q := ⟨_, rfl⟩
  rw [hq]
  obtain ⟨c, hc⟩ : ∃ x, checkM m = x := ⟨_, rfl⟩
  obtain ⟨y, hy⟩ : ∃ x, saysM m f = x := ⟨_, rfl⟩
  unfold metricE at hq
  rw [hc, hy] at hq
  have HQ := Lib.hid hq
  have HY := Lib.hid (And.intro hc hy)
  have HB := Lib.hid (Kb.enter (ca := ca) (cb := cb) h)
  have HZ := Lib.hid z
  clear hq hc hy h z
  go_enter Tryz.func7, Tryz.ntmps7
  rcases (by omega : f < 1 ∨ (¬ f < 1 ∧ 4 < f) ∨ (¬ f < 1 ∧ ¬ 4 < f)) with h1 | ⟨h1, h2⟩ | ⟨h1, h2⟩
  · have HE := Lib.hid (show q = 29 by rw [← HQ.out]; unfold known; rw [decide_eq_false (by omega)]; rfl)
    go_wp2_with fail
    go_ret
    exact ⟨by rw [HE.out]; first | done | rfl, HB.out.kept⟩
  · have HE := Lib.hid (show q = 29 by rw [← HQ.out]; unfold known; rw [decide_eq_false (by omega)]; rfl)
    go_wp2_with fail
    go_ret
    exact ⟨by rw [HE.out]; first | done | rfl, HB.out.kept⟩
  · have HK := Lib.hid (show known f = true by unfold known; rw [decide_eq_true (by omega)])
    obtain ⟨c0, c1, c2, c3, c4, c5⟩ := HB.out.six (.head _)
    go_wp2_with fail
    refine (HB.out.rcheck_ (.head _) HZ.out HY.out.1 _ _).mono ?_
    rintro e w2 ⟨rfl, hb⟩
    have HB2 := Lib.hid hb
    clear hb HB c0 c1 c2 c3 c4 c5
    obtain ⟨c0, c1, c2, c3, c4, c5⟩ := HB2.out.six (.head _)
    by_cases hc0 : c = 0
    · subst hc0
      have HC := Lib.hid (rsays_calls (ca := ca) (cb := cb) (HB2.out.m (.head _)) f)
      rw [HY.out.2] at HC
      go_wp2_with fail
      refine HC.out.mono ?_
      rintro e w3 ⟨rfl, hb⟩
      have HB3 := Lib.hid (HB2.out.next hb)
      clear hb HB2 HC c0 c1 c2 c3 c4 c5
      cases y
      · have HE := Lib.hid (show q = 26 by rw [← HQ.out, HK.out]; rfl)
        go_wp2_with fail
        go_ret
        exact ⟨by rw [HE.out]; first | done | rfl, HB3.out.kept⟩
      · have HE := Lib.hid (show q = 0 by rw [← HQ.out, HK.out]; rfl)
        go_wp2_with fail
        go_ret
        exact ⟨by rw [HE.out]; first | done | rfl, HB3.out.kept⟩
    · have HE := Lib.hid (show q = c by rw [← HQ.out, HK.out]; simp [hc0])
      have hq : (c == 0) = false := by simpa using hc0
      go_wp2_with fail
      go_ret
      exact ⟨by rw [HE.out]; first | done | rfl, HB2.out.kept⟩
end
end Go.Proofs.YtmaiggoinjldpaaGreatDoor
