/-
  expr.Cut. No statement of the seat is proved here.
-/
import Derived.Test.YteffankkelbhiaaESay
namespace Go.Proofs.Yteffankkelbhiaa
open Go.RowKit
open Dc (D D0)

section
variable {w : World} {s : ByteArray} {A B : Option Addr} {n k ca cb : Nat} {m : Mt}
theorem own_lit {base size n : Nat} (w : World) (t : TypeId) {xs : List Value} (hb : base ≤ w.heap.size) (hl : xs.length = n * size) (hn : n ≤ maxLen) : (w.alloc (.cells xs.toArray t)).ownsRow base t size (.slice (some ⟨w.heap.size, 0, none⟩) n n) n xs :=
  ⟨hl, .inr ⟨w.heap.size, n, xs.toArray, rfl, hb, Box.new w t xs, Nat.le_refl _, hn, by simpa using hl, by rw [← hl]; simp⟩⟩
/-- What a call of Cut leaves. -/
def CutP (w : World) (m : Mt) (f : Int) (e : Ending) (w' : World) : Prop :=
  (∃ A' n' c' cs, e = .returned (.tuple #[.slice A' n' c', .int .i64 (cutE m f)]) ∧ Cuts w.heap.size w' (.slice A' n' c') n' cs ∧ datM cs = cutR m f) ∧ Below w.heap.size w w'
theorem sayable_says (h : MIs w s A n B k m) (hz : Small m) (hc : n ≤ ca ∧ ca ≤ maxLen) (hx : checkM m = 0) {f : Int} (hk : known f = true) (hf : WfI f) {kd rt tm : Int} (e1 : m.kind = kd) (e2 : m.rate = rt) (e3 : m.time = tm) :
    Calls Try.prog 27 #[.agg #[.string s, .int .i64 kd, .slice A n ca, .int .i64 rt, .slice B k cb, .int .i64 tm], .int .i64 f] w fun e w' => (∃ v cs, e = .returned v ∧ Cuts w.heap.size w' v cs.length cs ∧ datM cs = onesL m f) ∧ Below w.heap.size w w' := by
  subst e1 e2 e3
  exact sayable_calls h hz hc hx hk hf
theorem cuts_nil (base : Nat) (W : World) : Cuts base W (.slice none 0 0) 0 [] := ⟨⟨⟨rfl, .inl ⟨rfl, rfl⟩⟩, by simp⟩, List.Pairwise.nil⟩

set_option maxRecDepth 100000 in
set_option maxHeartbeats 4000000 in
theorem cut_calls (h : MIs w s A n B k m) (hz : Small m) (hc : n ≤ ca ∧ ca ≤ maxLen) {f : Int} (hf : WfI f) :
    Calls Try.prog 16 #[mV s m.kind A n ca m.rate B k cb m.time, .int .i64 f] w (CutP w m f) := by
  have HH := Lib.hid (And.intro h (And.intro hz (And.intro hc hf)))
  have HB := Lib.hid (Kb.enter (ca := ca) (cb := cb) h)
  obtain ⟨x, hx⟩ : ∃ x, metricE m f = x := ⟨_, rfl⟩
  have HX := Lib.hid hx
  have HM := Lib.hid (emetric_calls (ca := ca) (cb := cb) (HB.out.m (.head _)) hz hf)
  rw [hx] at HM
  unfold mV
  clear h hz hc hf hx
  obtain ⟨c0, c1, c2, c3, c4, c5⟩ := HB.out.six (.head _)
  go_enter Try.func16, Try.ntmps16
  go_wp2_with fail
  refine HM.out.mono ?_
  rintro e w1 ⟨rfl, hb⟩
  have HB1 := Lib.hid (HB.out.next hb)
  clear hb HB HM c0 c1 c2 c3 c4 c5
  obtain ⟨c0, c1, c2, c3, c4, c5⟩ := HB1.out.six (.head _)
  rcases (by omega : x = 0 ∨ (¬ x = 0 ∧ ¬ x = 26) ∨ x = 26) with h1 | ⟨h1, h2⟩ | h1
  · subst h1
    obtain ⟨e1, e2⟩ := cutE_zero HX.out
    have HE := Lib.hid (And.intro e1 (show cutR m f = [m] by unfold cutR; rw [if_pos e1, e2]))
    have HCl := Lib.hid (clone_calls7 (ca := ca) (cb := cb) (HB1.out.m (.head _)) HH.out.2.1)
    unfold mV at HCl
    clear e1 e2
    go_wp2_with fail
    refine HCl.out.mono ?_
    rintro e w2 ⟨⟨A', ca', B', cb', rfl, ho⟩, hb⟩
    have HO := Lib.hid (And.intro ho hb)
    clear ho hb HCl c0 c1 c2 c3 c4 c5
    unfold mV
    go_wp2_with fail
    go_ret2
    have ho : OwnM w1.heap.size (w2.alloc (.cells #[.string s, .int .i64 m.kind, .slice A' n ca', .int .i64 m.rate, .slice B' k cb', .int .i64 m.time] 25)) s A' n ca' B' k cb' m := HO.out.1.keep (m_below _ _)
    refine ⟨⟨some ⟨w2.heap.size, 0, none⟩, 1, 1, [⟨s, A', n, ca', B', k, cb', m⟩], by rw [HE.out.1]; first | done | rfl, ⟨⟨?_, fun e he => ?_⟩, List.pairwise_singleton _ _⟩, by rw [HE.out.2]; rfl⟩, below_then (below_then HB1.out.kept HO.out.2) (m_below _ _)⟩
    · rw [flatM_one]
      exact own_lit w2 25 (size := 6) (n := 1) (xs := encM ⟨s, A', n, ca', B', k, cb', m⟩) (Nat.le_trans HB1.out.kept.size HO.out.2.size) rfl (by unfold maxLen; omega)
    · rcases List.mem_singleton.1 he with rfl
      exact ho.low HB1.out.kept.size
  · have HE := Lib.hid (And.intro (show cutE m f = x by rw [← HX.out]; exact cutE_other (by rw [HX.out]; exact h1) (by rw [HX.out]; exact h2)) (show cutR m f = [] by
      unfold cutR; rw [if_neg]; rw [cutE_other (by rw [HX.out]; exact h1) (by rw [HX.out]; exact h2), HX.out]; exact h1))
    have g1 : (x == 0) = false := by simpa using h1
    have g2 : (x != 26) = true := by simpa using h2
    go_wp2_with fail
    go_ret2
    exact ⟨⟨none, 0, 0, [], by rw [HE.out.1]; first | done | rfl, cuts_nil _ _, by rw [HE.out.2]; rfl⟩, HB1.out.kept⟩
  · subst h1
    obtain ⟨k1, k2, k3, k4, k5⟩ := cutE_says HX.out
    have HE := Lib.hid (And.intro k1 (And.intro k2 (And.intro k4 k5)))
    clear k1 k2 k4 k5
    rcases k3 with rfl | rfl
    · have x0 : Box w1 w.heap.size 25 (mC s m.kind A n ca m.rate B k cb m.time) := HB1.out.box _ (.head _)
      have f4 := x0.frozen 4
      have f5 := x0.frozen 5
      have hb1 := below_set HB1.out.kept (Nat.le_refl _) 4 (.slice none 0 0)
      have hb1 := below_set hb1 (Nat.le_refl _) 5 (.int .i64 0)
      have hm : MIs ((w1.setCell ⟨w.heap.size, 4, none⟩ (.slice none 0 0)).setCell ⟨w.heap.size, 5, none⟩ (.int .i64 0)) s A n none 0 (bareT m 1) := ⟨HH.out.1.name, HH.out.1.vlen, HH.out.1.vals.keep hb1, rfl, Tags.nil⟩
      have HS := Lib.hid (sayable_says (ca := ca) (cb := 0) hm (HH.out.2.1.bareT 1) HH.out.2.2.1 (check_bareT HE.out.2.1 1) HE.out.1 HH.out.2.2.2 (kd := m.kind) (rt := m.rate) (tm := 0) rfl rfl rfl)
      have HW := Lib.hid hb1
      clear x0 hb1 hm
      go_wp2_with fail
      refine HS.out.mono ?_
      rintro e w2 ⟨⟨v, cs, rfl, hcu, hcd⟩, hb⟩
      obtain ⟨Av, cv, rfl, -⟩ := own_slice hcu.owns.own
      have HO := Lib.hid (And.intro (hcu.base HW.out.size) (And.intro hcd (below_then HW.out hb)))
      clear hcu hcd f4 f5 c0 c1 c2 c3 c4 c5
      clear hb HB1 HS
      by_cases hl : cs.length = 0
      · have e0 : onesL (bareT m 1) 1 = [] := by rw [← HO.out.2.1]; rw [List.eq_nil_of_length_eq_zero hl]; rfl
        have HF := Lib.hid (And.intro (show cutE m 1 = 26 by rw [HE.out.2.2.2, e0]; rfl) (show cutR m 1 = [] by unfold cutR; rw [HE.out.2.2.2, e0]; rfl))
        have g1 : (cs.length : Int) = 0 := by omega
        clear e0
        go_wp2_with fail
        go_ret2
        exact ⟨⟨none, 0, 0, [], by rw [HF.out.1]; first | done | rfl, cuts_nil _ _, by rw [HF.out.2]; rfl⟩, HO.out.2.2⟩
      · have e0 : onesL (bareT m 1) 1 ≠ [] := by rw [← HO.out.2.1]; intro e; exact hl (by rw [← datM_len, e]; rfl)
        have HF := Lib.hid (And.intro (show cutE m 1 = 0 by rw [HE.out.2.2.2, if_neg e0]) (show cutR m 1 = onesL (bareT m 1) 1 by unfold cutR; rw [HE.out.2.2.2, if_neg e0, if_pos rfl, HE.out.2.2.1]))
        have g1 : ((cs.length : Int) == 0) = false := by simpa using hl
        clear e0
        go_wp2_with fail
        go_ret2
        exact ⟨⟨Av, cs.length, cv, cs, by rw [HF.out.1]; first | done | rfl, HO.out.1, by rw [HF.out.2]; exact HO.out.2.1⟩, HO.out.2.2⟩
    · have x0 : Box w1 w.heap.size 25 (mC s m.kind A n ca m.rate B k cb m.time) := HB1.out.box _ (.head _)
      have f4 := x0.frozen 4
      have f5 := x0.frozen 5
      have hb1 := below_set HB1.out.kept (Nat.le_refl _) 4 (.slice none 0 0)
      have hm : MIs (w1.setCell ⟨w.heap.size, 4, none⟩ (.slice none 0 0)) s A n none 0 (bareT m 3) := ⟨HH.out.1.name, HH.out.1.vlen, HH.out.1.vals.keep hb1, rfl, Tags.nil⟩
      have HS := Lib.hid (sayable_says (ca := ca) (cb := 0) hm (HH.out.2.1.bareT 3) HH.out.2.2.1 (check_bareT HE.out.2.1 3) HE.out.1 HH.out.2.2.2 (kd := m.kind) (rt := m.rate) (tm := m.time) rfl rfl rfl)
      have HW := Lib.hid hb1
      clear x0 hb1 hm
      go_wp2_with fail
      refine HS.out.mono ?_
      rintro e w2 ⟨⟨v, cs, rfl, hcu, hcd⟩, hb⟩
      obtain ⟨Av, cv, rfl, -⟩ := own_slice hcu.owns.own
      have HO := Lib.hid (And.intro (hcu.base HW.out.size) (And.intro hcd (below_then HW.out hb)))
      clear hcu hcd f4 f5 c0 c1 c2 c3 c4 c5
      clear hb HB1 HS
      by_cases hl : cs.length = 0
      · have e0 : onesL (bareT m 3) 3 = [] := by rw [← HO.out.2.1]; rw [List.eq_nil_of_length_eq_zero hl]; rfl
        have HF := Lib.hid (And.intro (show cutE m 3 = 26 by rw [HE.out.2.2.2, e0]; rfl) (show cutR m 3 = [] by unfold cutR; rw [HE.out.2.2.2, e0]; rfl))
        have g1 : (cs.length : Int) = 0 := by omega
        clear e0
        go_wp2_with fail
        go_ret2
        exact ⟨⟨none, 0, 0, [], by rw [HF.out.1]; first | done | rfl, cuts_nil _ _, by rw [HF.out.2]; rfl⟩, HO.out.2.2⟩
      · have e0 : onesL (bareT m 3) 3 ≠ [] := by rw [← HO.out.2.1]; intro e; exact hl (by rw [← datM_len, e]; rfl)
        have HF := Lib.hid (And.intro (show cutE m 3 = 0 by rw [HE.out.2.2.2, if_neg e0]) (show cutR m 3 = onesL (bareT m 3) 3 by unfold cutR; rw [HE.out.2.2.2, if_neg e0, if_pos rfl, HE.out.2.2.1]))
        have g1 : ((cs.length : Int) == 0) = false := by simpa using hl
        clear e0
        go_wp2_with fail
        go_ret2
        exact ⟨⟨Av, cs.length, cv, cs, by rw [HF.out.1]; first | done | rfl, HO.out.1, by rw [HF.out.2]; exact HO.out.2.1⟩, HO.out.2.2⟩
end
end Go.Proofs.Yteffankkelbhiaa
