/-
  The walk of ExprItself. No statement of the seat is proved here.
-/
import Derived.Test.YteffankkelbhiaaEItself
import Derived.Test.YteffankkelbhiaaEAwake
namespace Go.Proofs.Yteffankkelbhiaa
open Go.RowKit Go.Sort
open Dc (D D0)

theorem cutR_len {m : Mt} {f : Int} (h : Small m) : (cutR m f).length ≤ 1000 := by
  unfold cutR
  split
  · exact cutL_len h
  · exact Nat.zero_le _
theorem cutR_sm {m : Mt} {f : Int} (h : Small m) : ∀ x ∈ cutR m f, Small x := by
  intro x hx
  unfold cutR at hx
  split at hx
  · exact cutL_small h x hx
  · cases hx
theorem Kb.equal9q {w W : World} {L : List (Nat × TypeId × List Value)} {M : List (ByteArray × Option Addr × Nat × Option Addr × Nat × Mt)} {s s' : ByteArray} {A B A' B' : Option Addr} {n k n' k' : Nat} {m m' : Mt} (h : Kb w L M W) (hm : (s, A, n, B, k, m) ∈ M) (hm' : (s', A', n', B', k', m') ∈ M) (z : Small m) {x : Bool} (hx : decide (m = m') = x) (ca cb ca' cb' : Nat) :
    Qt W 20 #[.agg #[.string s, .int .i64 m.kind, .slice A n ca, .int .i64 m.rate, .slice B k cb, .int .i64 m.time], .agg #[.string s', .int .i64 m'.kind, .slice A' n' ca', .int .i64 m'.rate, .slice B' k' cb', .int .i64 m'.time]] (.bool x) := h.quiet fun W' h' => by
  have := equal_calls (ca := ca) (cb := cb) (ca' := ca') (cb' := cb') (h'.m hm) (h'.m hm') z
  rw [hx] at this; exact this
theorem Kb.emetricq {w W : World} {L : List (Nat × TypeId × List Value)} {M : List (ByteArray × Option Addr × Nat × Option Addr × Nat × Mt)} {s : ByteArray} {A B : Option Addr} {n k : Nat} {m : Mt} {f x : Int} (h : Kb w L M W) (hm : (s, A, n, B, k, m) ∈ M) (z : Small m) (hf : WfI f) (hx : metricE m f = x) (ca cb : Nat) :
    Qt W 12 #[.agg #[.string s, .int .i64 m.kind, .slice A n ca, .int .i64 m.rate, .slice B k cb, .int .i64 m.time], .int .i64 f] (.int .i64 x) := h.quiet fun W' h' => by
  have := emetric_calls (ca := ca) (cb := cb) (h'.m hm) z hf
  rw [hx] at this; exact this
theorem Kb.awake9_q {w W : World} {L : List (Nat × TypeId × List Value)} {M : List (ByteArray × Option Addr × Nat × Option Addr × Nat × Mt)} (h : Kb w L M W) : Qt W 9 #[] (.bool true) := h.quiet fun W' _ => awake9_calls W'

set_option maxRecDepth 100000 in
set_option maxHeartbeats 40000000 in
theorem eitself_walk {w : World} {s : ByteArray} {A B : Option Addr} {n k ca cb : Nat} {m : Mt} (h : MIs w s A n B k m) (hf : ∀ d ∈ m.vals, d.Fits) (hc : n ≤ ca ∧ ca ≤ maxLen) {f : Int} (hw : WfI f) :
    Calls Try.prog 6 #[mV s m.kind A n ca m.rate B k cb m.time, .int .i64 f] w fun e w' => e = .returned (.bool true) ∧ Below w.heap.size w w' := by
  obtain ⟨q, hq⟩ : ∃ q, fewM m = q := ⟨_, rfl⟩
  have HZ := Lib.hid (fun (e : q = true) => few_small (hq.trans e) hf)
  have HQ := Lib.hid (And.intro hq (And.intro hc hw))
  have HB := Lib.hid (Kb.enter (ca := ca) (cb := cb) h)
  unfold mV
  clear hq h hf hc hw
  obtain ⟨c0, c1, c2, c3, c4, c5⟩ := HB.out.six (.head _)
  go_enter Try.func6, Try.ntmps6
  go_wp2_with fail
  refine (HB.out.few_ (.head _) HQ.out.1 _ _).mono ?_
  rintro e w1 ⟨rfl, hb⟩
  have HB1 := Lib.hid hb
  clear hb HB c0 c1 c2 c3 c4 c5
  cases q
  · go_wp2_with fail
    refine (awake9_calls _).mono ?_
    rintro e w2 ⟨rfl, hb⟩
    have HB2 := Lib.hid (HB1.out.next hb)
    clear hb HB1
    go_wp2_with fail
    go_ret
    exact ⟨rfl, HB2.out.kept⟩
  · have hz := HZ.out rfl
    have HZ1 := Lib.hid hz
    obtain ⟨x, hx⟩ : ∃ x, metricE m f = x := ⟨_, rfl⟩
    have HX := Lib.hid hx
    have HCl := Lib.hid (clone_calls7 (ca := ca) (cb := cb) (HB1.out.m (.head _)) hz)
    unfold mV at HCl
    clear hz HZ hx
    obtain ⟨c0, c1, c2, c3, c4, c5⟩ := HB1.out.six (.head _)
    go_wp2_with fail
    refine HCl.out.mono ?_
    rintro e w2 ⟨⟨A2, ca2, B2, cb2, rfl, ho⟩, hb⟩
    have hk2 := ((HB1.out.next hb).mAdd ho.mis).lay (.string s) (.int .i64 m.kind) (.slice A2 n ca2) (.int .i64 m.rate) (.slice B2 k cb2) (.int .i64 m.time)
    have HB2 := Lib.hid hk2
    clear hb ho hk2 HCl HB1 c0 c1 c2 c3 c4 c5
    unfold mV
    obtain ⟨c0, c1, c2, c3, c4, c5⟩ := HB2.out.six (.tail _ (.head _))
    have HCt := Lib.hid (cut_calls (ca := ca) (cb := cb) (HB2.out.m (.tail _ (.head _))) HZ1.out HQ.out.2.1 HQ.out.2.2)
    unfold mV at HCt
    go_wp2_with fail
    refine HCt.out.mono ?_
    obtain ⟨W2, hW2⟩ : ∃ W2, w2.alloc (.cells #[.string s, .int .i64 m.kind, .slice A2 n ca2, .int .i64 m.rate, .slice B2 k cb2, .int .i64 m.time] 25) = W2 := ⟨_, rfl⟩
    rw [hW2] at HB2 ⊢
    obtain ⟨g2, hg2⟩ : ∃ g2, w2.heap.size = g2 := ⟨_, rfl⟩
    rw [hg2] at HB2 ⊢
    clear HCt hW2 hg2 c0 c1 c2 c3 c4 c5
    rintro e w3 ⟨⟨A3, n3, k3, cs, rfl, hcu, hd⟩, hb⟩
    have HB3 := Lib.hid (HB2.out.next hb)
    have HC3 := Lib.hid (And.intro hcu hb)
    have HD := Lib.hid (And.intro hd (own_lenM hcu.owns.own))
    clear hcu hd hb
    obtain ⟨c0, c1, c2, c3, c4, c5⟩ := HB3.out.six (.tail _ (.head _))
    have HM := Lib.hid (emetric_calls (ca := ca) (cb := cb) (HB3.out.m (.tail _ (.head _))) HZ1.out HQ.out.2.2)
    rw [HX.out] at HM
    go_wp2_with fail
    refine HM.out.mono ?_
    rintro e w4 ⟨rfl, hb⟩
    have HB4 := Lib.hid (HB3.out.next hb)
    have HC4 := Lib.hid (And.intro (HC3.out.1.keep hb) (below_then HC3.out.2 hb))
    clear hb HM HB3 HC3 c0 c1 c2 c3 c4 c5
    rcases (by omega : x = 0 ∨ (¬ x = 0 ∧ ¬ x = 26) ∨ x = 26) with h1 | ⟨h1, h2⟩ | h1
    · subst h1
      obtain ⟨e1, e2⟩ := cutE_zero HX.out
      have e3 : cutR m f = [m] := by unfold cutR; rw [if_pos e1, e2]
      rw [e1]
      obtain ⟨k1, k2, _⟩ := metricE_zero.1 HX.out
      have HK := Lib.hid (And.intro k1 k2)
      clear k1 k2
      have hd := HD.out.1
      rw [e3] at hd
      have hl : cs.length = 1 := by have := congrArg List.length hd; rw [datM_len] at this; exact this
      obtain ⟨y, hy, hym⟩ := cs_one hd
      have hn3 : n3 = 1 := by have := HD.out.2; omega
      subst hn3
      obtain ⟨b, off, eA, a0, a1, a2, a3, a4, a5⟩ := HC4.out.1.mets.get hy
      subst eA
      simp only [Nat.zero_mul, Nat.add_zero] at a0 a1 a2 a3 a4 a5
      have HY0 := Lib.hid (And.intro hy hym)
      clear e1 e2 e3 hd hl hy hym
      go_wp2_with fail
      have Q0 := Lib.hid (fun d os => (HB4.out.mAdd (HC4.out.1.mets.one HY0.out.1)).equal9q (.head _) (.tail _ (.tail _ (.head _))) (by rw [HY0.out.2]; exact HZ1.out) (decide_eq_true HY0.out.2) y.ca y.cb ca cb d os)
      replace a0 := cell_regrown a0
      replace a1 := cell_regrown a1
      replace a2 := cell_regrown a2
      replace a3 := cell_regrown a3
      replace a4 := cell_regrown a4
      replace a5 := cell_regrown a5
      obtain ⟨c0, c1, c2, c3, c4, c5⟩ := HB4.out.sixq (.tail _ (.head _))
      refine wp_region_quiet_below (by kernel_rfl) (by kernel_rfl) ?_
      repeat (go_big_quiet_step (first | with_reducible exact Q0.out _ _))
      refine wpQuiet_nil ?_
      rintro _ ⟨⟨dq, osq⟩, rfl⟩
      have HB5 := Lib.hid (HB4.out.next (below_regrown _ dq osq))
      have HC5 := Lib.hid (And.intro (HC4.out.1.keep (below_regrown _ dq osq)) (below_then HC4.out.2 (below_regrown _ dq osq)))
      clear Q0 HB4 HC4 a0 a1 a2 a3 a4 a5 c0 c1 c2 c3 c4 c5
      as_aux_lemma =>
        have hl := HD.out.2
        have hds : Smalls cs := fun e he => cutR_sm HZ1.out e.m (by rw [← HD.out.1]; exact List.mem_map.2 ⟨e, he, rfl⟩)
        have hn : 1 ≤ 1000 := by have h3 := cutR_len (f := f) HZ1.out; rw [← HD.out.1, datM_len] at h3; omega
        have hBt := ebatch_calls (cap := k3) hl (by omega) HC5.out.1.mets hds HQ.out.2.2
        rw [HD.out.1, batchE_all HK.out.1 (cutR_len HZ1.out) (fun y hy => (cutR_all HK.out.2 y hy).1) (fun y hy => (cutR_all HK.out.2 y hy).2.1)] at hBt
        have HBt := Lib.hid hBt
        have HN := Lib.hid (And.intro hn hds)
        clear hl hds hn hBt
        go_wp2_with fail
        refine HBt.out.mono ?_
        rintro e w6 ⟨rfl, hb⟩
        obtain ⟨g, hg, hit⟩ := ItI.mk_ (HC5.out.1.keep hb) (below_then HC5.out.2 hb)
        have HI := Lib.hid hit
        have HG := Lib.hid hg
        clear hb hg hit HBt HB5 HC5
        go_wp2_with fail
        go_loopw [11] (fun v11 wr => ∃ i : Nat, v11 = .int .i64 i ∧ i ≤ 1 ∧ Hid (ItI W2 g cs i wr)) (fun v11 _ => 1 - (intOf v11).toNat)
        case atStart => exact ⟨0, rfl, by omega, HI⟩
        case round =>
          obtain ⟨i, rfl, hi, hrel⟩ := hrel
          clear HI
          by_cases hlt : i < 1
          · have g2 : (i : Int) < (1 : Int) := by omega
            have g3 : (0 : Int) ≤ (i : Int) := by omega
            have hie : cs[i]? = some (cs[i]'(by have := HD.out.2; omega)) := List.getElem?_eq_getElem _
            generalize cs[i]'(by have := HD.out.2; omega) = y at hie
            have hne : cs ≠ [] := by intro h; rw [h] at hie; cases hie
            first
              | obtain rfl := HG.out hne
              | (have hgA := HG.out hne
                 injection hgA with hgA
                 injection hgA with e1 e2
                 have e1 := e1.symm
                 subst e1 e2)
            have hk := HB2.out.next hrel.out.kept
            obtain ⟨r1, r2, r3, r4, r5⟩ := cutR_all HK.out.2 y.m (by rw [← HD.out.1]; exact List.mem_map.2 ⟨y, List.mem_of_getElem? hie, rfl⟩)
            have hmi := hrel.out.rest i y hie (Nat.le_refl _)
            have hs : y.s = s := by
              have h1 : Str y.s y.m.name := hmi.name
              have h2 : Str s m.name := (hk.m (.tail _ (.head _))).name
              rw [h1.eq, h2.eq, r3]
            have hc0 := metricE_zero.2 ⟨HK.out.1, r1, r2⟩
            have hn2 : y.n ≤ 1000 ∧ y.k ≤ 1000 := by
              have h2 := HN.out.2 y (List.mem_of_getElem? hie)
              have h3 := hmi.vlen
              have h4 := hmi.tlen
              have h5 := h2.vals
              have h6 := h2.tags
              omega
            obtain ⟨hyn, hyk⟩ := hn2
            have HY := Lib.hid (And.intro hie (And.intro r4 (And.intro r5 (And.intro hs hc0))))
            have HKb := Lib.hid (hk.mAdd hmi)
            clear hie hne hk r1 r2 r3 r4 r5 hmi hs hc0
            go_wp2_with fail
            obtain ⟨a0, a1, a2, a3, a4, a5⟩ := hrel.out.six HY.out.1
            rw [HY.out.2.2.2.1] at a0
            rw [HY.out.2.1] at a1
            rw [HY.out.2.2.1] at a3
            replace a0 := cell_regrown a0
            replace a1 := cell_regrown a1
            replace a2 := cell_regrown a2
            replace a3 := cell_regrown a3
            replace a4 := cell_regrown a4
            replace a5 := cell_regrown a5
            obtain ⟨c0, c1, c2, c3, c4, c5⟩ := HKb.out.sixq (.tail _ (.head _))
            have Q0 : Hid (∀ d os, Calls Try.prog 12 #[.agg #[.string s, .int .i64 m.kind, .slice y.A y.n y.ca, .int .i64 m.rate, .slice y.B y.k y.cb, .int .i64 y.m.time], .int .i64 f] (grow (redrawn wr d) os) fun e w'' => e = .returned (.int .i64 0) ∧ ∃ p : Regrown, w'' = grow (redrawn wr p.d) p.os) := by
              have := HKb.out.emetricq (.head _) (HN.out.2 y (List.mem_of_getElem? HY.out.1)) HQ.out.2.2 HY.out.2.2.2.2 y.ca y.cb
              rw [HY.out.2.2.2.1, HY.out.2.1, HY.out.2.2.1] at this
              exact Lib.hid this
            refine wp_region_quiet_below (by kernel_rfl) (by kernel_rfl) ?_
            repeat (go_big_quiet_step (first | with_reducible exact Q0.out _ _))
            refine wpQuiet_nil ?_
            rintro _ ⟨⟨dq, osq⟩, rfl⟩
            have HI7 := Lib.hid (hrel.out.next (below_regrown _ dq osq))
            clear Q0 HKb hrel a0 a1 a2 a3 a4 a5 c0 c1 c2 c3 c4 c5
            as_aux_lemma =>
              go_wp2_with fail
              go_loopw [12] (fun v12 wr => ∃ z : Nat, v12 = .int .i64 z ∧ z ≤ y.n ∧ Hid (ItI W2 g cs (i + 1) wr)) (fun v12 _ => y.n - (intOf v12).toNat)
              case atStart => exact ⟨0, rfl, by omega, Lib.hid HI7.out.step⟩
              case round =>
                obtain ⟨z, rfl, hzl, hrel⟩ := hrel
                clear HI7
                obtain ⟨-, -, t2, -, -, -⟩ := hrel.out.six HY.out.1
                by_cases hyl : z < y.n
                · have g4 : (z : Int) < (y.n : Int) := by omega
                  have g5 : (0 : Int) ≤ (z : Int) := by omega
                  have hxm := List.mem_of_getElem? HY.out.1
                  obtain ⟨r1, r2, r3, r4⟩ := hrel.out.room y hxm
                  obtain ⟨ad, had⟩ : ∃ a, y.A = some a := by
                    cases hA : y.A with
                    | none => have := r1 hA; omega
                    | some a => exact ⟨a, rfl⟩
                  obtain ⟨q1, q2, q3, q4⟩ := hrel.out.vals y hxm ad had
                  have hof := hrel.out.offA HY.out.1 had
                  obtain ⟨gA, oA, pA⟩ := ad
                  injection q1 with _ q1 q6
                  subst q1 q6
                  rw [had] at t2
                  obtain ⟨u0, k0⟩ := q4.get (i := z * 3) (by omega)
                  obtain ⟨u1, k1⟩ := q4.get (i := z * 3 + 1) (by omega)
                  obtain ⟨u2, k2⟩ := q4.get (i := z * 3 + 2) (by omega)
                  have f0 := q4.frozen (z * 3)
                  have f1 := q4.frozen (z * 3 + 1)
                  have f2 := q4.frozen (z * 3 + 2)
                  have HPt := Lib.hid (And.intro q2 (And.intro q3 hof))
                  clear q2 q3 q4 r1 r2 r3 r4 hxm had hof
                  go_wp2_with fail
                  exact ⟨⟨z + 1, by go_num, by omega, Lib.hid (((hrel.out.put HPt.out.1 HPt.out.2.1 HPt.out.2.2 _).put HPt.out.1 HPt.out.2.1 HPt.out.2.2 _).put HPt.out.1 HPt.out.2.1 HPt.out.2.2 _)⟩, by simp [intOf]; omega⟩
                · have g4 : ¬ (z : Int) < (y.n : Int) := by omega
                  have HI8 := Lib.hid hrel.out
                  obtain ⟨wo3, hwo3⟩ : ∃ wo3, wo3 = wr := ⟨_, rfl⟩
                  subst hwo3
                  go_wp2_with fail
                  clear hrel t2 hyl g4
                  go_loopw [13] (fun v13 wr => ∃ z : Nat, v13 = .int .i64 z ∧ z ≤ y.k ∧ Hid (ItI W2 g cs (i + 1) wr)) (fun v13 _ => y.k - (intOf v13).toNat)
                  case atStart => exact ⟨0, rfl, by omega, HI8⟩
                  case round =>
                    obtain ⟨z, rfl, hzl, hrel⟩ := hrel
                    clear HI8
                    obtain ⟨-, -, -, -, t4, -⟩ := hrel.out.six HY.out.1
                    by_cases hyl : z < y.k
                    · have g4 : (z : Int) < (y.k : Int) := by omega
                      have g5 : (0 : Int) ≤ (z : Int) := by omega
                      have hxm := List.mem_of_getElem? HY.out.1
                      obtain ⟨r1, r2, r3, r4⟩ := hrel.out.room y hxm
                      obtain ⟨ad, had⟩ : ∃ a, y.B = some a := by
                        cases hA : y.B with
                        | none => have := r2 hA; omega
                        | some a => exact ⟨a, rfl⟩
                      obtain ⟨q1, q2, q3, q4⟩ := hrel.out.tags y hxm ad had
                      have hof := hrel.out.offB HY.out.1 had
                      obtain ⟨gA, oA, pA⟩ := ad
                      injection q1 with _ q1 q6
                      subst q1 q6
                      rw [had] at t4
                      obtain ⟨u0, k0⟩ := q4.get (i := z * 2) (by omega)
                      obtain ⟨u1, k1⟩ := q4.get (i := z * 2 + 1) (by omega)
                      have f0 := q4.frozen (z * 2)
                      have f1 := q4.frozen (z * 2 + 1)
                      have HPt := Lib.hid (And.intro q2 (And.intro q3 hof))
                      clear q2 q3 q4 r1 r2 r3 r4 hxm had hof
                      go_wp2_with fail
                      exact ⟨⟨z + 1, by go_num, by omega, Lib.hid ((hrel.out.put HPt.out.1 HPt.out.2.1 HPt.out.2.2 _).put HPt.out.1 HPt.out.2.1 HPt.out.2.2 _)⟩, by simp [intOf]; omega⟩
                    · have g4 : ¬ (z : Int) < (y.k : Int) := by omega
                      go_wp2_with fail
                      exact ⟨⟨i + 1, by go_num, by omega, hrel⟩, by simp [intOf]; omega⟩
          · have g2 : ¬ (i : Int) < (1 : Int) := by omega
            have HB6 := Lib.hid (HB2.out.next hrel.out.kept)
            as_aux_lemma =>
              obtain ⟨c0, c1, c2, c3, c4, c5⟩ := HB6.out.six (.tail _ (.head _))
              obtain ⟨d0, d1, d2, d3, d4, d5⟩ := HB6.out.six (.head _)
              go_wp2_with fail
              refine (HB6.out.equal_ (.tail _ (.head _)) (.head _) HZ1.out (decide_eq_true rfl) _ _ _ _).mono ?_
              rintro e w7 ⟨rfl, hb⟩
              have HB7 := Lib.hid hb
              clear hb HB6 c0 c1 c2 c3 c4 c5 d0 d1 d2 d3 d4 d5
              go_wp2_with fail
              refine (awake9_calls _).mono ?_
              rintro e w8 ⟨rfl, hb⟩
              have HB8 := Lib.hid (HB7.out.next hb)
              clear hb HB7
              go_wp2_with fail
              go_ret
              exact ⟨rfl, HB8.out.kept⟩
    · have HE := Lib.hid (show cutE m f = x by rw [← HX.out]; exact cutE_other (by rw [HX.out]; exact h1) (by rw [HX.out]; exact h2))
      have e3 : cutR m f = [] := by unfold cutR; rw [HE.out, if_neg h1]
      have hn3 : n3 = 0 := by have h3 := HD.out.1; rw [e3] at h3; rw [← HD.out.2, ← datM_len, h3]; rfl
      subst hn3
      rw [HE.out]
      have g1 : (x == 0) = false := by simpa using h1
      have g2 : (x != 26) = true := by simpa using h2
      clear e3
      go_wp2_with fail
      refine (awake9_calls _).mono ?_
      rintro e w5 ⟨rfl, hb⟩
      have HB5 := Lib.hid (HB4.out.next hb)
      clear hb HB4
      go_wp2_with fail
      go_ret
      exact ⟨rfl, HB5.out.kept⟩
    · subst h1
      obtain ⟨k1, k2, k3, k4, k5⟩ := cutE_says HX.out
      have HK := Lib.hid (And.intro k1 k2)
      by_cases hl : onesL (bareT m f) f = []
      · have e1 : cutE m f = 26 := by rw [k5, hl]; rfl
        have e3 : cutR m f = [] := by unfold cutR; rw [e1]; rfl
        have hn3 : n3 = 0 := by have h3 := HD.out.1; rw [e3] at h3; rw [← HD.out.2, ← datM_len, h3]; rfl
        subst hn3
        rw [e1]
        have HB5 := Lib.hid HB4.out
        have HC5 := Lib.hid HC4.out
        clear k1 k2 k3 k4 k5 hl e1 e3 HB4 HC4
        as_aux_lemma =>
          have hl := HD.out.2
          have hds : Smalls cs := fun e he => cutR_sm HZ1.out e.m (by rw [← HD.out.1]; exact List.mem_map.2 ⟨e, he, rfl⟩)
          have hn : 0 ≤ 1000 := by have h3 := cutR_len (f := f) HZ1.out; rw [← HD.out.1, datM_len] at h3; omega
          have hBt := ebatch_calls (cap := k3) hl (by omega) HC5.out.1.mets hds HQ.out.2.2
          rw [HD.out.1, batchE_all HK.out.1 (cutR_len HZ1.out) (fun y hy => (cutR_all HK.out.2 y hy).1) (fun y hy => (cutR_all HK.out.2 y hy).2.1)] at hBt
          have HBt := Lib.hid hBt
          have HN := Lib.hid (And.intro hn hds)
          clear hl hds hn hBt
          go_wp2_with fail
          refine HBt.out.mono ?_
          rintro e w6 ⟨rfl, hb⟩
          obtain ⟨g, hg, hit⟩ := ItI.mk_ (HC5.out.1.keep hb) (below_then HC5.out.2 hb)
          have HI := Lib.hid hit
          have HG := Lib.hid hg
          clear hb hg hit HBt HB5 HC5
          go_wp2_with fail
          go_loopw [11] (fun v11 wr => ∃ i : Nat, v11 = .int .i64 i ∧ i ≤ 0 ∧ Hid (ItI W2 g cs i wr)) (fun v11 _ => 0 - (intOf v11).toNat)
          case atStart => exact ⟨0, rfl, by omega, HI⟩
          case round =>
            obtain ⟨i, rfl, hi, hrel⟩ := hrel
            clear HI
            by_cases hlt : i < 0
            · exact absurd hlt (Nat.not_lt_zero _)
            · have g2 : ¬ (i : Int) < (0 : Int) := by omega
              have HB6 := Lib.hid (HB2.out.next hrel.out.kept)
              as_aux_lemma =>
                obtain ⟨c0, c1, c2, c3, c4, c5⟩ := HB6.out.six (.tail _ (.head _))
                obtain ⟨d0, d1, d2, d3, d4, d5⟩ := HB6.out.six (.head _)
                go_wp2_with fail
                refine (HB6.out.equal_ (.tail _ (.head _)) (.head _) HZ1.out (decide_eq_true rfl) _ _ _ _).mono ?_
                rintro e w7 ⟨rfl, hb⟩
                have HB7 := Lib.hid hb
                clear hb HB6 c0 c1 c2 c3 c4 c5 d0 d1 d2 d3 d4 d5
                go_wp2_with fail
                refine (awake9_calls _).mono ?_
                rintro e w8 ⟨rfl, hb⟩
                have HB8 := Lib.hid (HB7.out.next hb)
                clear hb HB7
                go_wp2_with fail
                go_ret
                exact ⟨rfl, HB8.out.kept⟩
      · have e1 : cutE m f = 0 := by rw [k5, if_neg hl]
        have e3 : cutR m f = onesL (bareT m f) f := by unfold cutR; rw [if_pos e1, k4]
        have hn3 : n3 ≠ 0 := fun h0 => hl (by have h3 := HD.out.1; rw [e3] at h3; have := HD.out.2; rw [← h3]; rw [List.eq_nil_of_length_eq_zero (this.trans h0)]; rfl)
        have g3 : ((n3 : Int) == 0) = false := by simpa using hn3
        rw [e1]
        have HB5 := Lib.hid HB4.out
        have HC5 := Lib.hid HC4.out
        clear k1 k2 k3 k4 k5 hl e1 e3 hn3 HB4 HC4
        as_aux_lemma =>
          have hl := HD.out.2
          have hds : Smalls cs := fun e he => cutR_sm HZ1.out e.m (by rw [← HD.out.1]; exact List.mem_map.2 ⟨e, he, rfl⟩)
          have hn : n3 ≤ 1000 := by have h3 := cutR_len (f := f) HZ1.out; rw [← HD.out.1, datM_len] at h3; omega
          have hBt := ebatch_calls (cap := k3) hl (by omega) HC5.out.1.mets hds HQ.out.2.2
          rw [HD.out.1, batchE_all HK.out.1 (cutR_len HZ1.out) (fun y hy => (cutR_all HK.out.2 y hy).1) (fun y hy => (cutR_all HK.out.2 y hy).2.1)] at hBt
          have HBt := Lib.hid hBt
          have HN := Lib.hid (And.intro hn hds)
          clear hl hds hn hBt
          go_wp2_with fail
          refine HBt.out.mono ?_
          rintro e w6 ⟨rfl, hb⟩
          obtain ⟨g, hg, hit⟩ := ItI.mk_ (HC5.out.1.keep hb) (below_then HC5.out.2 hb)
          have HI := Lib.hid hit
          have HG := Lib.hid hg
          clear hb hg hit HBt HB5 HC5
          go_wp2_with fail
          have gN : (n3 : Int) ≤ 1000 := by have := HN.out.1; omega
          go_loopw [11] (fun v11 wr => ∃ i : Nat, v11 = .int .i64 i ∧ i ≤ n3 ∧ Hid (ItI W2 g cs i wr)) (fun v11 _ => n3 - (intOf v11).toNat)
          case atStart => exact ⟨0, rfl, by omega, HI⟩
          case round =>
            obtain ⟨i, rfl, hi, hrel⟩ := hrel
            clear HI
            by_cases hlt : i < n3
            · have g2 : (i : Int) < (n3 : Int) := by omega
              have g3 : (0 : Int) ≤ (i : Int) := by omega
              have hie : cs[i]? = some (cs[i]'(by have := HD.out.2; omega)) := List.getElem?_eq_getElem _
              generalize cs[i]'(by have := HD.out.2; omega) = y at hie
              have hne : cs ≠ [] := by intro h; rw [h] at hie; cases hie
              first
                | obtain rfl := HG.out hne
                | (have hgA := HG.out hne
                   injection hgA with hgA
                   injection hgA with e1 e2
                   have e1 := e1.symm
                   subst e1 e2)
              have hk := HB2.out.next hrel.out.kept
              obtain ⟨r1, r2, r3, r4, r5⟩ := cutR_all HK.out.2 y.m (by rw [← HD.out.1]; exact List.mem_map.2 ⟨y, List.mem_of_getElem? hie, rfl⟩)
              have hmi := hrel.out.rest i y hie (Nat.le_refl _)
              have hs : y.s = s := by
                have h1 : Str y.s y.m.name := hmi.name
                have h2 : Str s m.name := (hk.m (.tail _ (.head _))).name
                rw [h1.eq, h2.eq, r3]
              have hc0 := metricE_zero.2 ⟨HK.out.1, r1, r2⟩
              have hn2 : y.n ≤ 1000 ∧ y.k ≤ 1000 := by
                have h2 := HN.out.2 y (List.mem_of_getElem? hie)
                have h3 := hmi.vlen
                have h4 := hmi.tlen
                have h5 := h2.vals
                have h6 := h2.tags
                omega
              obtain ⟨hyn, hyk⟩ := hn2
              have HY := Lib.hid (And.intro hie (And.intro r4 (And.intro r5 (And.intro hs hc0))))
              have HKb := Lib.hid (hk.mAdd hmi)
              clear hie hne hk r1 r2 r3 r4 r5 hmi hs hc0
              go_wp2_with fail
              obtain ⟨a0, a1, a2, a3, a4, a5⟩ := hrel.out.six HY.out.1
              rw [HY.out.2.2.2.1] at a0
              rw [HY.out.2.1] at a1
              rw [HY.out.2.2.1] at a3
              replace a0 := cell_regrown a0
              replace a1 := cell_regrown a1
              replace a2 := cell_regrown a2
              replace a3 := cell_regrown a3
              replace a4 := cell_regrown a4
              replace a5 := cell_regrown a5
              obtain ⟨c0, c1, c2, c3, c4, c5⟩ := HKb.out.sixq (.tail _ (.head _))
              have Q0 : Hid (∀ d os, Calls Try.prog 12 #[.agg #[.string s, .int .i64 m.kind, .slice y.A y.n y.ca, .int .i64 m.rate, .slice y.B y.k y.cb, .int .i64 y.m.time], .int .i64 f] (grow (redrawn wr d) os) fun e w'' => e = .returned (.int .i64 0) ∧ ∃ p : Regrown, w'' = grow (redrawn wr p.d) p.os) := by
                have := HKb.out.emetricq (.head _) (HN.out.2 y (List.mem_of_getElem? HY.out.1)) HQ.out.2.2 HY.out.2.2.2.2 y.ca y.cb
                rw [HY.out.2.2.2.1, HY.out.2.1, HY.out.2.2.1] at this
                exact Lib.hid this
              refine wp_region_quiet_below (by kernel_rfl) (by kernel_rfl) ?_
              repeat (go_big_quiet_step (first | with_reducible exact Q0.out _ _))
              refine wpQuiet_nil ?_
              rintro _ ⟨⟨dq, osq⟩, rfl⟩
              have HI7 := Lib.hid (hrel.out.next (below_regrown _ dq osq))
              clear Q0 HKb hrel a0 a1 a2 a3 a4 a5 c0 c1 c2 c3 c4 c5
              as_aux_lemma =>
                go_wp2_with fail
                go_loopw [12] (fun v12 wr => ∃ z : Nat, v12 = .int .i64 z ∧ z ≤ y.n ∧ Hid (ItI W2 g cs (i + 1) wr)) (fun v12 _ => y.n - (intOf v12).toNat)
                case atStart => exact ⟨0, rfl, by omega, Lib.hid HI7.out.step⟩
                case round =>
                  obtain ⟨z, rfl, hzl, hrel⟩ := hrel
                  clear HI7
                  obtain ⟨-, -, t2, -, -, -⟩ := hrel.out.six HY.out.1
                  by_cases hyl : z < y.n
                  · have g4 : (z : Int) < (y.n : Int) := by omega
                    have g5 : (0 : Int) ≤ (z : Int) := by omega
                    have hxm := List.mem_of_getElem? HY.out.1
                    obtain ⟨r1, r2, r3, r4⟩ := hrel.out.room y hxm
                    obtain ⟨ad, had⟩ : ∃ a, y.A = some a := by
                      cases hA : y.A with
                      | none => have := r1 hA; omega
                      | some a => exact ⟨a, rfl⟩
                    obtain ⟨q1, q2, q3, q4⟩ := hrel.out.vals y hxm ad had
                    have hof := hrel.out.offA HY.out.1 had
                    obtain ⟨gA, oA, pA⟩ := ad
                    injection q1 with _ q1 q6
                    subst q1 q6
                    rw [had] at t2
                    obtain ⟨u0, k0⟩ := q4.get (i := z * 3) (by omega)
                    obtain ⟨u1, k1⟩ := q4.get (i := z * 3 + 1) (by omega)
                    obtain ⟨u2, k2⟩ := q4.get (i := z * 3 + 2) (by omega)
                    have f0 := q4.frozen (z * 3)
                    have f1 := q4.frozen (z * 3 + 1)
                    have f2 := q4.frozen (z * 3 + 2)
                    have HPt := Lib.hid (And.intro q2 (And.intro q3 hof))
                    clear q2 q3 q4 r1 r2 r3 r4 hxm had hof
                    go_wp2_with fail
                    exact ⟨⟨z + 1, by go_num, by omega, Lib.hid (((hrel.out.put HPt.out.1 HPt.out.2.1 HPt.out.2.2 _).put HPt.out.1 HPt.out.2.1 HPt.out.2.2 _).put HPt.out.1 HPt.out.2.1 HPt.out.2.2 _)⟩, by simp [intOf]; omega⟩
                  · have g4 : ¬ (z : Int) < (y.n : Int) := by omega
                    have HI8 := Lib.hid hrel.out
                    obtain ⟨wo3, hwo3⟩ : ∃ wo3, wo3 = wr := ⟨_, rfl⟩
                    subst hwo3
                    go_wp2_with fail
                    clear hrel t2 hyl g4
                    go_loopw [13] (fun v13 wr => ∃ z : Nat, v13 = .int .i64 z ∧ z ≤ y.k ∧ Hid (ItI W2 g cs (i + 1) wr)) (fun v13 _ => y.k - (intOf v13).toNat)
                    case atStart => exact ⟨0, rfl, by omega, HI8⟩
                    case round =>
                      obtain ⟨z, rfl, hzl, hrel⟩ := hrel
                      clear HI8
                      obtain ⟨-, -, -, -, t4, -⟩ := hrel.out.six HY.out.1
                      by_cases hyl : z < y.k
                      · have g4 : (z : Int) < (y.k : Int) := by omega
                        have g5 : (0 : Int) ≤ (z : Int) := by omega
                        have hxm := List.mem_of_getElem? HY.out.1
                        obtain ⟨r1, r2, r3, r4⟩ := hrel.out.room y hxm
                        obtain ⟨ad, had⟩ : ∃ a, y.B = some a := by
                          cases hA : y.B with
                          | none => have := r2 hA; omega
                          | some a => exact ⟨a, rfl⟩
                        obtain ⟨q1, q2, q3, q4⟩ := hrel.out.tags y hxm ad had
                        have hof := hrel.out.offB HY.out.1 had
                        obtain ⟨gA, oA, pA⟩ := ad
                        injection q1 with _ q1 q6
                        subst q1 q6
                        rw [had] at t4
                        obtain ⟨u0, k0⟩ := q4.get (i := z * 2) (by omega)
                        obtain ⟨u1, k1⟩ := q4.get (i := z * 2 + 1) (by omega)
                        have f0 := q4.frozen (z * 2)
                        have f1 := q4.frozen (z * 2 + 1)
                        have HPt := Lib.hid (And.intro q2 (And.intro q3 hof))
                        clear q2 q3 q4 r1 r2 r3 r4 hxm had hof
                        go_wp2_with fail
                        exact ⟨⟨z + 1, by go_num, by omega, Lib.hid ((hrel.out.put HPt.out.1 HPt.out.2.1 HPt.out.2.2 _).put HPt.out.1 HPt.out.2.1 HPt.out.2.2 _)⟩, by simp [intOf]; omega⟩
                      · have g4 : ¬ (z : Int) < (y.k : Int) := by omega
                        go_wp2_with fail
                        exact ⟨⟨i + 1, by go_num, by omega, hrel⟩, by simp [intOf]; omega⟩
            · have g2 : ¬ (i : Int) < (n3 : Int) := by omega
              have HB6 := Lib.hid (HB2.out.next hrel.out.kept)
              as_aux_lemma =>
                obtain ⟨c0, c1, c2, c3, c4, c5⟩ := HB6.out.six (.tail _ (.head _))
                obtain ⟨d0, d1, d2, d3, d4, d5⟩ := HB6.out.six (.head _)
                go_wp2_with fail
                refine (HB6.out.equal_ (.tail _ (.head _)) (.head _) HZ1.out (decide_eq_true rfl) _ _ _ _).mono ?_
                rintro e w7 ⟨rfl, hb⟩
                have HB7 := Lib.hid hb
                clear hb HB6 c0 c1 c2 c3 c4 c5 d0 d1 d2 d3 d4 d5
                go_wp2_with fail
                refine (awake9_calls _).mono ?_
                rintro e w8 ⟨rfl, hb⟩
                have HB8 := Lib.hid (HB7.out.next hb)
                clear hb HB7
                go_wp2_with fail
                go_ret
                exact ⟨rfl, HB8.out.kept⟩
end Go.Proofs.Yteffankkelbhiaa
