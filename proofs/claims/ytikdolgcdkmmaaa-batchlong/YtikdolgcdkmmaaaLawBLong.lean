/-
  The walk of BatchLong. No statement of the seat is proved here.
-/
import Derived.Test.YtikdolgcdkmmaaaBCl0
namespace Go.Proofs.Ytikdolgcdkmmaaa
open Go.RowKit Go.Sort
open Dc (D D0)

set_option maxRecDepth 100000 in
set_option maxHeartbeats 40000000 in
theorem blong_walk {w : World} {s : ByteArray} {A B : Option Addr} {n k ca cb : Nat} {m : Mt} {z : Int} (h : MIs w s A n B k m) (hf : ∀ d ∈ m.vals, d.Fits) :
    Calls Try.prog 8 #[mV s m.kind A n ca m.rate B k cb m.time, .int .i64 z] w fun e w' => e = .returned (.bool true) ∧ Below w.heap.size w w' := by
  obtain ⟨q, hq⟩ : ∃ q, fewM m = q := ⟨_, rfl⟩
  have HB := Lib.hid (Kb.enter (ca := ca) (cb := cb) h)
  have HQ := Lib.hid (And.intro hq hf)
  unfold mV
  clear h hq hf
  go_enter Try.func8, Try.ntmps8
  go_wp2_with fail
  refine (HB.out.few_ (.head _) HQ.out.1 _ _).mono ?_
  rintro e w1 ⟨rfl, hb⟩
  have HB1 := Lib.hid hb
  clear hb HB
  obtain ⟨gz, hgz⟩ : ∃ gz : Bool, gz = (q && decide (0 ≤ z ∧ z ≤ 1010)) := ⟨_, rfl⟩
  cases gz
  · have HA := Lib.hid HB1.out.kept
    rcases (by cases q
               · exact .inl rfl
               · right; refine ⟨rfl, ?_⟩
                 have := of_decide_eq_false (show decide (0 ≤ z ∧ z ≤ 1010) = false by rw [hgz]; rfl)
                 omega : q = false ∨ (q = true ∧ (z < 0 ∨ (¬ z < 0 ∧ 1010 < z)))) with rfl | ⟨rfl, h1 | ⟨h1, h2⟩⟩
    all_goals
      clear hgz
      go_wp2_with fail
      refine (awake8_calls w1).mono ?_
      rintro e w2 ⟨rfl, hb⟩
      have HB2 := Lib.hid hb
      clear hb
      go_wp2_with fail
      go_ret
      exact ⟨rfl, below_then HA.out HB2.out⟩
  · obtain ⟨rfl, h01⟩ : q = true ∧ (0 ≤ z ∧ z ≤ 1010) := by
      have := hgz.symm
      rw [Bool.and_eq_true, decide_eq_true_eq] at this
      exact this
    obtain ⟨N, rfl⟩ : ∃ N : Nat, z = (N : Int) := ⟨z.toNat, by omega⟩
    have hN : N ≤ 1010 := by omega
    have g0 : ¬ (N : Int) < 0 := by omega
    have g1 : ¬ (1010 : Int) < (N : Int) := by omega
    have hsm := few_small HQ.out.1 HQ.out.2
    obtain ⟨en, hen⟩ : ∃ en : En, en = ⟨s, A, n, ca, B, k, cb, m⟩ := ⟨_, rfl⟩
    have HE := Lib.hid (And.intro hsm hen)
    have HI := Lib.hid (show MIs w1 en.s en.A en.n en.B en.k en.m from hen ▸ HB1.out.m (.head _))
    have HS := Lib.hid (show Smalls (List.replicate N en) from fun e he => by rw [(List.mem_replicate.1 he).2, hen]; exact hsm)
    clear hgz h01 hsm hen
    go_wp2_with fail
    go_loopw [5, 6] (fun v5 v6 wr => ∃ i : Nat, v6 = .int .i64 i ∧ i ≤ N ∧ Hid (Below w1.heap.size w1 wr ∧ RowM (fun _ => False) wr w1.heap.size v5 i (List.replicate i en))) (fun _ v6 _ => N - (intOf v6).toNat)
    case atStart => exact ⟨0, rfl, by omega, ⟨Below.refl _ _, RowM.nil _⟩⟩
    case round =>
      obtain ⟨i, rfl, hi, hrel⟩ := hrel
      obtain ⟨Av, cv, rfl, _⟩ := hrel.out.2.sl
      by_cases hlt : i < N
      · have g2 : (i : Int) < (N : Int) := by omega
        obtain ⟨c0, c1, c2, c3, c4, c5⟩ := (HB1.out.next hrel.out.1).six (.head _)
        have HW := Lib.hid (hrel.out.2.keep (m_below wr (.cells #[.string s, .int .i64 m.kind, .slice A n ca, .int .i64 m.rate, .slice B k cb, .int .i64 m.time] 25)))
        have HL := Lib.hid (lies_at (w := wr) (n := wr.heap.size) rfl ⟨s, A, n, ca, B, k, cb, m⟩)
        go_wp2_with (first | (at_builtin; refine wpList_append_rows _ rowMet rfl (.tmp 37) (.tmp 39) rfl w1.heap.size _ i (flatM (List.replicate i en)) rfl HW.out.own (some ⟨wr.heap.size, 0, none⟩) 1 1 (encM ⟨s, A, n, ca, B, k, cb, m⟩) rfl rfl HL.out encM_cells (by omega) (by have := hrel.out.1.size; rw [size_alloc]; omega) ?_; intro v3 w3 hown hgr hob; have HG := Lib.hid (And.intro hown (And.intro hgr hob)); clear hown hgr hob))
        obtain ⟨hown, hgr, hob⟩ := HG.out
        have hpsh := RowM.push (X := fun _ => False) (gs := [en]) (m := 1) HW.out (CKept.of_below (Below.refl _ _))
          (fun e he => by rcases List.mem_singleton.1 he with rfl; exact (HI.out.keep hrel.out.1).alloc _)
          (fun e he => by
            rcases List.mem_singleton.1 he with rfl
            refine Off.high HI.out fun b hb => ?_
            rcases hb with hb | hb
            · exact hb.elim
            · exact (HW.out.lt b hb).1)
          hgr hob (fun _ hb => hb.elim) (by rw [flatM_one, HE.out.2]; rw [HE.out.2] at hown; exact hown)
        refine ⟨⟨i + 1, by go_num, by omega, ⟨?_, by rw [List.replicate_succ']; exact hpsh⟩⟩, by simp [intOf]; omega⟩
        exact (hrel.out.1.alloc hrel.out.1.size _).grown hgr (by have := hrel.out.1.size; rw [size_alloc]; omega) (fun k hk => (HW.out.lt k hk).1)
      · have g2 : ¬ (i : Int) < (N : Int) := by omega
        obtain rfl : i = N := by omega
        have HL := Lib.hid (HB1.out.next hrel.out.1)
        have HT := Lib.hid (((Bt.start wr).add hrel.out.2.mets))
        obtain ⟨p, c, hpc⟩ : ∃ p c, fwB checkM (datM (List.replicate i en)) = (p, c) := ⟨_, _, rfl⟩
        obtain ⟨p', c', hpc'⟩ : ∃ p c, fwB codeM (datM (List.replicate i en)) = (p, c) := ⟨_, _, rfl⟩
        have HP := Lib.hid (And.intro hpc hpc')
        have hl2 : i ≤ 2000 := by omega
        clear hrel hpc hpc' hlt g2
        obtain ⟨wo, hwo⟩ : ∃ wo, wo = wr := ⟨_, rfl⟩
        subst hwo
        go_wp2_with fail
        refine (HT.out.check_ (.head _) List.length_replicate hl2 HS.out HP.out.1 _).mono ?_
        rintro e w2 ⟨rfl, hb⟩
        have HT2 := Lib.hid hb
        clear hb HT
        go_wp2_with fail
        refine (HT2.out.normal_ (.head _) List.length_replicate hl2 HS.out HP.out.2 rfl _).mono ?_
        rintro e w3 ⟨A3, n3, k3, f3, rfl, hl3, hd3, hb⟩
        have HT3 := Lib.hid hb
        clear hb HT2 hl3 hd3
        go_wp2_with fail
        refine (bclone_calls List.length_replicate (by omega) (HT3.out.m (.tail _ (.head _))) HS.out).mono ?_
        rintro e w4 ⟨⟨A4, c4, cs, rfl, hown4, hd4⟩, hb4⟩
        have HT4 := Lib.hid ((HT3.out.next hb4).add hown4.mets)
        have HO := Lib.hid (And.intro hown4 (And.intro hd4 hb4))
        have hl4 : cs.length = i := by have := congrArg List.length hd4; rw [datM_len, datM_len, List.length_replicate] at this; exact this
        have HS4 := Lib.hid (show Smalls cs from fun e he => by
          have h5 : e.m ∈ datM (List.replicate i en) := hd4 ▸ List.mem_map.2 ⟨e, he, rfl⟩
          obtain ⟨x, hx, e2⟩ := List.mem_map.1 h5
          rw [← e2]; exact HS.out x hx)
        clear hown4 hd4 hb4
        have HEq := Lib.hid (bequal_calls (cap := c4) (capb := cv) hl4 List.length_replicate (by omega) (by omega) (HT4.out.m (.head _)) (HT4.out.m (A := Av) (.tail _ (.tail _ (.head _)))) HS4.out)
        rw [decide_eq_true HO.out.2.1] at HEq
        go_wp2_with fail
        refine HEq.out.mono ?_
        rintro e w5 ⟨rfl, hb5⟩
        obtain ⟨g, hg, hwr⟩ := WrI.mk_ HO.out.1 HO.out.2.2
        have HW := Lib.hid (hwr.next hb5)
        have HG := Lib.hid (And.intro hg hl4)
        have HL3 := Lib.hid (HL.out.next HT3.out.kept)
        have HM3 := Lib.hid (HT3.out.m (A := Av) (es := List.replicate i en) (.tail _ (.head _)))
        clear hg hwr hb5 hl4 HEq HT3 HT4 HL
        go_wp2_with fail
        go_loopw [13] (fun v13 wr => ∃ j : Nat, v13 = .int .i64 j ∧ j ≤ i ∧ Hid (WrI w3 g c4 cs wr)) (fun v13 _ => i - (intOf v13).toNat)
        case atStart => exact ⟨0, rfl, by omega, HW⟩
        case round =>
          obtain ⟨j, rfl, hj, hrel⟩ := hrel
          clear HW
          by_cases hlt : j < i
          · have g2 : (j : Int) < (i : Int) := by omega
            have g3 : (0 : Int) ≤ (j : Int) := by omega
            have hne : cs ≠ [] := fun h => by have := HG.out.2; rw [h] at this; simp at this; omega
            obtain rfl := HG.out.1 hne
            have hje : cs[j]? = some (cs[j]'(by have := HG.out.2; omega)) := List.getElem?_eq_getElem _
            generalize cs[j]'(by have := HG.out.2; omega) = x at hje
            have hc4 : i ≤ c4 := by
              obtain ⟨_, _, e1, h1, _⟩ := own_slice HO.out.1.own
              injection e1 with _ _ e1
              omega
            have hxn : x.n ≤ 1000 ∧ x.k ≤ 1000 := by
              have hxm := List.mem_of_getElem? hje
              have h1 := (HO.out.1.ent x hxm).mis
              have h2 := HS4.out x hxm
              have h3 := h1.vlen
              have h4 := h1.tlen
              have h5 := h2.vals
              have h6 := h2.tags
              omega
            obtain ⟨hxn, hxk⟩ := hxn
            have hheld := hrel.out.held hne
            obtain ⟨u0, k0⟩ := hheld.get (i := j * 6) (by omega)
            have f0 := hheld.frozen (j * 6)
            have HX := Lib.hid (And.intro hje hne)
            have HW2 := Lib.hid (hrel.out.name hne j (.string ⟨#[115, 112, 111, 105, 108, 116]⟩))
            obtain ⟨wo2, hwo2⟩ : ∃ wo2, wo2 = wr := ⟨_, rfl⟩
            subst hwo2
            clear hrel hheld hje hne hc4
            go_wp2_with fail
            go_loopw [14] (fun v14 wr => ∃ y : Nat, v14 = .int .i64 y ∧ y ≤ x.n ∧ Hid (WrI w3 g c4 cs wr)) (fun v14 _ => x.n - (intOf v14).toNat)
            case atStart => exact ⟨0, rfl, by omega, HW2⟩
            case round =>
              obtain ⟨y, rfl, hy, hrel⟩ := hrel
              clear HW2 k0 f0
              have t2 := hrel.out.hd2 j x HX.out.1
              by_cases hyl : y < x.n
              · have g4 : (y : Int) < (x.n : Int) := by omega
                have g5 : (0 : Int) ≤ (y : Int) := by omega
                have hxm := List.mem_of_getElem? HX.out.1
                obtain ⟨r1, r2, r3, r4⟩ := hrel.out.room x hxm
                obtain ⟨ad, had⟩ : ∃ a, x.A = some a := by
                  cases hA : x.A with
                  | none => have := r1 hA; omega
                  | some a => exact ⟨a, rfl⟩
                obtain ⟨q1, q2, q3, q4⟩ := hrel.out.vals x hxm ad had
                obtain ⟨gA, oA, pA⟩ := ad
                injection q1 with _ q1 q6
                subst q1 q6
                rw [had] at t2
                obtain ⟨u0, k0⟩ := q4.get (i := y * 3) (by omega)
                obtain ⟨u1, k1⟩ := q4.get (i := y * 3 + 1) (by omega)
                obtain ⟨u2, k2⟩ := q4.get (i := y * 3 + 2) (by omega)
                have f0 := q4.frozen (y * 3)
                have f1 := q4.frozen (y * 3 + 1)
                have f2 := q4.frozen (y * 3 + 2)
                have HPt := Lib.hid (And.intro q2 q3)
                clear q2 q3 q4 r1 r2 r3 r4 hxm had
                go_wp2_with fail
                exact ⟨⟨y + 1, by go_num, by omega, Lib.hid (((hrel.out.put HPt.out.1 HPt.out.2 _).put HPt.out.1 HPt.out.2 _).put HPt.out.1 HPt.out.2 _)⟩, by simp [intOf]; omega⟩
              · have g4 : ¬ (y : Int) < (x.n : Int) := by omega
                have HW3 := Lib.hid hrel.out
                obtain ⟨wo3, hwo3⟩ : ∃ wo3, wo3 = wr := ⟨_, rfl⟩
                subst hwo3
                go_wp2_with fail
                clear hrel t2 hyl g4
                go_loopw [15] (fun v15 wr => ∃ y : Nat, v15 = .int .i64 y ∧ y ≤ x.k ∧ Hid (WrI w3 g c4 cs wr)) (fun v15 _ => x.k - (intOf v15).toNat)
                case atStart => exact ⟨0, rfl, by omega, HW3⟩
                case round =>
                  obtain ⟨y2, rfl, hy2, hrel⟩ := hrel
                  clear HW3
                  have t4 := hrel.out.hd4 j x HX.out.1
                  by_cases hyl : y2 < x.k
                  · have g4 : (y2 : Int) < (x.k : Int) := by omega
                    have g5 : (0 : Int) ≤ (y2 : Int) := by omega
                    have hxm := List.mem_of_getElem? HX.out.1
                    obtain ⟨r1, r2, r3, r4⟩ := hrel.out.room x hxm
                    obtain ⟨ad, had⟩ : ∃ a, x.B = some a := by
                      cases hA : x.B with
                      | none => have := r2 hA; omega
                      | some a => exact ⟨a, rfl⟩
                    obtain ⟨q1, q2, q3, q4⟩ := hrel.out.tags x hxm ad had
                    obtain ⟨gA, oA, pA⟩ := ad
                    injection q1 with _ q1 q6
                    subst q1 q6
                    rw [had] at t4
                    obtain ⟨u0, k0⟩ := q4.get (i := y2 * 2) (by omega)
                    obtain ⟨u1, k1⟩ := q4.get (i := y2 * 2 + 1) (by omega)
                    have f0 := q4.frozen (y2 * 2)
                    have f1 := q4.frozen (y2 * 2 + 1)
                    have HPt := Lib.hid (And.intro q2 q3)
                    clear q2 q3 q4 r1 r2 r3 r4 hxm had
                    go_wp2_with fail
                    exact ⟨⟨y2 + 1, by go_num, by omega, Lib.hid ((hrel.out.put HPt.out.1 HPt.out.2 _).put HPt.out.1 HPt.out.2 _)⟩, by simp [intOf]; omega⟩
                  · have g4 : ¬ (y2 : Int) < (x.k : Int) := by omega
                    go_wp2_with fail
                    exact ⟨⟨j + 1, by go_num, by omega, hrel⟩, by simp [intOf]; omega⟩
          · have g2 : ¬ (j : Int) < (i : Int) := by omega
            have HWb := Lib.hid hrel.out.kept
            obtain ⟨wo2, hwo2⟩ : ∃ wo2, wo2 = wr := ⟨_, rfl⟩
            subst hwo2
            go_wp2_with fail
            clear hrel hlt g2
            go_loopw [16] (fun v16 wr => ∃ j : Nat, v16 = .int .i64 j ∧ j ≤ i ∧ Hid (Below w3.heap.size w3 wr)) (fun v16 _ => i - (intOf v16).toNat)
            case atStart => exact ⟨0, rfl, by omega, HWb⟩
            case round =>
              obtain ⟨j2, rfl, hj2, hrel⟩ := hrel
              clear HWb
              by_cases hlt : j2 < i
              · have g2 : (j2 : Int) < (i : Int) := by omega
                have g3 : (0 : Int) ≤ (j2 : Int) := by omega
                have hje : (List.replicate i en)[j2]? = some en := by rw [List.getElem?_replicate, if_pos hlt]
                obtain ⟨ba, oa, eA, a0, a1, a2, a3, a4, a5⟩ := (HM3.out.keep hrel.out).get hje
                obtain ⟨c0, c1, c2, c3, c4', c5⟩ := (HL3.out.next hrel.out).six (.head _)
                have hq1 := fun W' (hb : Below wr.heap.size wr W') => equal_calls (ca := en.ca) (cb := en.cb) (ca' := ca) (cb' := cb) ((HM3.out.keep (below_then hrel.out hb)).one hje) ((HL3.out.next (below_then hrel.out hb)).m (.head _)) (by rw [HE.out.2]; exact HE.out.1)
                unfold mV at hq1
                rw [show decide (en.m = m) = true by rw [HE.out.2]; exact decide_eq_true rfl] at hq1
                have Q0 := Lib.hid (fun d os => Calls.regrown_of (hq1 _ (below_regrown wr d os)))
                subst eA
                replace a0 := cell_regrown a0
                replace a1 := cell_regrown a1
                replace a2 := cell_regrown a2
                replace a3 := cell_regrown a3
                replace a4 := cell_regrown a4
                replace a5 := cell_regrown a5
                replace c0 := cell_regrown c0
                replace c1 := cell_regrown c1
                replace c2 := cell_regrown c2
                replace c3 := cell_regrown c3
                replace c4' := cell_regrown c4'
                replace c5 := cell_regrown c5
                clear hq1 hje
                go_wp2_with fail
                refine wp_region_quiet_below (by kernel_rfl) (by kernel_rfl) ?_
                repeat (go_big_quiet_step (first | with_reducible exact Q0.out _ _))
                refine wpQuiet_nil ?_
                rintro _ ⟨⟨dq, osq⟩, rfl⟩
                clear a0 a1 a2 a3 a4 a5 c0 c1 c2 c3 c4' c5 Q0
                go_wp2_with fail
                exact ⟨⟨j2 + 1, by go_num, by omega, Lib.hid (below_then hrel.out (below_regrown _ dq osq))⟩, by simp [intOf]; omega⟩
              · have g2 : ¬ (j2 : Int) < (i : Int) := by omega
                have HK := Lib.hid (HL3.out.next hrel.out)
                have hdm : datM (List.replicate i en) = List.replicate i m := by rw [datM_rep, HE.out.2]
                have hp1 := HP.out.1
                have hp2 := HP.out.2
                rw [hdm] at hp1 hp2
                clear hrel hlt hdm
                by_cases hbig : 1000 < i
                · rw [fwB_many hbig] at hp1 hp2
                  injection hp1 with e1 e2
                  injection hp2 with e3 e4
                  subst e1 e2 e3 e4
                  have g4 : (1000 : Int) < (i : Int) := by omega
                  go_wp2_with fail
                  refine (awake8_calls wr).mono ?_
                  rintro e w9 ⟨rfl, hb⟩
                  have HB9 := Lib.hid (below_then HK.out.kept hb)
                  clear hb
                  go_wp2_with fail
                  go_ret
                  exact ⟨rfl, HB9.out⟩
                · have g4 : ¬ (1000 : Int) < (i : Int) := by omega
                  obtain ⟨x, hx⟩ : ∃ x, checkM m = x := ⟨_, rfl⟩
                  obtain ⟨y, hy⟩ : ∃ y, codeM m = y := ⟨_, rfl⟩
                  obtain ⟨m', hm'⟩ : ∃ m', nM m = m' := ⟨_, rfl⟩
                  have HV := Lib.hid (And.intro hx (And.intro hy hm'))
                  have hend : (i = 0 ∧ p = 0 ∧ c = 0 ∧ p' = 0 ∧ c' = 0) ∨ (i ≠ 0 ∧ p = 0 ∧ c = x ∧ p' = 0 ∧ c' = y) := by
                    rcases Nat.eq_zero_or_pos i with h0 | h0
                    · subst h0
                      rw [fwB_rep0] at hp1 hp2
                      injection hp1 with e1 e2
                      injection hp2 with e3 e4
                      exact .inl ⟨rfl, e1.symm, e2.symm, e3.symm, e4.symm⟩
                    · rw [fwB_rep h0 (by omega)] at hp1 hp2
                      injection hp1 with e1 e2
                      injection hp2 with e3 e4
                      exact .inr ⟨by omega, e1.symm, e2.symm.trans hx, e3.symm, e4.symm.trans hy⟩
                  clear hp1 hp2 hx hy hm' hbig
                  obtain ⟨c0, c1, c2, c3, c4', c5⟩ := HK.out.six (.head _)
                  go_wp2_with fail
                  refine (HK.out.check_ (.head _) HE.out.1 HV.out.1 _ _).mono ?_
                  rintro e w6 ⟨rfl, hb⟩
                  obtain ⟨c0, c1, c2, c3, c4', c5⟩ := hb.six (.head _)
                  have HK6 := Lib.hid hb
                  clear hb HK
                  go_wp2_with fail
                  refine (HK6.out.normal_ (.head _) HE.out.1 HV.out.2.1 HV.out.2.2 _ _).mono ?_
                  rintro e w7 ⟨s7, A7, n7, ca7, B7, k7, cb7, rfl, hb⟩
                  have HB7 := Lib.hid (hb.lay (.string s7) (.int .i64 m'.kind) (.slice A7 n7 ca7) (.int .i64 m'.rate) (.slice B7 k7 cb7) (.int .i64 m'.time))
                  clear hb HK6 c0 c1 c2 c3 c4' c5
                  rcases hend with ⟨rfl, rfl, rfl, rfl, rfl⟩ | ⟨h0, rfl, rfl, rfl, rfl⟩
                  · go_wp2_with fail
                    refine (awake8_calls _).mono ?_
                    rintro e w9 ⟨rfl, hb⟩
                    have HB9 := Lib.hid (below_then HB7.out.kept hb)
                    clear hb
                    go_wp2_with fail
                    go_ret
                    exact ⟨rfl, HB9.out⟩
                  · have g6 : ((i : Int) == 0) = false := by rw [beq_eq_false_iff_ne]; omega
                    have g7 : ¬ (i : Int) = 0 := by omega
                    go_wp2_with fail
                    refine (awake8_calls _).mono ?_
                    rintro e w9 ⟨rfl, hb⟩
                    have HB9 := Lib.hid (below_then HB7.out.kept hb)
                    clear hb
                    go_wp2_with fail
                    go_ret
                    exact ⟨rfl, HB9.out⟩
end Go.Proofs.Ytikdolgcdkmmaaa
