/-
  The walk of MetricSplits. No statement of the seat is proved here.
-/
import Derived.Test.YtgnpakcofkhdkaaMOwn
namespace Go.Proofs.Ytgnpakcofkhdkaa
open Go.RowKit Go.Sort
open Dc (D D0)

section
variable {w : World} {s : ByteArray} {A B : Option Addr} {n k ca cb : Nat} {m : Mt}
set_option maxRecDepth 100000 in
set_option maxHeartbeats 8000000 in
theorem splits_walk (h : MIs w s A n B k m) (hf : ∀ d ∈ m.vals, d.Fits) (hc : n ≤ ca ∧ ca ≤ maxLen) : Calls Try.prog 8 #[mV s m.kind A n ca m.rate B k cb m.time] w fun e w' => e = .returned (.bool true) ∧ Below w.heap.size w w' := by
  obtain ⟨q, hq⟩ : ∃ q, fewM m = q := ⟨_, rfl⟩
  have HZ := Lib.hid (fun (e : q = true) => few_small (hq.trans e) hf)
  have HQ := Lib.hid hq
  have HC := Lib.hid hc
  have HB := Lib.hid (Kb.enter (ca := ca) (cb := cb) h)
  unfold mV
  clear hq h hf hc
  go_enter Try.func8, Try.ntmps8
  go_wp2_with fail
  refine (HB.out.few_ (.head _) HQ.out _ _).mono ?_
  rintro e w1 ⟨rfl, hb⟩
  have HB1 := Lib.hid hb
  clear hb HB
  cases q
  · go_wp2_with fail
    refine (HB1.out.awake_).mono ?_
    rintro e w2 ⟨rfl, hb⟩
    have HB2 := Lib.hid hb
    clear hb HB1
    go_wp2_with fail
    go_ret
    exact ⟨rfl, HB2.out.kept⟩
  · have hz := HZ.out rfl
    obtain ⟨x, hx⟩ : ∃ x, checkM m = x := ⟨_, rfl⟩
    have HX := Lib.hid (And.intro hz hx)
    have hmi := HB1.out.m (.head _)
    have hnz : n ≤ 1000 := by have := hmi.vlen; have := hz.vals; omega
    have hkz : k ≤ 1000 := by have := hmi.tlen; have := hz.tags; omega
    clear hz hx HZ HQ hmi
    obtain ⟨c0, c1, c2, c3, c4, c5⟩ := HB1.out.six (.head _)
    go_wp2_with fail
    refine (HB1.out.copy_ (.head _) HX.out.1 _ _).mono ?_
    rintro e w2 ⟨A2, ca2, B2, cb2, rfl, hb0, ho, hbo⟩
    have hb := hb0.lay (.string s) (.int .i64 m.kind) (.slice A2 n ca2) (.int .i64 m.rate) (.slice B2 k cb2) (.int .i64 m.time)
    clear c0 c1 c2 c3 c4 c5
    obtain ⟨c0, c1, c2, c3, c4, c5⟩ := hb.six (.tail _ (.head _))
    have HB2 := Lib.hid hb
    have HO2 := Lib.hid (And.intro ho hbo)
    clear hb hb0 ho hbo HB1
    go_wp2_with fail
    refine (HB2.out.clone_ (.tail _ (.head _)) HX.out.1 _ _).mono ?_
    rintro e w3 ⟨A3, ca3, B3, cb3, rfl, hb0, ho, hbo⟩
    have hb := hb0.lay (.string s) (.int .i64 m.kind) (.slice A3 n ca3) (.int .i64 m.rate) (.slice B3 k cb3) (.int .i64 m.time)
    clear c0 c1 c2 c3 c4 c5
    obtain ⟨c0, c1, c2, c3, c4, c5⟩ := hb.six (.tail _ (.tail _ (.head _)))
    have HB3 := Lib.hid hb
    have HO3 := Lib.hid (And.intro ho hbo)
    clear hb hb0 ho hbo 
    go_wp2_with fail
    refine (HB3.out.split_ (.tail _ (.tail _ (.head _))) HX.out.1 HC.out HX.out.2 _).mono ?_
    clear c0 c1 c2 c3 c4 c5
    rintro e w4 ⟨hb, hb2, ⟨hx0, rfl⟩ | ⟨rfl, v, es, rfl, hsp⟩⟩
    · obtain ⟨b0, b1, b2, b3, b4, b5⟩ := hb.six (.head _)
      obtain ⟨c0, c1, c2, c3, c4, c5⟩ := hb.six (.tail _ (.tail _ (.head _)))
      have HK0 := Lib.hid (And.intro hb.kept hb2)
      have HB4 := Lib.hid hb.rebase
      clear hb hb2
      have g1 : ¬ x = 0 := hx0
      have g2 : (x == 0) = false := by simpa using hx0
      go_wp2_with fail
      refine (HB4.out.check_ (.tail _ (.tail _ (.head _))) HX.out.1 HX.out.2 _ _).mono ?_
      rintro e w5 ⟨rfl, hb⟩
      clear b0 b1 b2 b3 b4 b5 c0 c1 c2 c3 c4 c5
      obtain ⟨b0, b1, b2, b3, b4, b5⟩ := hb.six (.head _)
      obtain ⟨c0, c1, c2, c3, c4, c5⟩ := hb.six (.tail _ (.tail _ (.head _)))
      have HB5 := Lib.hid hb
      clear hb HB4
      go_wp2_with fail
      refine (HB5.out.equal_ (.head _) (.tail _ (.tail _ (.head _))) HX.out.1 (decide_eq_true rfl) _ _ _ _).mono ?_
      rintro e w6 ⟨rfl, hb⟩
      clear b0 b1 b2 b3 b4 b5 c0 c1 c2 c3 c4 c5
      obtain ⟨b0, b1, b2, b3, b4, b5⟩ := hb.six (.head _)
      obtain ⟨c0, c1, c2, c3, c4, c5⟩ := hb.six (.tail _ (.tail _ (.head _)))
      have HB6 := Lib.hid hb
      clear hb HB5
      go_wp2_with fail
      go_loopw [7] (fun v7 wr => v7 = .int .i64 0 ∧ Hid (wr = w6)) (fun _ _ => 0)
      case atStart => exact ⟨rfl, rfl⟩
      case round =>
        obtain ⟨rfl, hrel⟩ := hrel
        obtain rfl : w6 = wr := hrel.out.symm
        have HT := Lib.hid (show CTl (w2.alloc (.cells #[.string s, .int .i64 m.kind, .slice A2 n ca2, .int .i64 m.rate, .slice B2 k cb2, .int .i64 m.time] 25)) w3.heap.size [.string s, .int .i64 m.kind, .slice A3 n ca3, .int .i64 m.rate, .slice B3 k cb3, .int .i64 m.time] A3 (ca3 * 3) B3 (cb3 * 2) _ from ((CTl.mk_ [.string s, .int .i64 m.kind, .slice A3 n ca3, .int .i64 m.rate, .slice B3 k cb3, .int .i64 m.time] HO3.out.2 HO3.out.1).next HK0.out.2).next HB6.out.kept)
        go_wp2_with fail
        go_loopw [10] (fun v10 wr => ∃ j : Nat, v10 = .int .i64 j ∧ j ≤ k ∧ Hid (CTl (w2.alloc (.cells #[.string s, .int .i64 m.kind, .slice A2 n ca2, .int .i64 m.rate, .slice B2 k cb2, .int .i64 m.time] 25)) w3.heap.size [.string s, .int .i64 m.kind, .slice A3 n ca3, .int .i64 m.rate, .slice B3 k cb3, .int .i64 m.time] A3 (ca3 * 3) B3 (cb3 * 2) wr)) (fun v10 _ => k - (intOf v10).toNat)
        case atStart => exact ⟨0, rfl, by omega, HT⟩
        case round =>
          obtain ⟨j, rfl, hjk, hrel⟩ := hrel
          have t4 : wr.cell? ⟨w3.heap.size, 4, none⟩ = some (.slice B3 k cb3) := hrel.out.box.cell 4
          by_cases hlt : j < k
          · have g1 : (j : Int) < (k : Int) := by omega
            have g2 : (0 : Int) ≤ (j : Int) := by omega
            obtain ⟨ab, hab⟩ : ∃ a, B3 = some a := by
              cases hB : B3 with
              | none => have := own_none (hB ▸ HO3.out.1.tags); omega
              | some a => exact ⟨a, rfl⟩
            obtain ⟨h1, h2, h3, h4⟩ := hrel.out.hB ab hab
            obtain ⟨_, _, _, h5⟩ := held_of (hab ▸ HO3.out.1.tags)
            obtain ⟨gb, off, sp⟩ := ab
            injection h1 with _ h1 h6
            subst h1 h6
            rw [hab] at t4
            obtain ⟨u0, k0⟩ := h4.get (i := j * 2) (by omega)
            obtain ⟨u1, k1⟩ := h4.get (i := j * 2 + 1) (by omega)
            have f0 := h4.frozen (j * 2)
            have f1 := h4.frozen (j * 2 + 1)
            have HP := Lib.hid (And.intro h2 h3)
            clear h2 h3 h4 h5 hab
            go_wp2_with fail
            exact ⟨⟨j + 1, by go_num, by omega, Lib.hid ((hrel.out.put HP.out.1 HP.out.2 _).put HP.out.1 HP.out.2 _)⟩, by simp [intOf]; omega⟩
          · have g1 : ¬ (j : Int) < (k : Int) := by omega
            have HT2 := Lib.hid hrel.out
            obtain ⟨wo, hwo⟩ : ∃ wo, wo = wr := ⟨_, rfl⟩
            subst hwo
            go_wp2_with fail
            clear hrel t4 hlt g1 HT
            go_loopw [11] (fun v11 wr => ∃ j : Nat, v11 = .int .i64 j ∧ j ≤ n ∧ Hid (CTl (w2.alloc (.cells #[.string s, .int .i64 m.kind, .slice A2 n ca2, .int .i64 m.rate, .slice B2 k cb2, .int .i64 m.time] 25)) w3.heap.size [.string s, .int .i64 m.kind, .slice A3 n ca3, .int .i64 m.rate, .slice B3 k cb3, .int .i64 m.time] A3 (ca3 * 3) B3 (cb3 * 2) wr)) (fun v11 _ => n - (intOf v11).toNat)
            case atStart => exact ⟨0, rfl, by omega, HT2⟩
            case round =>
              clear HT2
              obtain ⟨j2, rfl, hjn, hrel⟩ := hrel
              have t2 : wr.cell? ⟨w3.heap.size, 2, none⟩ = some (.slice A3 n ca3) := hrel.out.box.cell 2
              by_cases hlt : j2 < n
              · have g1 : (j2 : Int) < (n : Int) := by omega
                have g2 : (0 : Int) ≤ (j2 : Int) := by omega
                obtain ⟨ab, hab⟩ : ∃ a, A3 = some a := by
                  cases hA : A3 with
                  | none => have := own_none (hA ▸ HO3.out.1.vals); omega
                  | some a => exact ⟨a, rfl⟩
                obtain ⟨h1, h2, h3, h4⟩ := hrel.out.hA ab hab
                obtain ⟨_, _, _, h5⟩ := held_of (hab ▸ HO3.out.1.vals)
                obtain ⟨gb, off, sp⟩ := ab
                injection h1 with _ h1 h6
                subst h1 h6
                rw [hab] at t2
                obtain ⟨u0, k0⟩ := h4.get (i := j2 * 3) (by omega)
                obtain ⟨u1, k1⟩ := h4.get (i := j2 * 3 + 1) (by omega)
                obtain ⟨u2, k2⟩ := h4.get (i := j2 * 3 + 2) (by omega)
                have f0 := h4.frozen (j2 * 3)
                have f1 := h4.frozen (j2 * 3 + 1)
                have f2 := h4.frozen (j2 * 3 + 2)
                have HP := Lib.hid (And.intro h2 h3)
                clear h2 h3 h4 h5 hab
                go_wp2_with fail
                exact ⟨⟨j2 + 1, by go_num, by omega, Lib.hid (((hrel.out.put HP.out.1 HP.out.2 _).put HP.out.1 HP.out.2 _).put HP.out.1 HP.out.2 _)⟩, by simp [intOf]; omega⟩
              · have g1 : ¬ (j2 : Int) < (n : Int) := by omega
                have hb := HB2.out.next hrel.out.kept
                obtain ⟨c0, c1, c2, c3, c4, c5⟩ := hb.six (.tail _ (.head _))
                obtain ⟨a0, a1, a2, a3, a4, a5⟩ := hb.six (.head _)
                have HB20 := Lib.hid hb
                clear hb hrel
                go_wp2_with fail
                refine (HB20.out.requal_ (.tail _ (.head _)) (.head _) HX.out.1 (decide_eq_true rfl) _ _ _ _).mono ?_
                rintro e w21 ⟨rfl, hb⟩
                have HB21 := Lib.hid hb
                clear hb HB20 c0 c1 c2 c3 c4 c5 a0 a1 a2 a3 a4 a5
                go_wp2_with fail
                refine HB21.out.awake_.mono ?_
                rintro e w22 ⟨rfl, hb⟩
                have HB22 := Lib.hid hb
                clear hb HB21
                go_wp2_with fail
                go_ret
                exact ⟨rfl, HB22.out.kept⟩
    · obtain ⟨b0, b1, b2, b3, b4, b5⟩ := hb.six (.head _)
      obtain ⟨c0, c1, c2, c3, c4, c5⟩ := hb.six (.tail _ (.tail _ (.head _)))
      have HK0 := Lib.hid (And.intro hb.kept hb2)
      have HB4 := Lib.hid hb.rebase
      obtain ⟨av, cv, rfl⟩ := own_sl hsp.own
      have HSp := Lib.hid hsp
      clear hb hb2 hsp
      go_wp2_with fail
      refine (HB4.out.check_ (.tail _ (.tail _ (.head _))) HX.out.1 HX.out.2 _ _).mono ?_
      rintro e w5 ⟨rfl, hb⟩
      clear b0 b1 b2 b3 b4 b5 c0 c1 c2 c3 c4 c5
      obtain ⟨b0, b1, b2, b3, b4, b5⟩ := hb.six (.head _)
      obtain ⟨c0, c1, c2, c3, c4, c5⟩ := hb.six (.tail _ (.tail _ (.head _)))
      have HB5 := Lib.hid hb
      clear hb HB4
      go_wp2_with fail
      refine (HB5.out.equal_ (.head _) (.tail _ (.tail _ (.head _))) HX.out.1 (decide_eq_true rfl) _ _ _ _).mono ?_
      rintro e w6 ⟨rfl, hb⟩
      clear b0 b1 b2 b3 b4 b5 c0 c1 c2 c3 c4 c5
      obtain ⟨b0, b1, b2, b3, b4, b5⟩ := hb.six (.head _)
      obtain ⟨c0, c1, c2, c3, c4, c5⟩ := hb.six (.tail _ (.tail _ (.head _)))
      have HB6 := Lib.hid hb
      clear hb HB5
      go_wp2_with fail
      go_loopw [7] (fun v7 wr => ∃ i : Nat, v7 = .int .i64 i ∧ i ≤ n ∧ Hid (LInv (w3.alloc (.cells #[.string s, .int .i64 m.kind, .slice A3 n ca3, .int .i64 m.rate, .slice B3 k cb3, .int .i64 m.time] 25)) ((w3.alloc (.cells #[.string s, .int .i64 m.kind, .slice A3 n ca3, .int .i64 m.rate, .slice B3 k cb3, .int .i64 m.time] 25)).heap.size + 1) n (.slice av n cv) s k m es i wr)) (fun v7 _ => n - (intOf v7).toNat)
      case atStart => exact ⟨0, rfl, by omega, Lib.hid ((LInv.mk HK0.out.2 HSp.out.own fun j e d _ => HSp.out.ent j e d).next HB6.out.kept)⟩
      case round =>
        obtain ⟨i, rfl, hin, hrel⟩ := hrel
        clear b0 b1 b2 b3 b4 b5 c0 c1 c2 c3 c4 c5
        by_cases hlt : i < n
        · have g1 : (i : Int) < (n : Int) := by omega
          have g2 : (0 : Int) ≤ (i : Int) := by omega
          have hk := HB3.out.next hrel.out.kept
          have l0 : i < m.vals.length := by rw [(hk.m (.tail _ (.tail _ (.head _)))).vlen]; exact hlt
          obtain ⟨en, hen⟩ : ∃ en, es[i]? = some en := ⟨_, List.getElem?_eq_getElem (by rw [HSp.out.len]; exact hlt)⟩
          have heo := hrel.out.ent i en _ (Nat.le_refl _) hen (List.getElem?_eq_getElem l0)
          obtain ⟨d, hd⟩ : ∃ d, m.vals[i] = d := ⟨_, rfl⟩
          have hdm : d ∈ m.vals := hd ▸ List.getElem_mem l0
          rw [hd] at heo
          obtain ⟨eA, eca, eB, ecb, lo, hi⟩ := en
          obtain ⟨aa, haa⟩ : ∃ a, eA = some a := by
            cases hA : eA with
            | none => have := own_none (hA ▸ heo.own.vals); omega
            | some a => exact ⟨a, rfl⟩
          subst haa
          obtain ⟨h1, h2, h3, h4⟩ := held_of heo.own.vals
          obtain ⟨gA, oA, pA⟩ := aa
          injection h1 with _ h1 h6
          subst h1 h6
          have h5 : gA < hi := heo.bA gA rfl
          obtain ⟨ag, hag⟩ : ∃ a, av = some a := by
            cases hA : av with
            | none => have := own_none (hA ▸ hrel.out.own); omega
            | some a => exact ⟨a, rfl⟩
          subst hag
          obtain ⟨k1, k2, k3, k4⟩ := held_of hrel.out.own
          obtain ⟨gR, oR, pR⟩ := ag
          injection k1 with _ k1 k6
          subst k1 k6
          have r0 := hrel.out.cell rfl hen (by decide : 0 < 6) rfl
          have r1 := hrel.out.cell rfl hen (by decide : 1 < 6) rfl
          have r2 := hrel.out.cell rfl hen (by decide : 2 < 6) rfl
          have r3 := hrel.out.cell rfl hen (by decide : 3 < 6) rfl
          have r4 := hrel.out.cell rfl hen (by decide : 4 < 6) rfl
          have r5 := hrel.out.cell rfl hen (by decide : 5 < 6) rfl
          rw [Nat.add_zero] at r0
          have e2 : ∀ o, (wr.alloc o).cell? ⟨w.heap.size, 2, none⟩ = some (.slice A n ca) := fun o => (hk.alloc o).cell (.tail _ (.tail _ (.head _))) rfl
          obtain ⟨b, off, p, y, z, eA0, v0, v1, v2, hdl⟩ := (hk.m (.tail _ (.tail _ (.head _)))).vals.get l0
          rw [hd] at hdl
          obtain ⟨b', off', p', y', z', eA1, q0, q1, q2, hdl'⟩ := (Decs.of_own heo.own.vals).get (i := 0) (by show 0 < 1; omega)
          injection eA1 with eA1
          injection eA1 with eA1 eA2
          subst eA1 eA2
          simp only [Nat.zero_mul, Nat.zero_add, Nat.add_zero] at q0 q1 q2
          have hne := dne_run hdl' hdl (decide_eq_true rfl)
          have hgu := dguard
          have Hk := Lib.hid hk
          have He := Lib.hid heo
          have Hr := Lib.hid hrel.out
          have Hen := Lib.hid (And.intro hen (And.intro hdm eA0))
          have HA := Lib.hid (And.intro h2 (And.intro h3 (And.intro h4 h5)))
          have HRow := Lib.hid (HSp.out.row gR rfl _ (List.mem_of_getElem? hen))
          have HW := Lib.hid (m_below wr (.cells #[.string s, .int .i64 m.kind, .slice (some ⟨gA, 0, none⟩) 1 eca, .int .i64 m.rate, .slice eB k ecb, .int .i64 m.time] 25))
          have Hcl := Lib.hid (And.intro r2 (And.intro r4 (And.intro q0 (And.intro q1 (And.intro q2 (And.intro v0 (And.intro v1 v2)))))))
          subst eA0
          clear hk heo hdl hdl' hd hdm h2 h3 h4 h5 k2 k3 k4 hen hrel q0 q1 q2 v0 v1 v2
          obtain ⟨wo, hwo⟩ : ∃ wo, wo = wr := ⟨_, rfl⟩
          subst hwo
          go_wp2_with fail
          clear r0 r1 r2 r3 r4 r5 e2
          have hbx := Box.new wo 25 [.string s, .int .i64 m.kind, .slice (some ⟨gA, 0, none⟩) 1 eca, .int .i64 m.rate, .slice eB k ecb, .int .i64 m.time]
          have x0 := cell_regrown (hbx.cell 0)
          have x1 := cell_regrown (hbx.cell 1)
          have x2 := cell_regrown (hbx.cell 2)
          have x3 := cell_regrown (hbx.cell 3)
          have x4 := cell_regrown (hbx.cell 4)
          have x5 := cell_regrown (hbx.cell 5)
          have q0 := regr HW.out Hcl.out.2.2.1
          have q1 := regr HW.out Hcl.out.2.2.2.1
          have q2 := regr HW.out Hcl.out.2.2.2.2.1
          have v0 := regr HW.out Hcl.out.2.2.2.2.2.1
          have v1 := regr HW.out Hcl.out.2.2.2.2.2.2.1
          have v2 := regr HW.out Hcl.out.2.2.2.2.2.2.2
          have e2 := regr HW.out (Hk.out.cell (i := 2) (.tail _ (.tail _ (.head _))) rfl)
          have Q0 := Lib.hid (fun d' os => ((Hk.out.next HW.out).mAdd (He.out.own.mis.keep HW.out)).check1q (.head _) (HX.out.1.one Hen.out.2.1) (check_one HX.out.2 Hen.out.2.1) eca ecb d' os)
          have Hbx := Lib.hid hbx
          clear hbx
          refine wp_region_quiet_below (by kernel_rfl) (by kernel_rfl) ?_
          repeat (go_big_quiet_step (first | with_reducible exact Q0.out _ _))
          refine wpQuiet_nil ?_
          rintro _ ⟨⟨dq, osq⟩, rfl⟩
          clear x0 x1 x2 x3 x4 x5 q0 q1 q2 v0 v1 v2 e2 Q0 hne
          obtain ⟨wg, hwg⟩ : ∃ wg, wg = grow (redrawn (wo.alloc (.cells #[.string s, .int .i64 m.kind, .slice (some ⟨gA, 0, none⟩) 1 eca, .int .i64 m.rate, .slice eB k ecb, .int .i64 m.time] 25)) dq) osq := ⟨_, rfl⟩
          have hbg := below_regrown (wo.alloc (.cells #[.string s, .int .i64 m.kind, .slice (some ⟨gA, 0, none⟩) 1 eca, .int .i64 m.rate, .slice eB k ecb, .int .i64 m.time] 25)) dq osq
          rw [← hwg] at hbg ⊢
          have hXg := Hbx.out.keep hbg
          have hWg := below_then HW.out hbg
          have x0 : wg.cell? ⟨wo.heap.size, 0, none⟩ = some (.string s) := hXg.cell 0
          have x1 : wg.cell? ⟨wo.heap.size, 1, none⟩ = some (.int .i64 m.kind) := hXg.cell 1
          have x2 : wg.cell? ⟨wo.heap.size, 2, none⟩ = some (.slice (some ⟨gA, 0, none⟩) 1 eca) := hXg.cell 2
          have x3 : wg.cell? ⟨wo.heap.size, 3, none⟩ = some (.int .i64 m.rate) := hXg.cell 3
          have x4 : wg.cell? ⟨wo.heap.size, 4, none⟩ = some (.slice eB k ecb) := hXg.cell 4
          have x5 : wg.cell? ⟨wo.heap.size, 5, none⟩ = some (.int .i64 m.time) := hXg.cell 5
          have xf := hXg.frozen 2
          have hkg := Hk.out.next hWg
          obtain ⟨c0, c1, c2, c3, c4, c5⟩ := hkg.six (.tail _ (.tail _ (.head _)))
          have hmx : MIs wg s (some ⟨b, off, none⟩) n eB k m := ⟨(hkg.m (.tail _ (.tail _ (.head _)))).name, (hkg.m (.tail _ (.tail _ (.head _)))).vlen, (hkg.m (.tail _ (.tail _ (.head _)))).vals, (He.out.own.mis.keep hWg).tlen, (He.out.own.mis.keep hWg).tags⟩
          have HE := Lib.hid (equal_calls (ca := ca) (cb := ecb) (ca' := ca) (cb' := cb) (hmx.set_met (s := s) (kd := m.kind) (A0 := some ⟨gA, 0, none⟩) (n0 := 1) (ca0 := eca) (rt := m.rate) (B0 := eB) (k0 := k) (cb0 := ecb) (tm := m.time) hXg 2 (.slice (some ⟨b, off, none⟩) n ca)) ((hkg.m (.tail _ (.tail _ (.head _)))).set_met (s := s) (kd := m.kind) (A0 := some ⟨gA, 0, none⟩) (n0 := 1) (ca0 := eca) (rt := m.rate) (B0 := eB) (k0 := k) (cb0 := ecb) (tm := m.time) hXg 2 (.slice (some ⟨b, off, none⟩) n ca)) HX.out.1)
          rw [decide_eq_true (rfl : m = m)] at HE
          have HWg := Lib.hid (below_set hWg (Nat.le_refl _) 2 (.slice (some ⟨b, off, none⟩) n ca))
          have ne1 : ¬ w.heap.size = wo.heap.size := by have := Hk.out.lt (.tail _ (.tail _ (.head _))); omega
          unfold mV at HE
          clear hXg hWg hkg hmx hbg hwg
          go_wp2_with fail
          refine HE.out.mono ?_
          rintro e w8 ⟨rfl, hb8⟩
          have hW8 := below_then HWg.out hb8
          have r2 := (hW8.cell (cell_lt Hcl.out.1)).trans Hcl.out.1
          have r4 := (hW8.cell (cell_lt Hcl.out.2.1)).trans Hcl.out.2.1
          have hh8 := HA.out.2.1.keep hW8
          have one := HA.out.2.2.1
          obtain ⟨u0, k0⟩ := hh8.get (i := 0) (by omega)
          obtain ⟨u1, k1⟩ := hh8.get (i := 1) (by omega)
          obtain ⟨u2, k2⟩ := hh8.get (i := 2) (by omega)
          have f0 := hh8.frozen 0
          have f1 := hh8.frozen 1
          have f2 := hh8.frozen 2
          have HW8 := Lib.hid (And.intro hW8 (And.intro hh8 r4))
          clear hb8 hW8 hh8 x0 x1 x2 x3 x4 x5 xf c0 c1 c2 c3 c4 c5 HE HWg one ne1 r4 hgu
          go_wp2_with fail
          clear r2 k0 k1 k2 f0 f1 f2
          have HB9 := Lib.hid (fun a (ha : eB = some a) => show a = ⟨a.block, 0, none⟩ ∧ lo ≤ a.block ∧ a.block < hi ∧ Held w8 a.block (ecb * 2) ∧ k ≤ ecb by
            subst ha
            obtain ⟨h1, h2, h3, h4⟩ := held_of He.out.own.tags
            exact ⟨h1, h2, He.out.bB _ rfl, h3.keep HW8.out.1, h4⟩)
          go_loopw [9] (fun v9 wr => ∃ j : Nat, v9 = .int .i64 j ∧ j ≤ k ∧ Hid (Within lo hi w8 wr ∧ ∀ a, eB = some a → Held wr a.block (ecb * 2))) (fun v9 _ => k - (intOf v9).toNat)
          case atStart => exact ⟨0, rfl, by omega, Lib.hid (And.intro ((((Within.refl w8).put (q := ⟨gA, 0, none⟩) HA.out.1 HA.out.2.2.2 _).put (q := ⟨gA, 1, none⟩) HA.out.1 HA.out.2.2.2 _).put (q := ⟨gA, 2, none⟩) HA.out.1 HA.out.2.2.2 _) fun a ha => held_put (held_put (held_put (HB9.out a ha).2.2.2.1 _) _) _)⟩
          case round =>
            obtain ⟨j, rfl, hjk, hrel⟩ := hrel
            have t4 : wr.cell? ⟨gR, i * 6 + 4, none⟩ = some (.slice eB k ecb) := (World.cell?_of_block (hrel.out.1.block gR (cell_lt HW8.out.2.2) HRow.out)).trans HW8.out.2.2
            by_cases hlt2 : j < k
            · have g3 : (j : Int) < (k : Int) := by omega
              have g4 : (0 : Int) ≤ (j : Int) := by omega
              obtain ⟨ab, hab⟩ : ∃ a, eB = some a := by
                cases hB : eB with
                | none => have := own_none (hB ▸ He.out.own.tags); omega
                | some a => exact ⟨a, rfl⟩
              obtain ⟨h1, h2, h3, _, h5⟩ := HB9.out ab hab
              have h4 := hrel.out.2 ab hab
              obtain ⟨gb, off2, sp⟩ := ab
              injection h1 with _ h1 h6
              subst h1 h6
              rw [hab] at t4
              obtain ⟨u0, k0⟩ := h4.get (i := j * 2) (by omega)
              obtain ⟨u1, k1⟩ := h4.get (i := j * 2 + 1) (by omega)
              have f0 := h4.frozen (j * 2)
              have f1 := h4.frozen (j * 2 + 1)
              have HP := Lib.hid (And.intro h2 h3)
              clear h2 h3 h4 h5 hab
              go_wp2_with fail
              exact ⟨⟨j + 1, by go_num, by omega, Lib.hid (And.intro ((hrel.out.1.put (q := ⟨gb, j * 2, none⟩) HP.out.1 HP.out.2 _).put (q := ⟨gb, j * 2 + 1, none⟩) HP.out.1 HP.out.2 _) fun a ha => held_put (held_put (hrel.out.2 a ha) _) _)⟩, by simp [intOf]; omega⟩
            · have g3 : ¬ (j : Int) < (k : Int) := by omega
              go_wp2_with fail
              exact ⟨⟨i + 1, by go_num, by omega, Lib.hid ((Hr.out.next HW8.out.1).wrote HSp.out.row HSp.out.apart Hen.out.1 (Nat.le_trans (Nat.le_succ _) He.out.lo) hrel.out.1)⟩, by simp [intOf]; omega⟩
        · have g1 : ¬ (i : Int) < (n : Int) := by omega
          obtain rfl : n = i := by omega
          obtain ⟨wo, hwo⟩ : ∃ wo, wo = wr := ⟨_, rfl⟩
          subst hwo
          have HT := Lib.hid (show CTl (w2.alloc (.cells #[.string s, .int .i64 m.kind, .slice A2 n ca2, .int .i64 m.rate, .slice B2 k cb2, .int .i64 m.time] 25)) w3.heap.size [.string s, .int .i64 m.kind, .slice A3 n ca3, .int .i64 m.rate, .slice B3 k cb3, .int .i64 m.time] A3 (ca3 * 3) B3 (cb3 * 2) _ from (CTl.mk_ [.string s, .int .i64 m.kind, .slice A3 n ca3, .int .i64 m.rate, .slice B3 k cb3, .int .i64 m.time] HO3.out.2 HO3.out.1).next hrel.out.kept)
          go_wp2_with fail
          go_loopw [10] (fun v10 wr => ∃ j : Nat, v10 = .int .i64 j ∧ j ≤ k ∧ Hid (CTl (w2.alloc (.cells #[.string s, .int .i64 m.kind, .slice A2 n ca2, .int .i64 m.rate, .slice B2 k cb2, .int .i64 m.time] 25)) w3.heap.size [.string s, .int .i64 m.kind, .slice A3 n ca3, .int .i64 m.rate, .slice B3 k cb3, .int .i64 m.time] A3 (ca3 * 3) B3 (cb3 * 2) wr)) (fun v10 _ => k - (intOf v10).toNat)
          case atStart => exact ⟨0, rfl, by omega, HT⟩
          case round =>
            obtain ⟨j, rfl, hjk, hrel⟩ := hrel
            have t4 : wr.cell? ⟨w3.heap.size, 4, none⟩ = some (.slice B3 k cb3) := hrel.out.box.cell 4
            by_cases hlt : j < k
            · have g1 : (j : Int) < (k : Int) := by omega
              have g2 : (0 : Int) ≤ (j : Int) := by omega
              obtain ⟨ab, hab⟩ : ∃ a, B3 = some a := by
                cases hB : B3 with
                | none => have := own_none (hB ▸ HO3.out.1.tags); omega
                | some a => exact ⟨a, rfl⟩
              obtain ⟨h1, h2, h3, h4⟩ := hrel.out.hB ab hab
              obtain ⟨_, _, _, h5⟩ := held_of (hab ▸ HO3.out.1.tags)
              obtain ⟨gb, off, sp⟩ := ab
              injection h1 with _ h1 h6
              subst h1 h6
              rw [hab] at t4
              obtain ⟨u0, k0⟩ := h4.get (i := j * 2) (by omega)
              obtain ⟨u1, k1⟩ := h4.get (i := j * 2 + 1) (by omega)
              have f0 := h4.frozen (j * 2)
              have f1 := h4.frozen (j * 2 + 1)
              have HP := Lib.hid (And.intro h2 h3)
              clear h2 h3 h4 h5 hab
              go_wp2_with fail
              exact ⟨⟨j + 1, by go_num, by omega, Lib.hid ((hrel.out.put HP.out.1 HP.out.2 _).put HP.out.1 HP.out.2 _)⟩, by simp [intOf]; omega⟩
            · have g1 : ¬ (j : Int) < (k : Int) := by omega
              have HT2 := Lib.hid hrel.out
              obtain ⟨wo, hwo⟩ : ∃ wo, wo = wr := ⟨_, rfl⟩
              subst hwo
              go_wp2_with fail
              clear hrel t4 hlt g1 HT
              go_loopw [11] (fun v11 wr => ∃ j : Nat, v11 = .int .i64 j ∧ j ≤ n ∧ Hid (CTl (w2.alloc (.cells #[.string s, .int .i64 m.kind, .slice A2 n ca2, .int .i64 m.rate, .slice B2 k cb2, .int .i64 m.time] 25)) w3.heap.size [.string s, .int .i64 m.kind, .slice A3 n ca3, .int .i64 m.rate, .slice B3 k cb3, .int .i64 m.time] A3 (ca3 * 3) B3 (cb3 * 2) wr)) (fun v11 _ => n - (intOf v11).toNat)
              case atStart => exact ⟨0, rfl, by omega, HT2⟩
              case round =>
                clear HT2
                obtain ⟨j2, rfl, hjn, hrel⟩ := hrel
                have t2 : wr.cell? ⟨w3.heap.size, 2, none⟩ = some (.slice A3 n ca3) := hrel.out.box.cell 2
                by_cases hlt : j2 < n
                · have g1 : (j2 : Int) < (n : Int) := by omega
                  have g2 : (0 : Int) ≤ (j2 : Int) := by omega
                  obtain ⟨ab, hab⟩ : ∃ a, A3 = some a := by
                    cases hA : A3 with
                    | none => have := own_none (hA ▸ HO3.out.1.vals); omega
                    | some a => exact ⟨a, rfl⟩
                  obtain ⟨h1, h2, h3, h4⟩ := hrel.out.hA ab hab
                  obtain ⟨_, _, _, h5⟩ := held_of (hab ▸ HO3.out.1.vals)
                  obtain ⟨gb, off, sp⟩ := ab
                  injection h1 with _ h1 h6
                  subst h1 h6
                  rw [hab] at t2
                  obtain ⟨u0, k0⟩ := h4.get (i := j2 * 3) (by omega)
                  obtain ⟨u1, k1⟩ := h4.get (i := j2 * 3 + 1) (by omega)
                  obtain ⟨u2, k2⟩ := h4.get (i := j2 * 3 + 2) (by omega)
                  have f0 := h4.frozen (j2 * 3)
                  have f1 := h4.frozen (j2 * 3 + 1)
                  have f2 := h4.frozen (j2 * 3 + 2)
                  have HP := Lib.hid (And.intro h2 h3)
                  clear h2 h3 h4 h5 hab
                  go_wp2_with fail
                  exact ⟨⟨j2 + 1, by go_num, by omega, Lib.hid (((hrel.out.put HP.out.1 HP.out.2 _).put HP.out.1 HP.out.2 _).put HP.out.1 HP.out.2 _)⟩, by simp [intOf]; omega⟩
                · have g1 : ¬ (j2 : Int) < (n : Int) := by omega
                  have hb := HB2.out.next hrel.out.kept
                  obtain ⟨c0, c1, c2, c3, c4, c5⟩ := hb.six (.tail _ (.head _))
                  obtain ⟨a0, a1, a2, a3, a4, a5⟩ := hb.six (.head _)
                  have HB20 := Lib.hid hb
                  clear hb hrel
                  go_wp2_with fail
                  refine (HB20.out.requal_ (.tail _ (.head _)) (.head _) HX.out.1 (decide_eq_true rfl) _ _ _ _).mono ?_
                  rintro e w21 ⟨rfl, hb⟩
                  have HB21 := Lib.hid hb
                  clear hb HB20 c0 c1 c2 c3 c4 c5 a0 a1 a2 a3 a4 a5
                  go_wp2_with fail
                  refine HB21.out.awake_.mono ?_
                  rintro e w22 ⟨rfl, hb⟩
                  have HB22 := Lib.hid hb
                  clear hb HB21
                  go_wp2_with fail
                  go_ret
                  exact ⟨rfl, HB22.out.kept⟩
end
end Go.Proofs.Ytgnpakcofkhdkaa
