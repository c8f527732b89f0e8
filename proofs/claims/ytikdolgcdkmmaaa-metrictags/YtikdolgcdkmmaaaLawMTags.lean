/-
  The walk of MetricTags. No statement of the seat is proved here.
-/
import Derived.Test.YtikdolgcdkmmaaaMTagM
import Derived.RegionTactic
import Derived.ChangeAlike
import Derived.BigRegion
import Derived.Deep.DeepCutAuto
import Derived.Deep.CutBlock
import Derived.StillTailTactics
import Derived.Deep.RegionLaw
namespace Go.Proofs.Ytikdolgcdkmmaaa
open Go.RowKit Go.Sort
open Dc (D D0)

theorem place_of (z : Int) {n : Nat} (hn : 0 < n) : ∃ a : Nat, a < n ∧ (z.tmod n + n).tmod n = a ∧ -(n : Int) < z.tmod n ∧ z.tmod n < n := by
  have h1 : z.tmod n < n := Int.tmod_lt_of_pos z (by omega)
  have h2 : -(n : Int) < z.tmod n := by
    have := Int.lt_tmod_of_pos z (by omega : (0 : Int) < n)
    omega
  have h3 : 0 ≤ (z.tmod n + n).tmod n := Int.tmod_nonneg _ (by omega)
  have h4 : (z.tmod n + n).tmod n < n := Int.tmod_lt_of_pos _ (by omega)
  exact ⟨((z.tmod n + n).tmod n).toNat, by omega, by omega, h2, h1⟩

section
variable {w : World} {s : ByteArray} {A B : Option Addr} {n k ca cb : Nat} {m : Mt} {S : Option Addr} {ns cs : Nat} {zs : List Int} {x y z : Int}
set_option maxRecDepth 100000 in
set_option maxHeartbeats 100000000 in
theorem tags_walk (h : MIs w s A n B k m) (hf : ∀ d ∈ m.vals, d.Fits) (hs : zs.length = ns) (hS : Lies w S (zs.map (.int .i64))) (hns : ns ≤ maxLen) :
    Calls Try.prog 3 #[mV s m.kind A n ca m.rate B k cb m.time, .slice S ns cs, .agg #[.int .i64 x, .int .i64 y, .int .i64 z]] w fun e w' => e = .returned (.bool true) ∧ Below w.heap.size w w' := by
  obtain ⟨q, hq⟩ : ∃ q, fewM m = q := ⟨_, rfl⟩
  have HZ := Lib.hid (fun (e : q = true) => few_small (hq.trans e) hf)
  have HQ := Lib.hid hq
  have hb := (Kb.enter (ca := ca) (cb := cb) h).push 27 [.int .i64 x, .int .i64 y, .int .i64 z]
  rw [size_alloc] at hb
  have HB := Lib.hid hb
  have HS := Lib.hid (And.intro hs (And.intro hS hns))
  have hns' : (ns : Int) ≤ 9223372036854775807 := by unfold maxLen at hns; omega
  unfold mV
  clear hq h hf hb hs hS hns
  go_enter Try.func3, Try.ntmps3
  go_wp2_with fail
  refine (HB.out.few_ (.head _) HQ.out _ _).mono ?_
  rintro e w1 ⟨rfl, hb⟩
  have HB1 := Lib.hid hb
  clear hb HB
  cases q
  · go_wp2_with fail
    refine (HB1.out.awake_).mono ?_
    rintro e w2 ⟨rfl, hb⟩
    have HB2 := Lib.hid hb
    clear hb HB1
    go_wp2_with fail
    go_ret
    exact ⟨rfl, HB2.out.kept⟩
  · by_cases h60 : 60 < (ns : Int)
    · go_wp2_with fail
      refine (HB1.out.awake_).mono ?_
      rintro e w2 ⟨rfl, hb⟩
      have HB2 := Lib.hid hb
      clear hb HB1
      go_wp2_with fail
      go_ret
      exact ⟨rfl, HB2.out.kept⟩
    · have hz := HZ.out rfl
      obtain ⟨q, hq⟩ : ∃ x, codeM m = x := ⟨_, rfl⟩
      obtain ⟨m', hm'⟩ : ∃ m', nM m = m' := ⟨_, rfl⟩
      have HX := Lib.hid (And.intro hz (And.intro hq hm'))
      have hmi := HB1.out.m (.head _)
      have hnz : n ≤ 1000 := by have := hmi.vlen; have := hz.vals; omega
      have hkz : k ≤ 200 := by have := hmi.tlen; have := hz.tags; omega
      have hns60 : ns ≤ 60 := by omega
      clear hz hq hm' HZ HQ hmi hns'
      obtain ⟨c0, c1, c2, c3, c4, c5⟩ := HB1.out.six (.tail _ (.head _))
      go_wp2_with fail
      refine (HB1.out.clone_ (.head _) HX.out.1 _ _).mono ?_
      rintro e w2 ⟨A2, ca2, B2, cb2, rfl, hb0, ho, hbo⟩
      have hb := hb0.lay (.string s) (.int .i64 m.kind) (.slice A2 n ca2) (.int .i64 m.rate) (.slice B2 k cb2) (.int .i64 m.time)
      clear c0 c1 c2 c3 c4 c5
      obtain ⟨b0, b1, b2, b3, b4, b5⟩ := hb.six (.head _)
      obtain ⟨c0, c1, c2, c3, c4, c5⟩ := hb.six (.tail _ (.tail _ (.head _)))
      have HB2 := Lib.hid hb
      have HN2 := Lib.hid (show NSt w1 w2.heap.size s m A2 n ca2 (flatD m.vals) B2 k cb2 (flat m.tags) (w2.alloc (.cells #[.string s, .int .i64 m.kind, .slice A2 n ca2, .int .i64 m.rate, .slice B2 k cb2, .int .i64 m.time] 25)) from
        ⟨hbo.alloc hbo.size _, Box.new _ _ [.string s, .int .i64 m.kind, .slice A2 n ca2, .int .i64 m.rate, .slice B2 k cb2, .int .i64 m.time], hbo.size, ho.name, own_keep ho.vals (m_below _ _), own_keep ho.tags (m_below _ _)⟩)
      have HB2' := Lib.hid hb.rebase
      clear hb hb0 ho hbo
      go_wp2_with fail
      refine (HB2'.out.requal_ (.head _) (.tail _ (.head _)) HX.out.1 (decide_eq_true rfl) _ _ _ _).mono ?_
      rintro e w3 ⟨rfl, hb⟩
      clear b0 b1 b2 b3 b4 b5 c0 c1 c2 c3 c4 c5
      obtain ⟨b0, b1, b2, b3, b4, b5⟩ := hb.six (.head _)
      obtain ⟨c0, c1, c2, c3, c4, c5⟩ := hb.six (.tail _ (.tail _ (.head _)))
      have HB3 := Lib.hid hb
      clear hb HB2'
      have HN3 := Lib.hid (HN2.out.next HB3.out.kept)
      clear HN2 HB3
      go_upto_block 0 with fail
      clear b0 b1 b2 b3 b4 b5 c0 c1 c2 c3 c4 c5
      go_cut [] (fun wx => Hid (∃ ps : List Tg, ps.length = k ∧ NSt w1 w2.heap.size s m A2 n ca2 (flatD m.vals) B2 k cb2 (flat ps) wx ∧ ∀ t, t ∈ ps ↔ t ∈ m.tags))
      case first =>
        as_aux_lemma =>
          go_wp2_with fail
          go_loopw [9] (fun v9 wr => ∃ (j : Nat) (ps : List Tg), v9 = .int .i64 j ∧ j ≤ ns + 1 ∧ ps.length = k ∧ Hid (NSt w1 w2.heap.size s m A2 n ca2 (flatD m.vals) B2 k cb2 (flat ps) wr ∧ ∀ t, t ∈ ps ↔ t ∈ m.tags)) (fun v9 _ => ns + 2 - (intOf v9).toNat)
          case atStart => exact ⟨0, m.tags, rfl, by omega, (HB1.out.m (.head _)).tlen, Lib.hid (And.intro HN3.out fun _ => Iff.rfl)⟩
          case round =>
            obtain ⟨j, ps, rfl, hj, hpl, hrel⟩ := hrel
            clear HN3
            by_cases hgo : j + 1 < ns ∧ 0 < k
            · obtain ⟨h1, h2⟩ := hgo
              have g1 : (j : Int) + 1 < (ns : Int) := by omega
              have g2 : (0 : Int) < (k : Int) := by omega
              have g3 : (j : Int) < (ns : Int) := by omega
              have g4 : (0 : Int) ≤ (j : Int) + 1 := by omega
              have g5 : ((j : Int) + 1).toNat = j + 1 := by omega
              have hS' := HS.out.2.1.keep (below_then HB1.out.kept hrel.out.1.kept)
              have hs := HS.out.1
              obtain ⟨sb, so, eS, x0⟩ := hS'.at_ (i := j) (by simp; omega)
              obtain ⟨sb', so', eS', x1⟩ := hS'.at_ (i := j + 1) (by simp; omega)
              rw [eS] at eS'
              injection eS' with eS'
              injection eS' with es1 es2
              subst es1 es2
              subst eS
              simp only [List.getElem_map] at x0 x1
              generalize zs[j] = z1 at x0
              generalize zs[j + 1] = z2 at x1
              obtain ⟨a, ha, ea, ya1, ya2⟩ := place_of z1 h2
              obtain ⟨b, hb, eb, yb1, yb2⟩ := place_of z2 h2
              have a1 : wrap64 (z1.tmod (k : Int) + (k : Int)) = z1.tmod (k : Int) + (k : Int) := IntWalk.wrap64_in _ (by omega)
              have a2 : wrap64 (z2.tmod (k : Int) + (k : Int)) = z2.tmod (k : Int) + (k : Int) := IntWalk.wrap64_in _ (by omega)
              have la : a < ps.length := by omega
              have lb : b < ps.length := by omega
              obtain ⟨ab, hab⟩ : ∃ a, B2 = some a := by
                cases hB : B2 with
                | none => have := own_none (hB ▸ hrel.out.1.tags); omega
                | some a => exact ⟨a, rfl⟩
              subst hab
              obtain ⟨k1, _, _, _⟩ := held_of hrel.out.1.tags
              obtain ⟨g, off2, sp⟩ := ab
              injection k1 with _ k1 k6
              subst k1 k6
              have t4 : wr.cell? ⟨w2.heap.size, 4, none⟩ = some (.slice (some ⟨g, 0, none⟩) k cb2) := hrel.out.1.box.cell 4
              obtain ⟨b1, o1, s1, t1, eT, c0, c1, hs1, ht1⟩ := (Tags.of_own hrel.out.1.tags).get la
              injection eT with eT
              injection eT with eT1 eT2
              subst eT1 eT2
              obtain ⟨b1, o1, s2, t2, eT, d0, d1, hs2, ht2⟩ := (Tags.of_own hrel.out.1.tags).get lb
              injection eT with eT
              injection eT with eT1 eT2
              subst eT1 eT2
              rw [Nat.zero_add] at c0 c1 d0 d1
              have HST := Lib.hid (And.intro hs1 (And.intro ht1 (And.intro hs2 ht2)))
              have ga : (a : Int) < (k : Int) := by omega
              have gb : (b : Int) < (k : Int) := by omega
              have ga0 : (0 : Int) ≤ (a : Int) := by omega
              have gb0 : (0 : Int) ≤ (b : Int) := by omega
              have fa0 := own_frozen hrel.out.1.tags (a * 2)
              have fa1 := own_frozen hrel.out.1.tags (a * 2 + 1)
              have fb0 := own_frozen hrel.out.1.tags (b * 2)
              have fb1 := own_frozen hrel.out.1.tags (b * 2 + 1)
              have ng : w2.heap.size ≠ g := own_box hrel.out.1.tags hrel.out.1.box (by decide) g rfl
              have ng' : g ≠ w2.heap.size := fun e => ng e.symm
              clear hS' hs hs1 ht1 hs2 ht2 ya1 ya2 yb1 yb2
              go_wp2_with fail
              clear a1 a2 x0 x1 ea eb
              by_cases hab : a = b
              · subst hab
                go_region
                all_goals
                  go_wp2_with fail
                  exact ⟨⟨j + 2, swp ps a a ps[a] ps[a], by go_num, by omega, by rw [swp_length, hpl], Lib.hid (And.intro ((hrel.out.1.drew.swapT la la HST.out.1 HST.out.2.1 HST.out.1 HST.out.2.1)) fun t => (swp_mem la la t).trans (hrel.out.2 t))⟩, by simp [intOf]; omega⟩
              · have hab1 : a * 2 ≠ b * 2 := by omega
                have hab2 : a * 2 + 1 ≠ b * 2 := by omega
                have hab3 : a * 2 ≠ b * 2 + 1 := by omega
                have hab4 : b * 2 ≠ a * 2 := by omega
                have hab5 : b * 2 ≠ a * 2 + 1 := by omega
                have hab6 : b * 2 + 1 ≠ a * 2 := by omega
                go_region
                all_goals
                  go_wp2_with fail
                  exact ⟨⟨j + 2, swp ps a b ps[a] ps[b], by go_num, by omega, by rw [swp_length, hpl], Lib.hid (And.intro ((hrel.out.1.drew.swapT la lb HST.out.1 HST.out.2.1 HST.out.2.2.1 HST.out.2.2.2)) fun t => (swp_mem la lb t).trans (hrel.out.2 t))⟩, by simp [intOf]; omega⟩
            · have hstop : (¬ (j : Int) + 1 < (ns : Int)) ∨ ((j : Int) + 1 < (ns : Int) ∧ ¬ (0 : Int) < (k : Int)) := by omega
              rcases hstop with g1 | ⟨g1, g2⟩
              · go_wp2_with fail
                go_meet
                exact Lib.hid ⟨ps, hpl, hrel.out.1, hrel.out.2⟩
              · go_wp2_with fail
                go_meet
                exact Lib.hid ⟨ps, hpl, hrel.out.1, hrel.out.2⟩
      case rest =>
        obtain ⟨ps, hpl, hN, hM⟩ := hcut.out
        have HN := Lib.hid hN
        have hM' := Lib.hid hM
        clear hcut hN hM HN3
        obtain ⟨wo, hwo⟩ : ∃ wo, wo = wc := ⟨_, rfl⟩
        subst hwo
        obtain ⟨bk, hbk⟩ : ∃ bk : Bool, bk = decide (0 < k ∧ k < 32) := ⟨_, rfl⟩
        have HBK := Lib.hid hbk
        clear hbk
        go_upto_region 13 with fail
        go_cut [92] (fun s92 wx => s92 = .bool bk ∧ wx = wo)
        case first =>
          rcases (by omega : (¬ (0 : Int) < (k : Int)) ∨ ((0 : Int) < (k : Int) ∧ (k : Int) < 32) ∨ ((0 : Int) < (k : Int) ∧ ¬ (k : Int) < 32)) with g1 | ⟨g1, g2⟩ | ⟨g1, g2⟩
          · have HE := Lib.hid (show bk = false by rw [HBK.out]; exact decide_eq_false (by omega))
            go_wp2_with fail
            go_meet
            exact ⟨by rw [HE.out], rfl⟩
          · have HE := Lib.hid (show bk = true by rw [HBK.out]; exact decide_eq_true (by omega))
            go_wp2_with fail
            go_meet
            exact ⟨by rw [HE.out], rfl⟩
          · have HE := Lib.hid (show bk = false by rw [HBK.out]; exact decide_eq_false (by omega))
            go_wp2_with fail
            go_meet
            exact ⟨by rw [HE.out], rfl⟩
        case rest =>
          obtain ⟨rfl, hwc⟩ := hcut
          subst hwc
          obtain ⟨wo, hwo⟩ : ∃ wo, wo = wc := ⟨_, rfl⟩
          subst hwo
          go_upto_if 92 with fail
          go_cut [] (fun wx => Hid (∃ B' k' cb', ∃ ts' : List Tg, NSt w1 w2.heap.size s m A2 n ca2 (flatD m.vals) B' k' cb' (flat ts') wx ∧ (∀ t, t ∈ ts' ↔ t ∈ m.tags) ∧ (ts'.length ≤ 32 ∨ ts'.length ≤ m.tags.length) ∧ ts'.length ≤ 200))
          case first =>
            cases bk
            · go_wp2_with fail
              go_meet
              exact Lib.hid ⟨B2, k, cb2, ps, HN.out, hM'.out, .inr (by rw [hpl, ← (HB1.out.m (.head _)).tlen]; exact Nat.le_refl _), by omega⟩
            · obtain ⟨hk1, hk2⟩ := of_decide_eq_true HBK.out.symm
              have g1 : (0 : Int) < (k : Int) := by omega
              have g2 : (k : Int) < 32 := by omega
              obtain ⟨ab, hab⟩ : ∃ a, B2 = some a := by
                cases hB : B2 with
                | none => have := own_none (hB ▸ HN.out.tags); omega
                | some a => exact ⟨a, rfl⟩
              subst hab
              obtain ⟨k1, -, -, -⟩ := held_of HN.out.tags
              obtain ⟨g, off2, sp⟩ := ab
              injection k1 with kx k1 k6
              subst k1 k6
              clear kx
              obtain ⟨p, hp, ep, yp1, yp2⟩ := place_of x hk1
              have a1 : wrap64 (x.tmod (k : Int) + (k : Int)) = x.tmod (k : Int) + (k : Int) := IntWalk.wrap64_in _ (by omega)
              have hwr : IntKind.i64.wrap (x.tmod (k : Int) + (k : Int)) = x.tmod (k : Int) + (k : Int) := IntWalk.i64_in _ (by omega)
              have nk : ¬ (k : Int) = 0 := by omega
              have nk' : ¬ k = 0 := by omega
              have lp : p < ps.length := by omega
              have gp : (p : Int) < (k : Int) := by omega
              have gp0 : (0 : Int) ≤ (p : Int) := by omega
              have t4 : wo.cell? ⟨w2.heap.size, 4, none⟩ = some (.slice (some ⟨g, 0, none⟩) k cb2) := HN.out.box.cell 4
              have x0 : wo.cell? ⟨w.heap.size + 1, 0, none⟩ = some (.int .i64 x) := (HB1.out.next HN.out.kept).cell (.head _) rfl
              obtain ⟨b1, o1, s1, t1, eT, c0, c1, hs1, ht1⟩ := (Tags.of_own HN.out.tags).get lp
              injection eT with eT
              injection eT with eT1 eT2
              subst eT1 eT2
              rw [Nat.zero_add] at c0 c1
              have HST := Lib.hid (And.intro hs1 ht1)
              have HC0 := Lib.hid hs1.eq.symm
              have HC1 := Lib.hid ht1.eq.symm
              have HM := Lib.hid (And.intro (fun t => show t ∈ ps ++ [ps[p]] ↔ t ∈ m.tags by
                rw [List.mem_append, List.mem_singleton, ← hM'.out t]
                exact ⟨fun h => h.elim id fun e => e ▸ List.getElem_mem lp, .inl⟩) (And.intro (show (ps ++ [ps[p]]).length ≤ 32 ∨ (ps ++ [ps[p]]).length ≤ m.tags.length by left; simp; omega) (show (ps ++ [ps[p]]).length ≤ 200 by simp; omega)))
              clear hs1 ht1 yp1 yp2
              go_upto_region 14 with fail
              have HNa := Lib.hid (HN.out.drew.next (m_below wo.drew (.cells #[.string s1, .string t1] 33)))
              have HTa := Lib.hid (tags_at (w := wo.drew) (n := wo.heap.size) rfl HST.out.1 HST.out.2)
              have ng1 : g < wo.heap.size := cell_lt c0
              have ng2 : w2.heap.size < wo.heap.size := cell_lt t4
              have ng3 : w.heap.size + 1 < wo.heap.size := cell_lt x0
              clear HN
              go_region_law (refine step_append_tags _ rfl (.tmp 94) (.tmp 107) rfl w1.heap.size (.slice (some ⟨g, 0, none⟩) k cb2) k ps rfl HNa.out.tags (some ⟨wo.heap.size, 0, none⟩) 1 1 [ps[p]] rfl rfl HTa.out (by omega) HNa.out.kept.size ?_; intro v' w' hown hgr hob; obtain ⟨B', cb', e0⟩ := own_sl hown; subst e0; have HG := Lib.hid (HNa.out.grow4 hgr hown); have hbx : Box w' w2.heap.size 25 [.string s, .int .i64 m.kind, .slice A2 n ca2, .int .i64 m.rate, .slice (some ⟨g, 0, none⟩) k cb2, .int .i64 m.time] := (hgr.block _ HNa.out.box.lt fun hc => own_box HNa.out.tags HNa.out.box (by decide) _ hc.symm rfl).trans HNa.out.box; have t4' : w'.cell? ⟨w2.heap.size, 4, none⟩ = some (.slice (some ⟨g, 0, none⟩) k cb2) := hbx.cell 4; have f4 := hbx.frozen 4; clear hown hgr hob hbx)
              all_goals
                as_aux_lemma =>
                  go_wp2_with fail
                  go_meet
                  exact Lib.hid ⟨B', k + 1, cb', ps ++ [ps[p]], HG.out, HM.out.1, HM.out.2.1, HM.out.2.2⟩
          case rest =>
            obtain ⟨B', k', cb', ts', hN', hm1, hm2, hm3⟩ := hcut.out
            clear HN hcut hpl hM' HBK
            have HN := Lib.hid hN'
            have HM := Lib.hid (And.intro hm1 (And.intro hm2 hm3))
            obtain ⟨wq, hwq⟩ : ∃ wq, wq = wc := ⟨_, rfl⟩
            subst hwq
            clear hN' hm1 hm2 hm3
            have hb := HB1.out.next HN.out.kept
            obtain ⟨c0, c1, c2, c3, c4, c5⟩ := hb.six (.tail _ (.head _))
            have HB10 := Lib.hid hb.rebase
            clear hb
            go_wp2_with fail
            refine (HB10.out.normal_ (.head _) HX.out.1 HX.out.2.1 HX.out.2.2 _ _).mono ?_
            rintro e w11 ⟨s1, A1, n1, ca1, B1, k1, cb1, rfl, hb⟩
            have hb2 := hb.lay (.string s1) (.int .i64 m'.kind) (.slice A1 n1 ca1) (.int .i64 m'.rate) (.slice B1 k1 cb1) (.int .i64 m'.time)
            have hN1 := HN.out.next hb2.kept
            have HN1 := Lib.hid hN1
            clear c0 c1 c2 c3 c4 c5
            obtain ⟨c0, c1, c2, c3, c4, c5⟩ := hb2.six (.tail _ (.tail _ (.head _)))
            have n0 := hN1.box.cell 0
            have n1' := hN1.box.cell 1
            have n2 := hN1.box.cell 2
            have n3 := hN1.box.cell 3
            have n4 := hN1.box.cell 4
            have n5 := hN1.box.cell 5
            simp only [List.getElem?_cons_zero, List.getElem?_cons_succ] at n0 n1' n2 n3 n4 n5
            have hz2 : Small { m with vals := m.vals, tags := ts' } := HX.out.1.part HM.out.1 HM.out.2.2 (fun d hd => hd) rfl
            have HE := Lib.hid (fun (c : Bool) (hc : decide (q = 0) = c) => Kb.same_ (x := c) (hb2.mAdd hN1.mis) (.tail _ (.tail _ (.head _))) (.head _) HX.out.1 hz2 (by rw [same_tags HM.out.1 HM.out.2.1, HX.out.2.1]; exact hc) ca cb ca2 cb')
            have HB11 := Lib.hid hb2
            have HBw := Lib.hid (below_then HB1.out.kept HN.out.kept)
            clear hb hb2 HB10 hN1 hz2 HN1
            by_cases hq0 : q = 0
            · have HQ0 := Lib.hid hq0
              have gq : (q == 0) = true := by simpa using hq0
              clear hq0
              go_wp2_with fail
              refine (HE.out true (decide_eq_true HQ0.out)).mono ?_
              rintro e w12 ⟨rfl, hb⟩
              clear c0 c1 c2 c3 c4 c5 n0 n1' n2 n3 n4 n5
              have hN2 := HN.out.next hb.kept
              obtain ⟨c0, c1, c2, c3, c4, c5⟩ := hb.six (.tail _ (.tail _ (.head _)))
              have y1 : w12.cell? ⟨w.heap.size + 1, 1, none⟩ = some (.int .i64 y) := hb.cell (.tail _ (.head _)) rfl
              have y2 : w12.cell? ⟨w.heap.size + 1, 2, none⟩ = some (.int .i64 z) := hb.cell (.tail _ (.head _)) rfl
              have n2 : w12.cell? ⟨w2.heap.size, 2, none⟩ = some (.slice A2 n ca2) := hN2.box.cell 2
              have HB12 := Lib.hid hb
              have HN2 := Lib.hid hN2
              clear hb hN2 HN HE HB11
              by_cases h2 : (n : Int) < 2
              · go_wp2_with fail
                refine HB12.out.awake_.mono ?_
                rintro e w13 ⟨rfl, hb⟩
                have HB13 := Lib.hid hb
                clear hb
                go_wp2_with fail
                go_ret
                exact ⟨rfl, below_then HBw.out HB13.out.kept⟩
              · have hn0 : 0 < n := by omega
                have gn0 : (0 : Int) < (n : Int) := by omega
                obtain ⟨a, ha, ea, ya1, ya2⟩ := place_of y hn0
                obtain ⟨b, hb, eb, yb1, yb2⟩ := place_of z hn0
                have a1 : wrap64 (y.tmod (n : Int) + (n : Int)) = y.tmod (n : Int) + (n : Int) := IntWalk.wrap64_in _ (by omega)
                have a2 : wrap64 (z.tmod (n : Int) + (n : Int)) = z.tmod (n : Int) + (n : Int) := IntWalk.wrap64_in _ (by omega)
                have hvl := (HB1.out.m (.head _)).vlen
                have la : a < m.vals.length := by omega
                have lb : b < m.vals.length := by omega
                obtain ⟨ab, hab⟩ : ∃ a, A2 = some a := by
                  cases hB : A2 with
                  | none => have := own_none (hB ▸ HN2.out.vals); omega
                  | some a => exact ⟨a, rfl⟩
                subst hab
                obtain ⟨k1, kb, _, _⟩ := held_of HN2.out.vals
                obtain ⟨gv, off2, sp⟩ := ab
                injection k1 with _ k1 k6
                subst k1 k6
                obtain ⟨b1, o1, p1, x1, z1, eT, d0, d1, d2, hd1⟩ := (Decs.of_own HN2.out.vals).get la
                injection eT with eT
                injection eT with eT1 eT2
                subst eT1 eT2
                obtain ⟨b1, o1, p2, x2, z2, eT, e0, e1, e2, hd2⟩ := (Decs.of_own HN2.out.vals).get lb
                injection eT with eT
                injection eT with eT1 eT2
                subst eT1 eT2
                rw [Nat.zero_add] at d0 d1 d2 e0 e1 e2
                have HST := Lib.hid (And.intro hd1 hd2)
                have ga : (a : Int) < (n : Int) := by omega
                have gb : (b : Int) < (n : Int) := by omega
                have ga0 : (0 : Int) ≤ (a : Int) := by omega
                have gb0 : (0 : Int) ≤ (b : Int) := by omega
                have fa0 := own_frozen HN2.out.vals (a * 3)
                have fa1 := own_frozen HN2.out.vals (a * 3 + 1)
                have fa2 := own_frozen HN2.out.vals (a * 3 + 2)
                have fb0 := own_frozen HN2.out.vals (b * 3)
                have fb1 := own_frozen HN2.out.vals (b * 3 + 1)
                have fb2 := own_frozen HN2.out.vals (b * 3 + 2)
                have ng : w2.heap.size ≠ gv := own_box HN2.out.vals HN2.out.box (by decide) gv rfl
                have ng' : gv ≠ w2.heap.size := fun e => ng e.symm
                have nc : w.heap.size ≠ gv := by have := HB1.out.lt (.tail _ (.head _)); have := kb; omega
                have nc' : gv ≠ w.heap.size := fun e => nc e.symm
                clear ya1 ya2 yb1 yb2 hd1 hd2 kb
                go_upto_region 23 with fail
                clear a1 a2 y1 y2 ea eb
                go_cut [] (fun wx => Hid (NSt w1 w2.heap.size s m (some ⟨gv, 0, none⟩) n ca2 (flatD (swp m.vals a b m.vals[a] m.vals[b])) B' k' cb' (flat ts') wx))
                case first =>
                  by_cases hab : a = b
                  · subst hab
                    have q0 := d0.symm.trans e0
                    have q1 := d1.symm.trans e1
                    have q2 := d2.symm.trans e2
                    injection q0 with q0
                    injection q0 with q0
                    injection q1 with q1
                    injection q1 with _ q1
                    injection q2 with q2
                    injection q2 with _ q2
                    subst q0 q1 q2
                    clear e0 e1 e2
                    go_region
                    all_goals
                      as_aux_lemma =>
                        go_wp2_with fail
                        go_meet
                        exact Lib.hid (HN2.out.swapV la la HST.out.1 HST.out.1).drew
                  · have hab00 : a * 3 ≠ b * 3 := by omega
                    have hab01 : a * 3 ≠ b * 3 + 1 := by omega
                    have hab02 : a * 3 ≠ b * 3 + 2 := by omega
                    have hab10 : a * 3 + 1 ≠ b * 3 := by omega
                    have hab12 : a * 3 + 1 ≠ b * 3 + 2 := by omega
                    have hab20 : a * 3 + 2 ≠ b * 3 := by omega
                    have hab21 : a * 3 + 2 ≠ b * 3 + 1 := by omega
                    have hba00 : b * 3 ≠ a * 3 := by omega
                    have hba01 : b * 3 ≠ a * 3 + 1 := by omega
                    have hba02 : b * 3 ≠ a * 3 + 2 := by omega
                    have hba10 : b * 3 + 1 ≠ a * 3 := by omega
                    have hba12 : b * 3 + 1 ≠ a * 3 + 2 := by omega
                    have hba20 : b * 3 + 2 ≠ a * 3 := by omega
                    have hba21 : b * 3 + 2 ≠ a * 3 + 1 := by omega
                    go_region
                    all_goals
                      as_aux_lemma =>
                        go_wp2_with fail
                        go_meet
                        exact Lib.hid (HN2.out.swapV la lb HST.out.1 HST.out.2).drew
                case rest =>
                  have hN3 := hcut.out
                  clear HN2 HST d0 d1 d2 e0 e1 e2 fa0 fa1 fa2 fb0 fb1 fb2 n2 c0 c1 c2 c3 c4 c5 ng ng' nc nc'
                  have hb := HB1.out.next hN3.kept
                  obtain ⟨c0, c1, c2, c3, c4, c5⟩ := hb.six (.tail _ (.head _))
                  obtain ⟨bA, oA, p3, x3, z3, eA, v0, v1, v2, hd3⟩ := (hb.m (.head _)).vals.get la
                  obtain ⟨bB, oB, p4, x4, z4, eB, w0, w1', w2', hd4⟩ := (hb.m (.head _)).vals.get lb
                  rw [eA] at eB c2
                  injection eB with eB
                  injection eB with eB1 eB2
                  subst eB1 eB2
                  have nb : bA < wc.heap.size := cell_lt v0
                  have ncw : w.heap.size < wc.heap.size := hb.lt (.tail _ (.head _))
                  have nb1 : bA < wc.heap.size + 1 := by omega
                  have nb2 : bA < wc.heap.size + 1 + 1 := by omega
                  have nb3 : bA < wc.heap.size + 1 + 1 + 1 := by omega
                  have ncw1 : w.heap.size < wc.heap.size + 1 := by omega
                  have ncw2 : w.heap.size < wc.heap.size + 1 + 1 := by omega
                  have ncw3 : w.heap.size < wc.heap.size + 1 + 1 + 1 := by omega
                  have HN3 := Lib.hid hN3
                  have HBk := Lib.hid hb
                  have HD := Lib.hid (And.intro hd3 (And.intro hd4 eA))
                  clear hN3 hb hd3 hd4 hcut
                  go_wp2_with fail
                  clear c0 c1 c2 c3 c4 c5 v0 v1 v2 w0 w1' w2' nb nb1 nb2 nb3 ncw ncw1 ncw2 ncw3
                  have hb4 := (((HBk.out.push 25 [.string s, .int .i64 m.kind, .slice (some ⟨wc.heap.size + 1 + 1, 0, none⟩) 1 1, .int .i64 m.rate, .slice B k cb, .int .i64 m.time]).push 25 [.string s, .int .i64 m.kind, .slice (some ⟨wc.heap.size + 1 + 1 + 1, 0, none⟩) 1 1, .int .i64 m.rate, .slice B k cb, .int .i64 m.time]).push 39 [.bool p3, .int .u64 x3, .int .i64 z3]).push 39 [.bool p4, .int .u64 x4, .int .i64 z4]
                  simp only [size_alloc] at hb4
                  have dA := ((decs_at (w := ((wc.alloc (.cells #[.string s, .int .i64 m.kind, .slice (some ⟨wc.heap.size + 1 + 1, 0, none⟩) 1 1, .int .i64 m.rate, .slice B k cb, .int .i64 m.time] 25)).alloc (.cells #[.string s, .int .i64 m.kind, .slice (some ⟨wc.heap.size + 1 + 1 + 1, 0, none⟩) 1 1, .int .i64 m.rate, .slice B k cb, .int .i64 m.time] 25))) (by rw [size_alloc, size_alloc]) HD.out.1).alloc (.cells #[.bool p4, .int .u64 x4, .int .i64 z4] 39))
                  have dB := (decs_at (w := (((wc.alloc (.cells #[.string s, .int .i64 m.kind, .slice (some ⟨wc.heap.size + 1 + 1, 0, none⟩) 1 1, .int .i64 m.rate, .slice B k cb, .int .i64 m.time] 25)).alloc (.cells #[.string s, .int .i64 m.kind, .slice (some ⟨wc.heap.size + 1 + 1 + 1, 0, none⟩) 1 1, .int .i64 m.rate, .slice B k cb, .int .i64 m.time] 25)).alloc (.cells #[.bool p3, .int .u64 x3, .int .i64 z3] 39))) (by rw [size_alloc, size_alloc, size_alloc]) HD.out.2.1)
                  have hn4 := HN3.out.next (below_then (below_then (below_then (m_below wc (.cells #[.string s, .int .i64 m.kind, .slice (some ⟨wc.heap.size + 1 + 1, 0, none⟩) 1 1, .int .i64 m.rate, .slice B k cb, .int .i64 m.time] 25)) (m_below _ (.cells #[.string s, .int .i64 m.kind, .slice (some ⟨wc.heap.size + 1 + 1 + 1, 0, none⟩) 1 1, .int .i64 m.rate, .slice B k cb, .int .i64 m.time] 25))) (m_below _ (.cells #[.bool p3, .int .u64 x3, .int .i64 z3] 39))) (m_below _ (.cells #[.bool p4, .int .u64 x4, .int .i64 z4] 39)))
                  have hmm := hb4.m (.head _)
                  have hm1 : MIs _ s (some ⟨wc.heap.size + 1 + 1, 0, none⟩) 1 B k (oneM m m.vals[a]) := ⟨hmm.name, rfl, dA, hmm.tlen, hmm.tags⟩
                  have hm2 : MIs _ s (some ⟨wc.heap.size + 1 + 1 + 1, 0, none⟩) 1 B k (oneM m m.vals[b]) := ⟨hmm.name, rfl, dB, hmm.tlen, hmm.tags⟩
                  have hb5 := ((hb4.mAdd hn4.mis).mAdd hm1).mAdd hm2
                  obtain ⟨r, hr⟩ : ∃ r, sameM (oneM m m.vals[a]) (oneM m m.vals[b]) = r := ⟨_, rfl⟩
                  have hr' := (same_vals (HX.out.2.1.trans HQ0.out) HM.out.1 HM.out.2.1 la lb).trans hr
                  have hz2 : Small { m with vals := swp m.vals a b m.vals[a] m.vals[b], tags := ts' } := HX.out.1.part HM.out.1 HM.out.2.2 (fun d hd => (swp_mem la lb d).1 hd) (swp_length _ _ _ _ _)
                  have Q0 := Lib.hid (fun d os => hb5.sameq (.tail _ (.tail _ (.tail _ (.head _)))) (.tail _ (.tail _ (.head _))) HX.out.1 hz2 hr' ca cb ca2 cb' d os)
                  have Q1 := Lib.hid (fun d os => hb5.same1q (.tail _ (.head _)) (.head _) (HX.out.1.one (List.getElem_mem la)) (HX.out.1.one (List.getElem_mem lb)) hr 1 cb 1 cb d os)
                  have Q2 := Lib.hid (fun d os => hb5.awakeq d os)
                  obtain ⟨c0, c1, c2, c3, c4, c5⟩ := hb5.sixq (.tail _ (.tail _ (.tail _ (.tail _ (.tail _ (.head _))))))
                  obtain ⟨o0, o1, o2, o3, o4, o5⟩ := hb5.sixq (.tail _ (.tail _ (.tail _ (.head _))))
                  obtain ⟨t0, t1, t2, t3, t4, t5⟩ := hb5.sixq (.tail _ (.tail _ (.head _)))
                  have hbn := hn4.box
                  have n0 := cell_regrown (hbn.cell 0)
                  have n1' := cell_regrown (hbn.cell 1)
                  have n2 := cell_regrown (hbn.cell 2)
                  have n3 := cell_regrown (hbn.cell 3)
                  have n4 := cell_regrown (hbn.cell 4)
                  have n5 := cell_regrown (hbn.cell 5)
                  have HB5 := Lib.hid hb5
                  have HeA := Lib.hid HD.out.2.2
                  rw [HeA.out] at Q0 c2
                  clear hb4 dA dB hn4 hmm hm1 hm2 hb5 hr hr' hz2 hbn
                  refine wp_region_quiet_below (by kernel_rfl) (by kernel_rfl) ?_
                  repeat (go_big_quiet_step (first | with_reducible exact Q0.out _ _ | with_reducible exact Q1.out _ _ | with_reducible exact Q2.out _ _))
                  refine wpQuiet_nil ?_
                  rintro _ ⟨⟨dq, osq⟩, rfl⟩
                  clear c0 c1 c2 c3 c4 c5 o0 o1 o2 o3 o4 o5 t0 t1 t2 t3 t4 t5 n0 n1' n2 n3 n4 n5 Q0 Q1 Q2
                  have HB6 := Lib.hid (HB5.out.next (below_regrown _ dq osq))
                  clear HB5
                  go_wp2_with fail
                  go_ret
                  refine ⟨?_, HB6.out.kept⟩
                  simp
            · have gq : (q == 0) = false := by simpa using hq0
              go_wp2_with fail
              refine (HE.out false (decide_eq_false hq0)).mono ?_
              rintro e w12 ⟨rfl, hb⟩
              clear c0 c1 c2 c3 c4 c5 n0 n1' n2 n3 n4 n5
              have hN2 := HN.out.next hb.kept
              have n2 : w12.cell? ⟨w2.heap.size, 2, none⟩ = some (.slice A2 n ca2) := hN2.box.cell 2
              have HB12 := Lib.hid hb
              clear hb hN2 HN HE HB11
              go_wp2_with fail
              refine HB12.out.awake_.mono ?_
              rintro e w13 ⟨rfl, hb⟩
              have HB13 := Lib.hid hb
              clear hb
              go_wp2_with fail
              go_ret
              exact ⟨rfl, below_then HBw.out HB13.out.kept⟩
      
end
end Go.Proofs.Ytikdolgcdkmmaaa
