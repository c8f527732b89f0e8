/-
  The walk of DogPieces. No statement of the seat is proved here.
-/
import Derived.Test.YtbcmchkgamkceaaGreatDoorOgPiecesM
namespace Go.Proofs.YtbcmchkgamkceaaGreatDoor
open Go.RowKit
open Dc (D D0)

set_option maxRecDepth 100000 in
set_option maxHeartbeats 8000000 in
theorem opieces_walk {w : World} {s : ByteArray} {A B : Option Addr} {n k ca cb : Nat} {m : Mt} (h : MIs w s A n B k m) (hf : ∀ d ∈ m.vals, d.Fits) (z : Int) (ht : Tab w) :
    Calls Tryz.prog 7 #[mV s m.kind A n ca m.rate B k cb m.time, .int .i64 z] w fun e w' => e = .returned (.bool true) ∧ Below w.heap.size w w' := by
  obtain ⟨q, hq⟩ : ∃ q, fewM m = q := ⟨_, rfl⟩
  have HZ := Lib.hid (fun (e : q = true) => few_small (hq.trans e) hf)
  have HQ := Lib.hid hq
  have HB := Lib.hid (Kb.enter (ca := ca) (cb := cb) h)
  have HT := Lib.hid ht
  unfold mV
  clear hq h hf ht
  obtain ⟨c0, c1, c2, c3, c4, c5⟩ := HB.out.six (.head _)
  go_enter Tryz.func7, Tryz.ntmps7
  go_wp2_with fail
  refine (HB.out.few_ (.head _) HQ.out _ _).mono ?_
  rintro e w1 ⟨rfl, hb⟩
  have HB1 := Lib.hid hb
  clear hb HB c0 c1 c2 c3 c4 c5
  cases q
  · go_wp2_with fail
    refine (HB1.out.awake11_ HT.out).mono ?_
    rintro e w2 ⟨rfl, hb⟩
    have HB2 := Lib.hid hb
    clear hb HB1
    go_wp2_with fail
    go_ret
    exact ⟨rfl, HB2.out.kept⟩
  have HS := Lib.hid (HZ.out rfl)
  clear HZ
  obtain ⟨c, hc⟩ : ∃ c, codeM m = c := ⟨_, rfl⟩
  obtain ⟨m', hm'⟩ : ∃ m', nM m = m' := ⟨_, rfl⟩
  have HC := Lib.hid (And.intro hc hm')
  clear hc hm'
  obtain ⟨c0, c1, c2, c3, c4, c5⟩ := HB1.out.six (.head _)
  go_wp2_with fail
  refine (HB1.out.nroom_ (.head _) HS.out HC.out.1 HC.out.2 _ _).mono ?_
  rintro e w2 ⟨s2, A2, n2, ca2, B2, k2, cb2, rfl, hb, hro⟩
  clear c0 c1 c2 c3 c4 c5
  by_cases hc0 : c = 0
  rotate_left
  · have hcb : (c != 0) = true := by simpa using hc0
    have hm0 : m' = M0 := by rw [← HC.out.2]; exact nM_no (by rw [HC.out.1]; exact hc0)
    subst hm0
    simp only [show M0.kind = 0 from rfl, show M0.rate = 0 from rfl, show M0.time = 0 from rfl]
    have HB2 := Lib.hid ((hb.lay (.string s2) (.int .i64 0) (.slice A2 n2 ca2) (.int .i64 0) (.slice B2 k2 cb2) (.int .i64 0)).mAdd (mis0 _ none none))
    clear hb HB1
    have HE := Lib.hid (HB2.out.equal_ (.tail _ (.head _)) (.head _) small00 (decide_eq_true rfl) ca2 cb2 0 0)
    simp only [show M0.kind = 0 from rfl, show M0.rate = 0 from rfl, show M0.time = 0 from rfl] at HE
    obtain ⟨c0, c1, c2, c3, c4, c5⟩ := HB2.out.six (.head _)
    go_wp2_with fail
    refine HE.out.mono ?_
    rintro e w3 ⟨rfl, hb⟩
    have HB3 := Lib.hid hb
    clear hb HB2 HE c0 c1 c2 c3 c4 c5
    go_wp2_with fail
    refine (HB3.out.awake11_ HT.out).mono ?_
    rintro e w4 ⟨rfl, hb⟩
    have HB4 := Lib.hid hb
    clear hb HB3
    go_wp2_with fail
    go_ret
    exact ⟨rfl, HB4.out.kept⟩
  subst hc0
  have hR := nM_right HC.out.1
  rw [HC.out.2] at hR
  have HR := Lib.hid (And.intro hR.1 (And.intro hR.2 hro))
  clear hR hro
  have hm2 := hb.m (.head _)
  have hb3 := (((hb.push 35 [.string s2, .int .i64 m'.kind, .slice A2 n2 ca2, .int .i64 m'.rate, .slice B2 k2 cb2, .int .i64 m'.time]).pushAt (g := w2.heap.size + 1) (by rw [size_alloc]) 35 [.string s2, .int .i64 m'.kind, .slice A2 n2 ca2, .int .i64 1000000, .slice none 0 0, .int .i64 0]).mAdd (s := s2) (A := A2) (B := none) (n := n2) (k := 0) (m := bareM m') ⟨hm2.name, hm2.vlen, (hm2.vals.keep (m_below _ _)).keep (m_below _ _), rfl, Tags.nil⟩)
  have HB3 := Lib.hid (And.intro hb3 (Nat.le_trans hb.kept.size (Nat.le_succ _)))
  clear hb hm2 hb3 HB1
  obtain ⟨ls, hls⟩ : ∃ l, lineD (bareM m') = l := ⟨_, rfl⟩
  have hbare := HR.out.1.bare
  have hlen := bare_len hbare rfl rfl rfl
  have hown := hbare.nM_ rfl
  have HL0 := Lib.hid (show Small (bareM m') ∧ lineO (bareM m') = ls ∧ codeM (bareM m') = 0 from ⟨hbare.small, by rw [lineO_right hown.1, hown.2, hls], hown.1⟩)
  have p1 := hbare.self rfl
  have p2 := bare_one hbare rfl rfl rfl
  have p3 := bare_ones hbare rfl rfl rfl
  have p4 := bare_turned hbare rfl rfl rfl
  have p5 := bare_turned2 hbare rfl rfl rfl
  have p6 := bare_empty hbare rfl rfl rfl
  rw [hls] at p1 p2 p3 p4 p5 p6 hlen
  have HP := Lib.hid (And.intro p1 (And.intro p2 (And.intro p3 (And.intro p4 (And.intro p5 p6)))))
  clear hbare hown p1 p2 p3 p4 p5 p6
  obtain ⟨u, hu⟩ : ∃ u : ByteArray, (⟨ls.toArray⟩ : ByteArray) = u := ⟨_, rfl⟩
  have hus : Str u ls := by rw [← hu]; exact Str.mk _
  have hsz : (u.size : Int) = (ls.length : Int) := by rw [hus.size]
  have HU := Lib.hid (And.intro hus (And.intro hls hlen))
  clear hus hls
  go_upto_region 10 with fail
  have HLN := Lib.hid (HB3.out.1.oline_ (.head _) HL0.out.1 HT.out HL0.out.2.1 HL0.out.2.2 ca2 0)
  simp only [show (bareM m').kind = m'.kind from rfl, show (bareM m').rate = 1000000 from rfl, show (bareM m').time = 0 from rfl] at HLN
  rw [hu] at HLN
  clear hu
  obtain ⟨c0, c1, c2, c3, c4, c5⟩ := HB3.out.1.six (.head _)
  generalize World.alloc _ (.cells #[.string s2, .int .i64 m'.kind, .slice A2 n2 ca2, .int .i64 1000000, .slice none 0 0, .int .i64 0] 35) = W3 at HB3 HLN c0 c1 c2 c3 c4 c5 ⊢
  go_wp2_with fail
  refine HLN.out.mono ?_
  rintro e w4 ⟨rfl, hb⟩
  have HG := Lib.hid HB3.out.2
  have HB4 := Lib.hid hb
  clear hb HB3 HLN c0 c1 c2 c3 c4 c5
  go_wp2_with fail
  refine (HB4.out.oparse_ HU.out.1 (by have := HU.out.2.2; omega) HP.out.1).mono ?_
  rintro e w5 ⟨s5, A5, n5, ca5, B5, k5, cb5, rfl, hb⟩
  simp only [show (bareM m').kind = m'.kind from rfl, show (bareM m').rate = 1000000 from rfl, show (bareM m').time = 0 from rfl]
  have HB5 := Lib.hid (hb.olay2 (.string s5) (.int .i64 m'.kind) (.slice A5 n5 ca5) (.int .i64 1000000) (.slice B5 k5 cb5) (.int .i64 0) (.int .i64 0) (.int .i64 0))
  clear hb HB4
  go_wp2_with fail
  refine (HB5.out.oparse_ (Str.append HU.out.1 (Str.mk [124, 64, 49])) (by have := HU.out.2.2; simp; omega) HP.out.2.1).mono ?_
  rintro e w6 ⟨s6, A6, n6, ca6, B6, k6, cb6, rfl, hb⟩
  simp only [show (bareM m').kind = m'.kind from rfl, show (bareM m').rate = 1000000 from rfl, show (bareM m').time = 0 from rfl]
  have HB6 := Lib.hid (hb.olay2 (.string s6) (.int .i64 m'.kind) (.slice A6 n6 ca6) (.int .i64 1000000) (.slice B6 k6 cb6) (.int .i64 0) (.int .i64 0) (.int .i64 0))
  clear hb HB5
  go_wp2_with fail
  refine (HB6.out.oparse_ (Str.append HU.out.1 (Str.mk [124, 64, 49, 124, 64, 49])) (by have := HU.out.2.2; simp; omega) HP.out.2.2.1).mono ?_
  rintro e w7 ⟨s7, A7, n7, ca7, B7, k7, cb7, rfl, hb⟩
  simp only [show M0.kind = 0 from rfl, show M0.rate = 0 from rfl, show M0.time = 0 from rfl]
  have HB7 := Lib.hid (hb.olayF (.string s7) (.int .i64 0) (.slice A7 n7 ca7) (.int .i64 0) (.slice B7 k7 cb7) (.int .i64 0) (.int .i64 11) (.int .i64 ((ls.length : Int) + 4)))
  clear hb HB6
  go_wp2_with fail
  refine (HB7.out.oparse_ (Str.append HU.out.1 (Str.mk [124, 84, 53, 124, 35, 97])) (by have := HU.out.2.2; simp; omega) HP.out.2.2.2.1).mono ?_
  rintro e w8 ⟨s8, A8, n8, ca8, B8, k8, cb8, rfl, hb⟩
  simp only [show M0.kind = 0 from rfl, show M0.rate = 0 from rfl, show M0.time = 0 from rfl]
  have HB8 := Lib.hid (hb.olayF (.string s8) (.int .i64 0) (.slice A8 n8 ca8) (.int .i64 0) (.slice B8 k8 cb8) (.int .i64 0) (.int .i64 11) (.int .i64 ((ls.length : Int) + 4)))
  clear hb HB7
  go_wp2_with fail
  refine (HB8.out.oparse_ (Str.append HU.out.1 (Str.mk [124, 35, 97, 124, 64, 49])) (by have := HU.out.2.2; simp; omega) HP.out.2.2.2.2.1).mono ?_
  rintro e w9 ⟨s9, A9, n9, ca9, B9, k9, cb9, rfl, hb⟩
  simp only [show M0.kind = 0 from rfl, show M0.rate = 0 from rfl, show M0.time = 0 from rfl]
  have HB9 := Lib.hid (hb.olayF (.string s9) (.int .i64 0) (.slice A9 n9 ca9) (.int .i64 0) (.slice B9 k9 cb9) (.int .i64 0) (.int .i64 11) (.int .i64 ((ls.length : Int) + 4)))
  clear hb HB8
  go_wp2_with fail
  refine (HB9.out.oparse_ (Str.append HU.out.1 (Str.mk [124])) (by have := HU.out.2.2; simp; omega) HP.out.2.2.2.2.2).mono ?_
  rintro e w10 ⟨s10, A10, n10, ca10, B10, k10, cb10, rfl, hb⟩
  simp only [show M0.kind = 0 from rfl, show M0.rate = 0 from rfl, show M0.time = 0 from rfl]
  have HB10 := Lib.hid (hb.olayF (.string s10) (.int .i64 0) (.slice A10 n10 ca10) (.int .i64 0) (.slice B10 k10 cb10) (.int .i64 0) (.int .i64 11) (.int .i64 ((ls.length : Int) + 1)))
  clear hb HB9
  go_upto_region 19 with fail
  have HE := Lib.hid (HB10.out.equal_ (.tail _ (.head _)) (.tail _ (.tail _ (.head _))) HL0.out.1 (decide_eq_true rfl) ca5 cb5 ca2 0)
  simp only [show (bareM m').kind = m'.kind from rfl, show (bareM m').rate = 1000000 from rfl, show (bareM m').time = 0 from rfl] at HE
  obtain ⟨a0, a1, a2, a3, a4, a5⟩ := HB10.out.six (g := w5.heap.size) (.tail _ (.tail _ (.tail _ (.tail _ (.tail _ (.tail _ (.tail _ (.head _))))))))
  obtain ⟨b0, b1, b2, b3, b4, b5⟩ := HB10.out.six (g := w2.heap.size + 1) (.tail _ (.tail _ (.tail _ (.tail _ (.tail _ (.tail _ (.tail _ (.tail _ (.head _)))))))))
  have f0 := HB10.out.cell (g := w5.heap.size + 1) (i := 0) (.tail _ (.tail _ (.tail _ (.tail _ (.tail _ (.tail _ (.head _))))))) rfl
  have f1 := HB10.out.cell (g := w5.heap.size + 1) (i := 1) (.tail _ (.tail _ (.tail _ (.tail _ (.tail _ (.tail _ (.head _))))))) rfl
  have g0 := HB10.out.cell (g := w6.heap.size + 1) (i := 0) (.tail _ (.tail _ (.tail _ (.tail _ (.head _))))) rfl
  have g1 := HB10.out.cell (g := w6.heap.size + 1) (i := 1) (.tail _ (.tail _ (.tail _ (.tail _ (.head _))))) rfl
  have q1 := fun w => fne_run (x := 0) (y := 0) (u := 0) (v := 0) (q := true) (by decide) w
  have hg := fguard
  generalize World.alloc _ (.cells #[.int .i64 11, .int .i64 ((ls.length : Int) + 1)] 42) = W10 at HB10 HE a0 a1 a2 a3 a4 a5 b0 b1 b2 b3 b4 b5 f0 f1 g0 g1 ⊢
  go_wp2_with fail
  refine HE.out.mono ?_
  rintro e w11 ⟨rfl, hb⟩
  have HB11 := Lib.hid hb
  clear hb HB10 HE a0 a1 a2 a3 a4 a5 b0 b1 b2 b3 b4 b5 f0 f1 g0 g1
  have HE := Lib.hid (HB11.out.equal_ (.head _) (.tail _ (.tail _ (.head _))) HL0.out.1 (decide_eq_true rfl) ca6 cb6 ca2 0)
  simp only [show (bareM m').kind = m'.kind from rfl, show (bareM m').rate = 1000000 from rfl, show (bareM m').time = 0 from rfl] at HE
  obtain ⟨a0, a1, a2, a3, a4, a5⟩ := HB11.out.six (g := w6.heap.size) (.tail _ (.tail _ (.tail _ (.tail _ (.tail _ (.head _))))))
  obtain ⟨b0, b1, b2, b3, b4, b5⟩ := HB11.out.six (g := w2.heap.size + 1) (.tail _ (.tail _ (.tail _ (.tail _ (.tail _ (.tail _ (.tail _ (.tail _ (.head _)))))))))
  go_wp2_with fail
  refine HE.out.mono ?_
  rintro e w12 ⟨rfl, hb⟩
  have HB12 := Lib.hid hb
  clear hb HB11 HE a0 a1 a2 a3 a4 a5 b0 b1 b2 b3 b4 b5
  have f0 := HB12.out.cell (g := w7.heap.size + 1) (i := 0) (.tail _ (.tail _ (.tail _ (.head _)))) rfl
  have f1 := HB12.out.cell (g := w7.heap.size + 1) (i := 1) (.tail _ (.tail _ (.tail _ (.head _)))) rfl
  have g0 := HB12.out.cell (g := w8.heap.size + 1) (i := 0) (.tail _ (.tail _ (.head _))) rfl
  have g1 := HB12.out.cell (g := w8.heap.size + 1) (i := 1) (.tail _ (.tail _ (.head _))) rfl
  have h0 := HB12.out.cell (g := w9.heap.size + 1) (i := 0) (.tail _ (.head _)) rfl
  have h1 := HB12.out.cell (g := w9.heap.size + 1) (i := 1) (.tail _ (.head _)) rfl
  have i0 := HB12.out.cell (g := w10.heap.size + 1) (i := 0) (.head _) rfl
  have i1 := HB12.out.cell (g := w10.heap.size + 1) (i := 1) (.head _) rfl
  have q4 := fun w => fne_run (x := 11) (y := (ls.length : Int) + 4) (u := 11) (v := (ls.length : Int) + 4) (q := true) (decide_eq_true rfl) w
  have q5 := fun w => fne_run (x := 11) (y := (ls.length : Int) + 1) (u := 11) (v := (ls.length : Int) + 1) (q := true) (decide_eq_true rfl) w
  have hlb : (ls.length : Int) ≤ 2800 := by omega
  go_upto_region 21 with fail
  have hk : Kb w [(w2.heap.size + 1, 35, [.string s2, .int .i64 m'.kind, .slice A2 n2 ca2, .int .i64 1000000, .slice none 0 0, .int .i64 0]), (w2.heap.size, 35, [.string s2, .int .i64 m'.kind, .slice A2 n2 ca2, .int .i64 m'.rate, .slice B2 k2 cb2, .int .i64 m'.time])] [(s2, A2, n2, none, 0, bareM m'), (s2, A2, n2, B2, k2, m')] w12 := HB12.out.subs (fun x hx => by
    rcases List.mem_cons.1 hx with rfl | hx
    · exact (.tail _ (.tail _ (.tail _ (.tail _ (.tail _ (.tail _ (.tail _ (.tail _ (.head _)))))))))
    · rcases List.mem_singleton.1 hx with rfl
      exact (.tail _ (.tail _ (.tail _ (.tail _ (.tail _ (.tail _ (.tail _ (.tail _ (.tail _ (.head _))))))))))) (fun x hx => by
    rcases List.mem_cons.1 hx with rfl | hx
    · exact (.tail _ (.tail _ (.head _)))
    · rcases List.mem_singleton.1 hx with rfl
      exact (.tail _ (.tail _ (.tail _ (.head _)))))
  have HK := Lib.hid hk
  obtain ⟨c0, c1, c2, c3, c4, c5⟩ := hk.six (g := w2.heap.size) (.tail _ (.head _))
  clear hk HB12 f0 f1 g0 g1 h0 h1 i0 i1 q4 q5
  have hk32 : k2 ≤ 32 := by have := HR.out.1.tags.1; have := (HK.out.m (.tail _ (.head _))).tlen; omega
  obtain ⟨j0, hj0⟩ : ∃ j0 : Nat, 0 < k2 → j0 < k2 ∧ (z.tmod (k2 : Int) + (k2 : Int)).tmod (k2 : Int) = j0 ∧ -(k2 : Int) < z.tmod (k2 : Int) ∧ z.tmod (k2 : Int) < k2 := by
    rcases Nat.eq_zero_or_pos k2 with h | h
    · exact ⟨0, fun x => absurd x (by omega)⟩
    · obtain ⟨a, ha⟩ := place_at z h
      exact ⟨a, fun _ => ha⟩
  have HJ := Lib.hid hj0
  clear hj0
  go_wp2_with fail
  go_loopw [21, 22] (fun v21 v22 wr => ∃ (i : Nat) (j : Int) (T : ByteArray), v21 = .string T ∧ v22 = .int .i64 j ∧ j = (i : Int) - 1 ∧ i ≤ k2 ∧ Hid (Kb w [(w2.heap.size + 1, 35, [.string s2, .int .i64 m'.kind, .slice A2 n2 ca2, .int .i64 1000000, .slice none 0 0, .int .i64 0]), (w2.heap.size, 35, [.string s2, .int .i64 m'.kind, .slice A2 n2 ca2, .int .i64 m'.rate, .slice B2 k2 cb2, .int .i64 m'.time])] [(s2, A2, n2, none, 0, bareM m'), (s2, A2, n2, B2, k2, m')] wr ∧ ∃ us, Str T (ls ++ 124 :: 35 :: (if i = 0 then textT us else commaT us)) ∧ (∀ x, x ∈ us ↔ x ∈ m'.tags.drop i) ∧ us.length + i ≤ k2 + (if k2 < 32 ∧ i ≤ j0 then 1 else 0))) (fun _ v22 _ => ((intOf v22) + 1).toNat)
  case atStart =>
    refine ⟨k2, _, _, rfl, rfl, by omega, Nat.le_refl _, ⟨HK.out, [], ?_, ?_, ?_⟩⟩
    · have := Str.append HU.out.1 (Str.mk [124, 35])
      rcases Nat.eq_zero_or_pos k2 with h | h
      · rw [if_pos h]; exact this
      · rw [if_neg (by omega)]; exact this
    · intro x
      rw [List.drop_of_length_le (by rw [(HK.out.m (.tail _ (.head _))).tlen]; exact Nat.le_refl _)]
    · simp
  case round =>
    obtain ⟨i, j, T, rfl, rfl, hj, hi, hrel⟩ := hrel
    clear HK c0 c1 c2 c3 c4 c5
    by_cases hi0 : i = 0
    · subst hi0
      obtain rfl : j = -1 := by omega
      clear hj
      have hk := hrel.out.1
      obtain ⟨us, hT, hmem, hlenu⟩ := hrel.out.2
      rw [if_pos rfl] at hT
      obtain ⟨c0, c1, c2, c3, c4, c5⟩ := hk.six (g := w2.heap.size) (.tail _ (.head _))
      by_cases h0 : k2 = 0
      · subst h0
        have HK := Lib.hid hk
        clear hk hT hmem hlenu hrel
        go_wp2_with fail
        refine (HK.out.awake11_ HT.out).mono ?_
        rintro e w13 ⟨rfl, hb⟩
        have HB13 := Lib.hid hb
        clear hb HK c0 c1 c2 c3 c4 c5
        go_wp2_with fail
        go_ret
        exact ⟨rfl, HB13.out.kept⟩
      · have hkb : ((k2 : Int) == 0) = false := by simp; omega
        have hmt := hk.m (.tail _ (.head _))
        have hr1 := HR.out.1.bare.tagged (us := m'.tags) HR.out.1.tags.1 HR.out.1.tags.2
        have hus0 : us ≠ [] := by
          rintro rfl
          rcases ht : m'.tags with _ | ⟨a, r⟩
          · have := hmt.tlen; rw [ht] at this; exact h0 this.symm
          · have := (hmem a).2 (by rw [ht]; simp)
            cases this
        have husl : us.length ≤ 32 := by
          split at hlenu
          · omega
          · omega
        have husr : ∀ x ∈ us, rightT x = true := fun x hx => HR.out.1.tags.2 x (by have := (hmem x).1 hx; simpa using this)
        have hnorm : norm us = m'.tags := by rw [norm_same (us := m'.tags) (fun x => by rw [hmem x]; simp), ← HR.out.2.1]
        have hpar := bare_tags HR.out.1.bare rfl rfl rfl hus0 husl husr
        rw [hnorm, HU.out.2.1] at hpar
        have hTl : (ls ++ 124 :: 35 :: textT us).length ≤ 100000 := by
          have h1 := tags_len us husr
          unfold textT
          simp only [List.length_append, List.length_cons]
          omega
        have HP2 := Lib.hid (And.intro hT (And.intro hTl (And.intro hpar hr1.small)))
        have HK := Lib.hid hk
        clear hk hT hmem hlenu hrel hmt hr1 hus0 husl husr hnorm hpar hTl
        go_wp2_with fail
        refine (HK.out.oparse_ HP2.out.1 HP2.out.2.1 HP2.out.2.2.1).mono ?_
        rintro e w13 ⟨s13, A13, n13, ca13, B13, k13, cb13, rfl, hb⟩
        simp only [show (bareM m').kind = m'.kind from rfl, show (bareM m').rate = 1000000 from rfl, show (bareM m').time = 0 from rfl]
        have hgb := hb.lt (g := w2.heap.size + 1) (.head _)
        have hl2 := hb.olay2 (.string s13) (.int .i64 m'.kind) (.slice A13 n13 ca13) (.int .i64 1000000) (.slice B13 k13 cb13) (.int .i64 0) (.int .i64 0) (.int .i64 0)
        have hl3 : Kb w [(w2.heap.size + 1, 35, mC s2 m'.kind A2 n2 ca2 1000000 none 0 0 0), (w13.heap.size + 1, 42, [.int .i64 0, .int .i64 0]), (w13.heap.size, 35, [.string s13, .int .i64 m'.kind, .slice A13 n13 ca13, .int .i64 1000000, .slice B13 k13 cb13, .int .i64 0])] [(s2, A2, n2, B2, k2, { bareM m' with tags := m'.tags }), (s13, A13, n13, B13, k13, { bareM m' with tags := m'.tags })] _ :=
          (hl2.mAdd (s := s2) (A := A2) (B := B2) (n := n2) (k := k2) (m := { bareM m' with tags := m'.tags }) (by
            have := hl2.m (.tail _ (.tail _ (.head _)))
            exact ⟨this.name, this.vlen, this.vals, this.tlen, this.tags⟩)).subs (fun x hx => by
            rcases List.mem_cons.1 hx with rfl | hx
            · exact .tail _ (.tail _ (.head _))
            · rcases List.mem_cons.1 hx with rfl | hx
              · exact .head _
              · rcases List.mem_singleton.1 hx with rfl
                exact .tail _ (.head _)) (fun x hx => by
            rcases List.mem_cons.1 hx with rfl | hx
            · exact .head _
            · rcases List.mem_singleton.1 hx with rfl
              exact .tail _ (.head _))
        have hput := hl3.put (i := 4) HG.out (fun x hx => by
          rcases List.mem_cons.1 hx with rfl | hx
          · show w13.heap.size + 1 ≠ w2.heap.size + 1; omega
          · rcases List.mem_singleton.1 hx with rfl
            show w13.heap.size ≠ w2.heap.size + 1; omega) (.slice B2 k2 cb2)
        have b4 := hl3.cell (i := 4) (.head _) rfl
        have z4 := (hl3.box _ (.head _)).frozen 4
        have c4' := (hl2.cell (g := w2.heap.size) (i := 4) (.tail _ (.tail _ (.tail _ (.head _)))) rfl)
        have HPut := Lib.hid hput
        clear hgb hl2 hl3 hput hb HK c0 c1 c2 c3 c4 c5
        go_upto_region 39 with fail
        have HE := Lib.hid (HPut.out.equal_ (.tail _ (.head _)) (.head _) HP2.out.2.2.2 (decide_eq_true rfl) ca13 cb13 ca2 cb2)
        simp only [show (bareM m').kind = m'.kind from rfl, show (bareM m').rate = 1000000 from rfl, show (bareM m').time = 0 from rfl] at HE
        have f0 := HPut.out.cell (g := w13.heap.size + 1) (i := 0) (.tail _ (.head _)) rfl
        have f1 := HPut.out.cell (g := w13.heap.size + 1) (i := 1) (.tail _ (.head _)) rfl
        obtain ⟨a0, a1, a2, a3, a4, a5⟩ := HPut.out.six (g := w13.heap.size) (.tail _ (.tail _ (.head _)))
        have b0 := HPut.out.cell (g := w2.heap.size + 1) (i := 0) (.head _) rfl
        have b1 := HPut.out.cell (g := w2.heap.size + 1) (i := 1) (.head _) rfl
        have b2 := HPut.out.cell (g := w2.heap.size + 1) (i := 2) (.head _) rfl
        have b3 := HPut.out.cell (g := w2.heap.size + 1) (i := 3) (.head _) rfl
        have b4 := HPut.out.cell (g := w2.heap.size + 1) (i := 4) (.head _) rfl
        have b5 := HPut.out.cell (g := w2.heap.size + 1) (i := 5) (.head _) rfl
        have q2 := fun w => feq_run (x := 0) (y := 0) (u := 0) (v := 0) (q := true) (by decide) w
        generalize World.setCell _ ⟨w2.heap.size + 1, 4, none⟩ (.slice B2 k2 cb2) = W14 at HPut HE f0 f1 a0 a1 a2 a3 a4 a5 b0 b1 b2 b3 b4 b5 ⊢
        clear c4' z4
        go_wp2_with fail
        refine HE.out.mono ?_
        rintro e w15 ⟨rfl, hb⟩
        have HB15 := Lib.hid hb
        clear hb HPut HE f0 f1 a0 a1 a2 a3 a4 a5 b0 b1 b2 b3 b4 b5
        go_wp2_with fail
        refine (HB15.out.awake11_ HT.out).mono ?_
        rintro e w16 ⟨rfl, hb⟩
        have HB16 := Lib.hid hb
        clear hb HB15
        go_wp2_with fail
        go_ret
        exact ⟨rfl, HB16.out.kept⟩
    · obtain ⟨i', rfl⟩ : ∃ i', i = i' + 1 := ⟨i - 1, by omega⟩
      obtain rfl : j = (i' : Int) := by omega
      clear hj hi0
      have g1 : (0 : Int) ≤ (i' : Int) := by omega
      have hk := hrel.out.1
      have hmt := hk.m (.tail _ (.head _))
      have l0 : i' < m'.tags.length := by rw [hmt.tlen]; omega
      obtain ⟨b, off, e1, hone⟩ := tags_one_at hmt.tags l0
      subst e1
      have hro := HR.out.2.2
      have g3 : (i' : Int) + 1 ≤ (cb2 : Int) := by omega
      have g4 : (i' : Int) ≤ (i' : Int) + 1 := by omega
      obtain ⟨b0, b1, b2, b3, b4, b5⟩ := hk.six (g := w2.heap.size + 1) (.head _)
      have e2 : ∀ o, (wr.alloc o).cell? ⟨w2.heap.size, 4, none⟩ = some (.slice (some ⟨b, off, none⟩) k2 cb2) := fun o => (hk.alloc o).cell (.tail _ (.head _)) rfl
      have hrt : rightT m'.tags[i'] = true := HR.out.1.tags.2 _ (List.getElem_mem l0)
      obtain ⟨tg, htg⟩ : ∃ t, m'.tags[i'] = t := ⟨_, rfl⟩
      rw [htg] at hone hrt
      have hr1 := HR.out.1.bare.tagged (us := [tg]) (by show 1 ≤ 32; omega) (fun x hx => by rcases List.mem_singleton.1 hx with rfl; exact hrt)
      have hn1 := hr1.nM_ (norm_one tg).symm
      have hl1 : lineO { bareM m' with tags := [tg] } = ls ++ 124 :: 35 :: txt tg := by
        rw [lineO_right hn1.1, hn1.2, bare_tag rfl rfl rfl tg, HU.out.2.1]
      have hmi : MIs (wr.alloc (.cells #[.string s2, .int .i64 m'.kind, .slice A2 n2 ca2, .int .i64 1000000, .slice (some ⟨b, off + i' * 2, none⟩) 1 (cb2 - i'), .int .i64 0] 35)) s2 A2 n2 (some ⟨b, off + i' * 2, none⟩) 1 { bareM m' with tags := [tg] } :=
        ⟨hmt.name, hmt.vlen, hmt.vals.keep (m_below _ _), rfl, hone.keep (m_below _ _)⟩
      have HL1 := Lib.hid (((hk.push 35 [.string s2, .int .i64 m'.kind, .slice A2 n2 ca2, .int .i64 1000000, .slice (some ⟨b, off + i' * 2, none⟩) 1 (cb2 - i'), .int .i64 0]).mAdd hmi).oline_ (.head _) hr1.small HT.out hl1 hn1.1 ca2 (cb2 - i'))
      simp only [show (bareM m').kind = m'.kind from rfl, show (bareM m').rate = 1000000 from rfl, show (bareM m').time = 0 from rfl] at HL1
      obtain ⟨T1, hT1⟩ : ∃ u : ByteArray, (⟨(ls ++ 124 :: 35 :: txt tg).toArray⟩ : ByteArray) = u := ⟨_, rfl⟩
      have hs1 : Str T1 (ls ++ 124 :: 35 :: txt tg) := by rw [← hT1]; exact Str.mk _
      rw [hT1] at HL1
      have HD := Lib.hid (And.intro (show m'.tags[i']? = some tg by rw [List.getElem?_eq_getElem l0, htg]) hs1)
      have HRT := Lib.hid hrt
      clear hmt hone hro hrt htg hr1 hn1 hl1 hmi hT1 hk hs1 l0
      go_wp2_with fail
      refine HL1.out.mono ?_
      rintro e w13 ⟨rfl, hb⟩
      have HB13 := Lib.hid (hb.subs (L' := [(w2.heap.size + 1, 35, [.string s2, .int .i64 m'.kind, .slice A2 n2 ca2, .int .i64 1000000, .slice none 0 0, .int .i64 0]), (w2.heap.size, 35, [.string s2, .int .i64 m'.kind, .slice A2 n2 ca2, .int .i64 m'.rate, .slice (some ⟨b, off, none⟩) k2 cb2, .int .i64 m'.time])]) (M' := [(s2, A2, n2, none, 0, bareM m'), (s2, A2, n2, some ⟨b, off, none⟩, k2, m')]) (fun x hx => .tail _ hx) (fun x hx => .tail _ hx))
      obtain ⟨c0, c1, c2, c3, c4, c5⟩ := HB13.out.six (g := w2.heap.size) (.tail _ (.head _))
      obtain ⟨us, hT, hmem, hlenu⟩ := hrel.out.2
      have hmem0 := hmem
      have hrt0 := HRT.out
      rw [if_neg (by omega)] at hT
      obtain ⟨t', ht', hsl⟩ := HD.out.2.from_ (i := (ls.length : Int) + 2) (ls.length + 2) (by omega) (by simp)
      rw [drop_txt] at ht'
      obtain ⟨X, hX⟩ : ∃ X, (txt tg).length = X := ⟨_, rfl⟩
      have hz1 : (T1.size : Int) = (ls.length : Int) + 2 + (X : Int) := by
        have := HD.out.2.size
        simp at this
        omega
      obtain ⟨hj1, ea, hj2, hj3⟩ := HJ.out (by omega)
      have g2 : (0 : Int) < (k2 : Int) := by omega
      have a1 : wrap64 (z.tmod (k2 : Int) + (k2 : Int)) = z.tmod (k2 : Int) + (k2 : Int) := IntWalk.wrap64_in _ (by omega)
      have HT2 := Lib.hid (And.intro hT (And.intro ht' (And.intro hmem hlenu)))
      have HI := Lib.hid (And.intro hi hj1)
      clear hb hrel e2 b0 b1 b2 b3 b4 b5 HL1 hT ht' hmem hlenu hX hi hj1 hj2 hj3
      have husr : ∀ x ∈ us, rightT x = true := fun x hx => HR.out.1.tags.2 x (List.mem_of_mem_drop ((hmem0 x).1 hx))
      have hTz : T.size ≤ 20000 := by
        have h1 := comma_len us husr
        have h2 := HT2.out.1.size
        have h3 := HT2.out.2.2.2
        simp only [List.length_append, List.length_cons] at h2
        split at h3 <;> omega
      have htz : t'.size ≤ 1000 := by
        have h1 := txt_len hrt0
        have h2 := HT2.out.2.1.size
        omega
      clear husr hmem0 hrt0
      by_cases h32 : k2 < 32
      · have h32' : (k2 : Int) < 32 := by omega
        by_cases hij : i' = j0
        · subst hij
          go_wp2_with fail
          obtain ⟨d0, d1, d2, d3, d4, d5⟩ := HB13.out.sixq (g := w2.heap.size) (.tail _ (.head _))
          refine wp_region_quiet_below (by kernel_rfl) (by kernel_rfl) ?_
          repeat (go_big_quiet_step (first | fail))
          refine wpQuiet_nil ?_
          rintro _ ⟨⟨dq, osq⟩, rfl⟩
          have HB14 := Lib.hid (HB13.out.next (below_regrown _ dq osq))
          clear c0 c1 c2 c3 c4 c5 d0 d1 d2 d3 d4 d5 HB13 ea a1
          by_cases hp : i' = 0
          · subst hp
            go_wp2_with fail
            refine ⟨⟨0, _, _, rfl, rfl, by omega, by omega, ⟨HB14.out, us ++ [tg] ++ [tg], ?_, fun x => mem_more2 HD.out.1 HT2.out.2.2.1 x, ?_⟩⟩, by simp [intOf]⟩
            · rw [if_pos rfl]; exact round_one (round_comma HT2.out.1 HT2.out.2.1) HT2.out.2.1
            · have := HT2.out.2.2.2
              rw [if_neg (by omega)] at this
              rw [if_pos (by omega)]
              simp; omega
          · have hpp : (0 : Int) < (i' : Int) := by omega
            have w1 : wrap64 ((i' : Int) - 1) = (i' : Int) - 1 := IntWalk.wrap64_in _ (by have := HI.out.1; omega)
            go_wp2_with fail
            refine ⟨⟨i', _, _, rfl, rfl, by first | exact w1 | rfl, by have := HI.out.1; omega, ⟨HB14.out, us ++ [tg] ++ [tg], ?_, fun x => mem_more2 HD.out.1 HT2.out.2.2.1 x, ?_⟩⟩, by simp only [intOf]; omega⟩
            · rw [if_neg hp]; exact round_comma (round_comma HT2.out.1 HT2.out.2.1) HT2.out.2.1
            · have := HT2.out.2.2.2
              rw [if_neg (by omega)] at this
              rw [if_pos (by omega)]
              simp; omega
        · have hne : ((i' : Int) == (j0 : Int)) = false := by simp; omega
          go_wp2_with fail
          obtain ⟨d0, d1, d2, d3, d4, d5⟩ := HB13.out.sixq (g := w2.heap.size) (.tail _ (.head _))
          refine wp_region_quiet_below (by kernel_rfl) (by kernel_rfl) ?_
          repeat (go_big_quiet_step (first | fail))
          refine wpQuiet_nil ?_
          rintro _ ⟨⟨dq, osq⟩, rfl⟩
          have HB14 := Lib.hid (HB13.out.next (below_regrown _ dq osq))
          clear c0 c1 c2 c3 c4 c5 d0 d1 d2 d3 d4 d5 HB13 ea a1
          by_cases hp : i' = 0
          · subst hp
            go_wp2_with fail
            refine ⟨⟨0, _, _, rfl, rfl, by omega, by omega, ⟨HB14.out, us ++ [tg], ?_, fun x => mem_more HD.out.1 HT2.out.2.2.1 x, ?_⟩⟩, by simp [intOf]⟩
            · rw [if_pos rfl]; exact round_one HT2.out.1 HT2.out.2.1
            · have := HT2.out.2.2.2
              simp only [List.length_append, List.length_singleton]
              split at this <;> split <;> omega
          · have hpp : (0 : Int) < (i' : Int) := by omega
            have w1 : wrap64 ((i' : Int) - 1) = (i' : Int) - 1 := IntWalk.wrap64_in _ (by have := HI.out.1; omega)
            go_wp2_with fail
            refine ⟨⟨i', _, _, rfl, rfl, by first | exact w1 | rfl, by have := HI.out.1; omega, ⟨HB14.out, us ++ [tg], ?_, fun x => mem_more HD.out.1 HT2.out.2.2.1 x, ?_⟩⟩, by simp only [intOf]; omega⟩
            · rw [if_neg hp]; exact round_comma HT2.out.1 HT2.out.2.1
            · have := HT2.out.2.2.2
              simp only [List.length_append, List.length_singleton]
              split at this <;> split <;> omega
      · have h32' : ¬ (k2 : Int) < 32 := by omega
        go_wp2_with fail
        have h33 : ¬ (k2 : Int) < 32 := by omega
        have h34 : decide ((k2 : Int) < 32) = false := decide_eq_false h33
        obtain ⟨d0, d1, d2, d3, d4, d5⟩ := HB13.out.sixq (g := w2.heap.size) (.tail _ (.head _))
        refine wp_region_quiet_below (by kernel_rfl) (by kernel_rfl) ?_
        repeat (go_big_quiet_step (first | fail))
        refine wpQuiet_nil ?_
        rintro _ ⟨⟨dq, osq⟩, rfl⟩
        have HB14 := Lib.hid (HB13.out.next (below_regrown _ dq osq))
        clear c0 c1 c2 c3 c4 c5 d0 d1 d2 d3 d4 d5 HB13 ea a1
        by_cases hp : i' = 0
        · subst hp
          go_wp2_with fail
          refine ⟨⟨0, _, _, rfl, rfl, by omega, by omega, ⟨HB14.out, us ++ [tg], ?_, fun x => mem_more HD.out.1 HT2.out.2.2.1 x, ?_⟩⟩, by simp [intOf]⟩
          · rw [if_pos rfl]; exact round_one HT2.out.1 HT2.out.2.1
          · have := HT2.out.2.2.2
            simp only [List.length_append, List.length_singleton]
            split at this <;> split <;> omega
        · have hpp : (0 : Int) < (i' : Int) := by omega
          have w1 : wrap64 ((i' : Int) - 1) = (i' : Int) - 1 := IntWalk.wrap64_in _ (by have := HI.out.1; omega)
          go_wp2_with fail
          refine ⟨⟨i', _, _, rfl, rfl, by first | exact w1 | rfl, by have := HI.out.1; omega, ⟨HB14.out, us ++ [tg], ?_, fun x => mem_more HD.out.1 HT2.out.2.2.1 x, ?_⟩⟩, by simp only [intOf]; omega⟩
          · rw [if_neg hp]; exact round_comma HT2.out.1 HT2.out.2.1
          · have := HT2.out.2.2.2
            simp only [List.length_append, List.length_singleton]
            split at this <;> split <;> omega
end Go.Proofs.YtbcmchkgamkceaaGreatDoor
