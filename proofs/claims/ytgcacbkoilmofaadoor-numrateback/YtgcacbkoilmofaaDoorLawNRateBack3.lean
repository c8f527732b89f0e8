/-
  The walk of NumRateBack, at other rates. No statement of the seat is proved here.
-/
import Derived.Test.YtgcacbkoilmofaaDoorLawNRateBack1
namespace Go.Proofs.YtgcacbkoilmofaaDoor
open Go.RowKit

set_option maxRecDepth 100000 in
set_option maxHeartbeats 8000000 in
theorem nrate_less (n z : Int) (s : ByteArray) (hm : (s.size : Int) ≤ 200) (hz0 : 0 ≤ z ∧ z ≤ 6) (hn : 1 ≤ n ∧ n < 1000000) (w : World) (ht : Tab w) : Calls Tryd.prog 6 #[.int .i64 n, .int .i64 z, .string s] w fun e w' => e = .returned (.bool true) ∧ Below w.heap.size w w' := by
  have HT := Lib.hid ht
  clear ht
  have h200 : ¬ 200 < (s.size : Int) := by omega
  have g0 : ¬ z < 0 := by omega
  have g6 : ¬ 6 < z := by omega
  obtain ⟨m, a, b, hp⟩ : ∃ m a b, rated s.data.toList = (m, a, b) := ⟨_, _, _, rfl⟩
  have HP := Lib.hid (fun W => rate_says (Str.self s) (by omega) hp W)
  have hcs : (a = 0 ∧ b = 0) ∨ (m = 0 ∧ ((a == 0) = false ∨ ((a == 0) = true ∧ (b == 0) = false))) := by
    by_cases hab : a = 0 ∧ b = 0
    · exact .inl hab
    · refine .inr ⟨rated_wrong hp hab, ?_⟩
      by_cases e : a = 0
      · right; exact ⟨by simp [e], by simpa using fun h => hab ⟨e, h⟩⟩
      · left; simpa using e
  have HPB := Lib.hid (And.intro (fun (ha : a = 0) (hb : b = 0) => rated_text_back (l := s.data.toList) (n := m) (by rw [hp, ha, hb])) (fun (ha : a = 0) (hb : b = 0) => strip_ends (s := s) (n := m) (by rw [hp, ha, hb])))
  clear hp
  have hir := (isRate_iff n).2 ⟨hn.1, by omega⟩
  have e1 : textR n = rateText n.toNat := by unfold textR; rw [hir]; rfl
  have e2 : errR n = 0 := by unfold errR; rw [hir]; rfl
  have hnt := fun W h => ratetext_says e1 e2 W h
  have hn0 : n.toNat ≠ 0 := by omega
  have hnl : n.toNat < 1000000 := by omega
  have hnn : ((n.toNat : Nat) : Int) = n := by omega
  have hst : Str ⟨(rateText n.toNat).toArray⟩ (rateText n.toNat) := Str.mk _
  obtain ⟨hlen1, hlen2⟩ := rateText_len hn0 hnl
  obtain ⟨t, x, htx, hx48⟩ := rateText_last hn0 hnl
  have q1 : rated (rateText n.toNat) = (n, 0, 0) := by rw [rated_text hn0 (by omega), hnn]
  have q2 := fun k => rated_zeros hn0 hnl k
  simp only [hnn] at q2
  generalize rateText n.toNat = R at *
  generalize hT : (⟨R.toArray⟩ : ByteArray) = T at *
  have hsz := hst.size
  have hp1 := fun W => rate_says hst (by omega) q1 W
  rw [htx] at hst
  obtain ⟨hls, hlix, _⟩ := hst.last
  rw [← htx] at hst
  have hTm : (T.size : Int) - 1 = (t.length : Int) := by omega
  have hT8 : (T.size : Int) ≤ 8 := by omega
  have hT3 : ¬ (T.size : Int) < 1 := by omega
  obtain ⟨y, hy⟩ : ∃ y : Int, y = (x.toNat : Int) := ⟨_, rfl⟩
  rw [← hy] at hlix
  have hyb : (y == 48) = false := by
    rw [hy]
    simp
    intro h
    exact hx48 (UInt8.toNat_inj.1 (by show x.toNat = 48; omega))
  have HN := Lib.hid hnt
  have HQ := Lib.hid hp1
  have HQ2 := Lib.hid q2
  have HST := Lib.hid hst
  have HSZ := Lib.hid hsz
  have hnm : n < 1000000 := hn.2
  have HLS := Lib.hid hls
  clear e1 e2 hnt hn0 hnl hnn hst hlen1 hlen2 htx hx48 q1 q2 hsz hp1 hls hy hir hT
  have HW0 := Lib.hid (FAt.start w)
  go_enter Tryd.func6, Tryd.ntmps6
  go_wp2_with fail
  refine (HN.out _ HT.out).mono ?_
  rintro e w3 ⟨rfl, hb⟩
  have HW3 := Lib.hid (HW0.out.next hb)
  clear hb HN HW0
  go_wp2_with fail
  refine (HQ.out _).mono ?_
  rintro e w4 ⟨rfl, hb⟩
  have HW4 := Lib.hid ((HW3.out.next hb).push (.int .i64 0) (.int .i64 0))
  clear hb HW3 HQ
  obtain ⟨k10, k11⟩ := HW4.out.cells (g := w4.heap.size) (a := .int .i64 0) (b := .int .i64 0) (by simp)
  go_wp2_with fail
  clear k10 k11
  obtain ⟨W4, hW4⟩ : ∃ W4, W4 = w4.alloc (.cells #[.int .i64 0, .int .i64 0] 25) := ⟨_, rfl⟩
  rw [← hW4] at HW4 ⊢
  clear hW4
  go_loopw [11, 12] (fun v11 v12 wr => ∃ (q : ByteArray) (i : Nat), v11 = .string q ∧ v12 = .int .i64 i ∧ W4 = wr ∧ (i : Int) ≤ z ∧ (q.size : Int) = (T.size : Int) + (i : Int) ∧ Hid (Str q (R ++ List.replicate i 48))) (fun _ v12 _ => 6 - (intOf v12).toNat)
  case atStart => exact ⟨T, 0, rfl, rfl, rfl, by omega, by omega, Lib.hid (by simpa using HST.out)⟩
  case round =>
    obtain ⟨q, i, rfl, rfl, rfl, hiz, hqz, hqs⟩ := hrel
    by_cases hlt : (i : Int) < z
    · have hz1 : ((⟨#[48]⟩ : ByteArray).size : Int) = 1 := rfl
      have hap := hqs.out.append (show Str ⟨#[48]⟩ [48] from rfl)
      have hapz : ((q ++ ⟨#[48]⟩ : ByteArray).size : Int) = (T.size : Int) + ((i + 1 : Nat) : Int) := by
        rw [hap.size]
        have := hqs.out.size
        simp only [List.length_append, List.length_cons, List.length_nil] at this ⊢
        omega
      have HX := Lib.hid (And.intro hapz (show Str (q ++ ⟨#[48]⟩) (R ++ List.replicate (i + 1) 48) by
        rw [List.replicate_succ', ← List.append_assoc]
        exact hap))
      clear hap hapz
      go_wp2_with fail
      exact ⟨⟨_, i + 1, rfl, by go_num, trivial, by omega, HX.out.1, HX.out.2⟩, by simp [intOf]; omega⟩
    · have hr := HQ2.out i
      have hlen : (R ++ List.replicate i (48 : UInt8)).length = q.size := hqs.out.size.symm
      rw [hlen] at hr
      have hq16 : (q.size : Int) ≤ 1000 := by omega
      have hrs := fun n a b (h : rated (R ++ List.replicate i 48) = (n, a, b)) W => rate_says hqs.out hq16 h W
      have HRS := Lib.hid hrs
      have HR := Lib.hid hr
      clear hr hlen hrs
      rcases (by omega : (q.size : Int) ≤ 8 ∨ (¬ (q.size : Int) ≤ 8 ∧ 8 < (q.size : Int))) with h8 | ⟨h8, h8'⟩
      · have HC := Lib.hid (fun W => HRS.out _ _ _ (HR.out.trans (if_pos (by omega))) W)
        have h8' : ¬ 8 < (q.size : Int) := by omega
        clear HRS HR hqz
        go_wp2_with fail
        refine (HC.out _).mono ?_
        rintro e w6 ⟨rfl, hb⟩
        have HW6 := Lib.hid ((HW4.out.next hb).push (.int .i64 0) (.int .i64 0))
        clear hb HW4 HC
        obtain ⟨k10, k11⟩ := HW6.out.cells (g := w6.heap.size) (a := .int .i64 0) (b := .int .i64 0) (by simp)
        go_wp2_with fail
        refine (HP.out _).mono ?_
        rintro e w7 ⟨rfl, hb⟩
        have HB7 := Lib.hid (below_then (HW6.out.kept) hb)
        clear hb HP HW6 k10 k11
        rcases hcs with ⟨rfl, rfl⟩ | ⟨rfl, hcs⟩
        · obtain ⟨m0, m1, htx⟩ := HPB.out.1 rfl rfl
          have hr2 := fun W h => ratetext_says (n := m) htx (show errR m = 0 by unfold errR; rw [(isRate_iff m).2 ⟨m0, m1⟩]; rfl) W h
          have hend := HPB.out.2 rfl rfl
          have g1 : ¬ m < 1 := by omega
          have g2 : ¬ 1000000 < m := by omega
          generalize hU : (⟨(Lib.trimRightB s.data.toList 48).toArray⟩ : ByteArray) = U at hr2
          have HU := Lib.hid hU
          have HR2 := Lib.hid hr2
          have HEND := Lib.hid hend
          clear hr2 hU htx hend HPB
          go_wp2_with fail
          refine (HR2.out _ (HT.out.keep (HB7.out.alloc HB7.out.size _))).mono ?_
          rintro e w8 ⟨rfl, hb⟩
          have HB8 := Lib.hid (below_then (HB7.out.alloc HB7.out.size _) hb)
          clear hb HB7 HR2
          go_wp2_with fail
          go_loopw [2] (fun v2 wr => ∃ (q : ByteArray) (j : Nat), v2 = .string q ∧ w8 = wr ∧ (q.size : Int) = (j : Int) + 1 ∧ (j : Int) + 1 ≤ 200 ∧ Hid (StripAt s.data.toList j q)) (fun v2 _ => Lib.strSize v2)
          case atStart =>
            obtain ⟨j, hj, hst⟩ := HEND.out.1
            exact ⟨s, j, rfl, rfl, hj, by omega, hst⟩
          case round =>
            obtain ⟨q, j, rfl, rfl, hqj, hj2, hst⟩ := hrel
            obtain ⟨hjl, hqs, hq1, hq2⟩ := hst.out
            obtain ⟨hz, hix, q2, hqt, hsl⟩ := Str.last hqs
            have hlt : ((s.data.toList.take j).length : Int) = (j : Int) := by rw [List.length_take]; omega
            rw [hlt] at hix hsl
            have hqm : (q.size : Int) - 1 = (j : Int) := by omega
            have HQT := Lib.hid hqt
            clear hqs hqt hz hlt hq1 hq2
            by_cases hx : ((s.data.toList[j]).toNat : Int) = 48
            · by_cases hj0 : j = 0
              · have HE := Lib.hid (show U = q by rw [← HU.out]; exact (HEND.out.2 j q hst.out (.inl hj0)).symm)
                have hlen : ¬ 1 < (q.size : Int) := by omega
                have hq1 : (q.size : Int) = 1 := by omega
                clear hqj hx hix hsl hqm
                obtain rfl := HE.out
                go_wp2_with fail
                refine (awake5_calls _ (HT.out.keep HB8.out)).mono ?_
                rintro e w9 ⟨rfl, hb⟩
                have HB9 := Lib.hid (below_then HB8.out hb)
                clear hb
                go_wp2_with fail
                go_ret
                exact ⟨rfl, HB9.out⟩
              · have HX := Lib.hid (hst.out.down hj0 hx HQT.out)
                have hlen : 1 < (q.size : Int) := by omega
                rw [hx] at hix
                clear hx
                go_wp2_with fail
                obtain ⟨i, hi, hz2, hstr⟩ := HX.out
                exact ⟨⟨q2, i, rfl, trivial, hz2, by omega, hstr⟩, by simp only [Lib.strSize]; omega⟩
            · have HE := Lib.hid (show U = q by rw [← HU.out]; exact (HEND.out.2 j q hst.out (.inr hx)).symm)
              obtain ⟨y, hy⟩ : ∃ y : Int, y = ((s.data.toList[j]).toNat : Int) := ⟨_, rfl⟩
              have hix2 : ∀ W, (Instr.index 9 (.string q) (.int .i64 (j : Int))).run Tryd.prog W = .ok (.int .u8 y) W := fun W => by rw [hy]; exact hix W
              have hyb : (y == 48) = false := by rw [hy]; simpa using hx
              clear hx hix hy hsl
              by_cases hj0 : (j : Int) = 0
              · have hlen : ¬ 1 < (q.size : Int) := by omega
                have hq1 : (q.size : Int) = 1 := by omega
                clear hqj hix2 hqm hj0
                obtain rfl := HE.out
                go_wp2_with fail
                refine (awake5_calls _ (HT.out.keep HB8.out)).mono ?_
                rintro e w9 ⟨rfl, hb⟩
                have HB9 := Lib.hid (below_then HB8.out hb)
                clear hb
                go_wp2_with fail
                go_ret
                exact ⟨rfl, HB9.out⟩
              · have hlen : 1 < (q.size : Int) := by omega
                obtain rfl := HE.out
                go_wp2_with fail
                refine (awake5_calls _ (HT.out.keep HB8.out)).mono ?_
                rintro e w9 ⟨rfl, hb⟩
                have HB9 := Lib.hid (below_then HB8.out hb)
                clear hb
                go_wp2_with fail
                go_ret
                exact ⟨rfl, HB9.out⟩
        · clear HPB
          rcases hcs with k1 | ⟨k1, k2⟩
          all_goals
            go_wp2_with fail
            refine (awake5_calls _ (HT.out.keep (HB7.out.alloc HB7.out.size _))).mono ?_
            rintro e w9 ⟨rfl, hb⟩
            have HB9 := Lib.hid (below_then (HB7.out.alloc HB7.out.size _) hb)
            clear hb HB7
            go_wp2_with fail
            go_ret
            exact ⟨rfl, HB9.out⟩
      · have HC := Lib.hid (fun W => HRS.out _ _ _ (HR.out.trans (if_neg (by omega))) W)
        clear HRS HR hqz
        go_wp2_with fail
        refine (HC.out _).mono ?_
        rintro e w6 ⟨rfl, hb⟩
        have HW6 := Lib.hid ((HW4.out.next hb).push (.int .i64 12) (.int .i64 8))
        clear hb HW4 HC
        obtain ⟨k10, k11⟩ := HW6.out.cells (g := w6.heap.size) (a := .int .i64 12) (b := .int .i64 8) (by simp)
        go_wp2_with fail
        refine (HP.out _).mono ?_
        rintro e w7 ⟨rfl, hb⟩
        have HB7 := Lib.hid (below_then (HW6.out.kept) hb)
        clear hb HP HW6 k10 k11
        rcases hcs with ⟨rfl, rfl⟩ | ⟨rfl, hcs⟩
        · obtain ⟨m0, m1, htx⟩ := HPB.out.1 rfl rfl
          have hr2 := fun W h => ratetext_says (n := m) htx (show errR m = 0 by unfold errR; rw [(isRate_iff m).2 ⟨m0, m1⟩]; rfl) W h
          have hend := HPB.out.2 rfl rfl
          have g1 : ¬ m < 1 := by omega
          have g2 : ¬ 1000000 < m := by omega
          generalize hU : (⟨(Lib.trimRightB s.data.toList 48).toArray⟩ : ByteArray) = U at hr2
          have HU := Lib.hid hU
          have HR2 := Lib.hid hr2
          have HEND := Lib.hid hend
          clear hr2 hU htx hend HPB
          go_wp2_with fail
          refine (HR2.out _ (HT.out.keep (HB7.out.alloc HB7.out.size _))).mono ?_
          rintro e w8 ⟨rfl, hb⟩
          have HB8 := Lib.hid (below_then (HB7.out.alloc HB7.out.size _) hb)
          clear hb HB7 HR2
          go_wp2_with fail
          go_loopw [2] (fun v2 wr => ∃ (q : ByteArray) (j : Nat), v2 = .string q ∧ w8 = wr ∧ (q.size : Int) = (j : Int) + 1 ∧ (j : Int) + 1 ≤ 200 ∧ Hid (StripAt s.data.toList j q)) (fun v2 _ => Lib.strSize v2)
          case atStart =>
            obtain ⟨j, hj, hst⟩ := HEND.out.1
            exact ⟨s, j, rfl, rfl, hj, by omega, hst⟩
          case round =>
            obtain ⟨q, j, rfl, rfl, hqj, hj2, hst⟩ := hrel
            obtain ⟨hjl, hqs, hq1, hq2⟩ := hst.out
            obtain ⟨hz, hix, q2, hqt, hsl⟩ := Str.last hqs
            have hlt : ((s.data.toList.take j).length : Int) = (j : Int) := by rw [List.length_take]; omega
            rw [hlt] at hix hsl
            have hqm : (q.size : Int) - 1 = (j : Int) := by omega
            have HQT := Lib.hid hqt
            clear hqs hqt hz hlt hq1 hq2
            by_cases hx : ((s.data.toList[j]).toNat : Int) = 48
            · by_cases hj0 : j = 0
              · have HE := Lib.hid (show U = q by rw [← HU.out]; exact (HEND.out.2 j q hst.out (.inl hj0)).symm)
                have hlen : ¬ 1 < (q.size : Int) := by omega
                have hq1 : (q.size : Int) = 1 := by omega
                clear hqj hx hix hsl hqm
                obtain rfl := HE.out
                go_wp2_with fail
                refine (awake5_calls _ (HT.out.keep HB8.out)).mono ?_
                rintro e w9 ⟨rfl, hb⟩
                have HB9 := Lib.hid (below_then HB8.out hb)
                clear hb
                go_wp2_with fail
                go_ret
                exact ⟨rfl, HB9.out⟩
              · have HX := Lib.hid (hst.out.down hj0 hx HQT.out)
                have hlen : 1 < (q.size : Int) := by omega
                rw [hx] at hix
                clear hx
                go_wp2_with fail
                obtain ⟨i, hi, hz2, hstr⟩ := HX.out
                exact ⟨⟨q2, i, rfl, trivial, hz2, by omega, hstr⟩, by simp only [Lib.strSize]; omega⟩
            · have HE := Lib.hid (show U = q by rw [← HU.out]; exact (HEND.out.2 j q hst.out (.inr hx)).symm)
              obtain ⟨y, hy⟩ : ∃ y : Int, y = ((s.data.toList[j]).toNat : Int) := ⟨_, rfl⟩
              have hix2 : ∀ W, (Instr.index 9 (.string q) (.int .i64 (j : Int))).run Tryd.prog W = .ok (.int .u8 y) W := fun W => by rw [hy]; exact hix W
              have hyb : (y == 48) = false := by rw [hy]; simpa using hx
              clear hx hix hy hsl
              by_cases hj0 : (j : Int) = 0
              · have hlen : ¬ 1 < (q.size : Int) := by omega
                have hq1 : (q.size : Int) = 1 := by omega
                clear hqj hix2 hqm hj0
                obtain rfl := HE.out
                go_wp2_with fail
                refine (awake5_calls _ (HT.out.keep HB8.out)).mono ?_
                rintro e w9 ⟨rfl, hb⟩
                have HB9 := Lib.hid (below_then HB8.out hb)
                clear hb
                go_wp2_with fail
                go_ret
                exact ⟨rfl, HB9.out⟩
              · have hlen : 1 < (q.size : Int) := by omega
                obtain rfl := HE.out
                go_wp2_with fail
                refine (awake5_calls _ (HT.out.keep HB8.out)).mono ?_
                rintro e w9 ⟨rfl, hb⟩
                have HB9 := Lib.hid (below_then HB8.out hb)
                clear hb
                go_wp2_with fail
                go_ret
                exact ⟨rfl, HB9.out⟩
        · clear HPB
          rcases hcs with k1 | ⟨k1, k2⟩
          all_goals
            go_wp2_with fail
            refine (awake5_calls _ (HT.out.keep (HB7.out.alloc HB7.out.size _))).mono ?_
            rintro e w9 ⟨rfl, hb⟩
            have HB9 := Lib.hid (below_then (HB7.out.alloc HB7.out.size _) hb)
            clear hb HB7
            go_wp2_with fail
            go_ret
            exact ⟨rfl, HB9.out⟩
end Go.Proofs.YtgcacbkoilmofaaDoor
