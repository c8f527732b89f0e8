/-
  The walk of BatchBehind. No statement of the seat is proved here.
-/
import Derived.Test.YtikdolgcdkmmaaaBBehind
namespace Go.Proofs.Ytikdolgcdkmmaaa
open Go.RowKit
open Dc (D D0)

set_option maxRecDepth 100000 in
set_option maxHeartbeats 16000000 in
theorem bbehind_walk {w : World} {A B : Option Addr} {len cap lenb capb : Nat} {es fs : List En} (hlen : es.length = len) (hM : Mets w A es) (hf : ∀ e ∈ es, ∀ d ∈ e.m.vals, d.Fits) (hz : len ≤ maxLen)
    (hlenb : fs.length = lenb) (hMb : Mets w B fs) (hfb : ∀ e ∈ fs, ∀ d ∈ e.m.vals, d.Fits) (hzb : lenb ≤ maxLen) :
    Calls Try.prog 7 #[.slice A len cap, .slice B lenb capb] w fun e w' => e = .returned (.bool true) ∧ Below w.heap.size w w' := by
  obtain ⟨q, hq⟩ : ∃ q, fewB (datM es) = q := ⟨_, rfl⟩
  obtain ⟨q2, hq2⟩ : ∃ q, fewB (datM fs) = q := ⟨_, rfl⟩
  have HB := Lib.hid (((Bt.start w).add hMb).add hM)
  have HQ := Lib.hid (And.intro hlen (And.intro hq hf))
  have HQ2 := Lib.hid (And.intro hlenb (And.intro hq2 hfb))
  have HZ := Lib.hid (And.intro (show (len : Int) ≤ 9223372036854775807 by unfold maxLen at hz; omega) (show (lenb : Int) ≤ 9223372036854775807 by unfold maxLen at hzb; omega))
  clear hM hlen hq hf hz hMb hlenb hq2 hfb hzb
  go_enter Try.func7, Try.ntmps7
  go_wp2_with fail
  refine (HB.out.few_ (.head _) HQ.out.1 HZ.out.1 HQ.out.2.1 _).mono ?_
  rintro e w1 ⟨rfl, hb⟩
  have HB1 := Lib.hid hb
  clear hb HB
  cases q
  · go_wp2_with fail
    refine (HB1.out.awake_).mono ?_
    rintro e v9 ⟨rfl, hb⟩
    have HB9 := Lib.hid hb
    clear hb
    go_wp2_with fail
    go_ret
    exact ⟨by first | rfl | simp, HB9.out.kept⟩
  · go_wp2_with fail
    refine (HB1.out.few_ (.tail _ (.head _)) HQ2.out.1 HZ.out.2 HQ2.out.2.1 _).mono ?_
    rintro e w2 ⟨rfl, hb⟩
    have HB2 := Lib.hid hb
    clear hb HB1
    cases q2
    · go_wp2_with fail
      refine (HB2.out.awake_).mono ?_
      rintro e v9 ⟨rfl, hb⟩
      have HB9 := Lib.hid hb
      clear hb
      go_wp2_with fail
      go_ret
      exact ⟨by first | rfl | simp, HB9.out.kept⟩
    · obtain ⟨hs, hl⟩ := few_smalls HQ.out.2.1 HQ.out.2.2
      obtain ⟨hs2, hl2⟩ := few_smalls HQ2.out.2.1 HQ2.out.2.2
      obtain ⟨p, c, hpc⟩ : ∃ p c, fwB codeM (datM es) = (p, c) := ⟨_, _, rfl⟩
      obtain ⟨p', c', hpc'⟩ : ∃ p c, fwB codeM (datM fs) = (p, c) := ⟨_, _, rfl⟩
      obtain ⟨p2, c2, hpc2⟩ : ∃ p c, fwB codeM (datM (es ++ fs)) = (p, c) := ⟨_, _, rfl⟩
      obtain ⟨r, hr⟩ : ∃ r, nB (datM es) = r := ⟨_, rfl⟩
      obtain ⟨r', hr'⟩ : ∃ r, nB (datM fs) = r := ⟨_, rfl⟩
      obtain ⟨r2, hr2⟩ : ∃ r, nB (datM (es ++ fs)) = r := ⟨_, rfl⟩
      obtain ⟨N, hN⟩ : ∃ N, len + lenb = N := ⟨_, rfl⟩
      obtain ⟨k1, hk1⟩ : ∃ k, (namesOf (datM es)).length = k := ⟨_, rfl⟩
      obtain ⟨k2, hk2⟩ : ∃ k, (namesOf (datM (es ++ fs))).length = k := ⟨_, rfl⟩
      have hnb := names_behind (datM es) (datM fs)
      rw [← datM_append, hk1, hk2] at hnb
      have hll : (datM es).length + (datM fs).length ≤ 1000 := by rw [datM_len, datM_len]; omega
      have HL := Lib.hid (And.intro (show len ≤ 2000 by have := HQ.out.1; omega) (And.intro (show lenb ≤ 2000 by have := HQ2.out.1; omega) (And.intro (show N ≤ 2000 by have := HQ.out.1; have := HQ2.out.1; omega) (And.intro (show (es ++ fs).length = N by rw [List.length_append, HQ.out.1, HQ2.out.1, hN]) (And.intro hN hll)))))
      have HS := Lib.hid (And.intro hs (And.intro hpc hr))
      have HS2 := Lib.hid (And.intro hs2 (And.intro hpc' hr'))
      have HS3 := Lib.hid (And.intro (show Smalls (es ++ fs) from fun e he => by
        rcases List.mem_append.1 he with he | he
        · exact hs e he
        · exact hs2 e he) (And.intro hpc2 hr2))
      have HK := Lib.hid (And.intro hk1 (And.intro hk2 (And.intro hnb.2 (show k1 ≤ 1000000 by have := namesOf_len (datM es); rw [hk1, datM_len] at this; omega))))
      have hk12 : (k1 : Int) ≤ (k2 : Int) := by have := hnb.1; omega
      have gk : ¬ (k2 : Int) < (k1 : Int) := by omega
      have hk12n : k1 ≤ k2 := hnb.1
      have HR0 := Lib.hid (RowM.empty (X := fun _ => False) (W := w2) (cap := 0) id rfl)
      have hfit1 : 0 + len ≤ 1000000 := by have := HQ.out.1; omega
      have hfit2 : len + lenb ≤ 1000000 := by have := HQ.out.1; have := HQ2.out.1; omega
      have hl12 : len ≤ 12 := by have := HQ.out.1; omega
      clear hs hl hs2 hpc hpc' hpc2 hr hr' hr2 hk1 hk2 hnb hll
      go_wp2_with (first
        | (at_builtin; refine append_mets (W1 := w2) (by rfl) (.tmp 26) (.tmp 27) rfl rfl rfl HR0.out HQ.out.1 (HB2.out.m (.head _)) (m_below _ _) (Nat.le_refl _) (by rw [size_alloc]; omega) hfit1 (N := len) (Nat.zero_add _) ?_; intro A3 c3 w3 hr3 hb3 hs3; have HR3 := Lib.hid (And.intro hr3 (And.intro hb3 hs3)); clear hr3 hb3 hs3)
        | (at_builtin; refine append_mets (W1 := w2) (by rfl) (.tmp 28) (.tmp 29) rfl rfl rfl HR3.out.1 HQ2.out.1 (HB2.out.m (.tail _ (.head _))) HR3.out.2.1 (Nat.le_refl _) HR3.out.2.2 hfit2 (N := N) HL.out.2.2.2.2.1 ?_; intro A4 c4 w4 hr4 hb4 hs4; have HB4 := Lib.hid ((HB2.out.next hb4).add (show Mets w4 A4 (es ++ fs) from hr4.mets)); clear hr4 hb4 hs4 HR3 HR0))
      refine (HB4.out.normal_ (.tail _ (.head _)) HQ.out.1 HL.out.1 HS.out.1 HS.out.2.1 HS.out.2.2 _).mono ?_
      rintro e w5 ⟨A5, n5, k5, f5, rfl, hl5, hd5, hb⟩
      have HB5 := Lib.hid hb
      clear hb HB4
      go_wp2_with fail
      refine (HB5.out.normal_ (.tail _ (.tail _ (.tail _ (.head _)))) HQ2.out.1 HL.out.2.1 HS2.out.1 HS2.out.2.1 HS2.out.2.2 _).mono ?_
      rintro e w6 ⟨A6, n6, k6, f6, rfl, hl6, hd6, hb⟩
      have HB6 := Lib.hid hb
      clear hb HB5
      go_wp2_with fail
      refine (HB6.out.normal_ (.tail _ (.tail _ (.head _))) HL.out.2.2.2.1 HL.out.2.2.1 HS3.out.1 HS3.out.2.1 HS3.out.2.2 _).mono ?_
      rintro e w7 ⟨A7, n7, k7, f7, rfl, hl7, hd7, hb⟩
      have HB7 := Lib.hid hb
      have HD := Lib.hid (And.intro (And.intro hl5 hd5) (And.intro (And.intro hl6 hd6) (And.intro hl7 hd7)))
      clear hb HB6 hl5 hd5 hl6 hd6 hl7 hd7
      go_wp2_with fail
      refine (HB7.out.names_ (.tail _ (.tail _ (.tail _ (.head _)))) HL.out.2.2.2.1 HL.out.2.2.1 HS3.out.1 rfl HK.out.2.1 _).mono ?_
      rintro e w8 ⟨N8, c8, rfl, hc8, hb⟩
      have HB8 := Lib.hid hb
      have hsl := run_texts_to N8 k2 c8 k1 (by omega)
      clear hb HB7
      go_wp2_with fail
      refine (HB8.out.names_ (.tail _ (.tail _ (.tail _ (.tail _ (.head _))))) HQ.out.1 HL.out.1 HS.out.1 rfl HK.out.1 _).mono ?_
      rintro e w9 ⟨N9, c9, rfl, hc9, hb⟩
      have HB9 := Lib.hid (hb.addS ((hb.s (A := N8) (ss := namesOf (datM (es ++ fs))) (.tail _ (.head _))).take k1))
      clear hb HB8
      go_wp2_with fail
      refine (HB9.out.texts_ (.head _) (.tail _ (.head _)) (len := k1) (lenb := k1) (by rw [HK.out.2.2.1, HK.out.1]) HK.out.1 HK.out.2.2.2 (x := true) (by rw [HK.out.2.2.1]; exact decide_eq_true rfl) _ _).mono ?_
      rintro e w10 ⟨rfl, hb⟩
      have HB10 := Lib.hid hb
      clear hb HB9 hsl
      by_cases z1 : c = 0
      · by_cases z2 : c' = 0
        · subst z1 z2
          have h1 : (fwB codeM (datM es)).2 = 0 := by rw [HS.out.2.1]
          have h2 : (fwB codeM (datM fs)).2 = 0 := by rw [HS2.out.2.1]
          have h3 := HS3.out.2.1
          rw [datM_append, behind_both HL.out.2.2.2.2.2 h1 h2] at h3
          injection h3 with h3 h4
          subst h3 h4
          have hr3 : datM f7 = datM (f5 ++ f6) := by
            rw [HD.out.2.2.2, ← HS3.out.2.2, datM_append, nB_both HL.out.2.2.2.2.2 h1 h2, datM_append, HD.out.1.2, HD.out.2.1.2, HS.out.2.2, HS2.out.2.2]
          have hn5 : n5 ≤ 12 := by have := len_n (HD.out.1.2.trans HS.out.2.2.symm); have := HD.out.1.1; have := HQ.out.1; omega
          have hn6 : n6 ≤ 12 := by have := len_n (HD.out.2.1.2.trans HS2.out.2.2.symm); have := HD.out.2.1.1; have := HQ2.out.1; omega
          have hn7 : n7 ≤ 2000 := by have := len_n (HD.out.2.2.2.trans HS3.out.2.2.symm); have := HD.out.2.2.1; have := HL.out.2.2.2.1; have := HL.out.2.2.1; omega
          obtain ⟨M, hMn⟩ : ∃ M, n5 + n6 = M := ⟨_, rfl⟩
          have HF := Lib.hid (And.intro hr3 (And.intro hn7 (And.intro hMn (And.intro (show M ≤ 2000 by omega) (show (f5 ++ f6).length = M by rw [List.length_append, HD.out.1.1, HD.out.2.1.1, hMn])))))
          have HS7 := Lib.hid (smalls_n HS3.out.1 (HD.out.2.2.2.trans HS3.out.2.2.symm))
          have HR1 := Lib.hid (RowM.empty (X := fun _ => False) (W := w10) (cap := 0) id rfl)
          clear h1 h2 hr3 hn7 hMn
          go_wp2_with (first
            | (at_builtin; refine append_mets (W1 := w10) (by rfl) (.tmp 114) (.tmp 115) rfl rfl rfl HR1.out HD.out.1.1 (HB10.out.m (.tail _ (.tail _ (.head _)))) (m_below _ _) (Nat.le_refl _) (by rw [size_alloc]; omega) (by omega) (N := n5) (Nat.zero_add _) ?_; intro A11 c11 w11 hr3 hb3 hs3; have HR3 := Lib.hid (And.intro hr3 (And.intro hb3 hs3)); clear hr3 hb3 hs3)
            | (at_builtin; refine append_mets (W1 := w10) (by rfl) (.tmp 116) (.tmp 117) rfl rfl rfl HR3.out.1 HD.out.2.1.1 (HB10.out.m (.tail _ (.head _))) HR3.out.2.1 (Nat.le_refl _) HR3.out.2.2 (by omega) (N := M) HF.out.2.2.1 ?_; intro A12 c12 w12 hr4 hb4 hs4; have HB12 := Lib.hid ((HB10.out.next hb4).add (show Mets w12 A12 (f5 ++ f6) from hr4.mets)); clear hr4 hb4 hs4 HR3 HR1))
          refine (HB12.out.equal_ (.tail _ (.head _)) (.head _) HD.out.2.2.1 HF.out.2.2.2.2 HF.out.2.1 HF.out.2.2.2.1 HS7.out (x := true) (decide_eq_true HF.out.1) _ _).mono ?_
          rintro e w13 ⟨rfl, hb⟩
          have HB13 := Lib.hid hb
          clear hb HB12
          go_wp2_with fail
          refine (HB13.out.awake_).mono ?_
          rintro e v9 ⟨rfl, hb⟩
          have HB9 := Lib.hid hb
          clear hb
          go_wp2_with fail
          go_ret
          exact ⟨by first | rfl | simp, HB9.out.kept⟩
        · have z2' : (c' == 0) = false := by simpa using z2
          subst z1
          have h1 : (fwB codeM (datM es)).2 = 0 := by rw [HS.out.2.1]
          have h3 := HS3.out.2.1
          rw [datM_append, behind_right HL.out.2.2.2.2.2 h1 HS2.out.2.1 z2, datM_len, HQ.out.1] at h3
          injection h3 with h3 h4
          subst h4
          have hp' : p' < 1000 := by have := (fwB_bad HS2.out.2.1 (by omega) z2).1; have := HQ2.out.1; omega
          have hpe : ((p2 : Int) == (p' : Int) + (len : Int)) = true := by rw [beq_iff_eq]; omega
          have hpe2 : (p2 : Int) = (p' : Int) + (len : Int) := by omega
          have hn7 : n7 = 0 := by
            have h5 := HD.out.2.2.2.trans (HS3.out.2.2.symm.trans (nB_no (by rw [HS3.out.2.1]; exact z2)))
            have := congrArg List.length h5
            rw [datM_len, HD.out.2.2.1] at this; exact this
          subst hn7
          clear h1
          go_wp2_with fail
          refine (HB10.out.awake_).mono ?_
          rintro e v9 ⟨rfl, hb⟩
          have HB9 := Lib.hid hb
          clear hb
          go_wp2_with fail
          go_ret
          exact ⟨by first | rfl | simp, HB9.out.kept⟩
      · have z1' : (c == 0) = false := by simpa using z1
        have h3 := HS3.out.2.1
        rw [datM_append, behind_left HL.out.2.2.2.2.2 HS.out.2.1 z1] at h3
        injection h3 with h3 h4
        subst h3 h4
        have hn7 : n7 = 0 := by
          have h5 := HD.out.2.2.2.trans (HS3.out.2.2.symm.trans (nB_no (by rw [HS3.out.2.1]; exact z1)))
          have := congrArg List.length h5
          rw [datM_len, HD.out.2.2.1] at this; exact this
        subst hn7
        go_wp2_with fail
        refine (HB10.out.awake_).mono ?_
        rintro e v9 ⟨rfl, hb⟩
        have HB9 := Lib.hid hb
        clear hb
        go_wp2_with fail
        go_ret
        exact ⟨by first | rfl | simp, HB9.out.kept⟩
end Go.Proofs.Ytikdolgcdkmmaaa
