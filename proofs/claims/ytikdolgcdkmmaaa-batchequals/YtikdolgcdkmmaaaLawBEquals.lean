/-
  The walk of BatchEquals. No statement of the seat is proved here.
-/
import Derived.Test.YtikdolgcdkmmaaaBLaw
namespace Go.Proofs.Ytikdolgcdkmmaaa
open Go.RowKit
open Dc (D D0)

set_option maxRecDepth 100000 in
set_option maxHeartbeats 8000000 in
theorem bequals_walk {w : World} {A B : Option Addr} {len cap lenb capb : Nat} {es fs : List En} (hlen : es.length = len) (hM : Mets w A es) (hf : ∀ e ∈ es, ∀ d ∈ e.m.vals, d.Fits) (hz : len ≤ maxLen)
    (hlenb : fs.length = lenb) (hMb : Mets w B fs) (hfb : ∀ e ∈ fs, ∀ d ∈ e.m.vals, d.Fits) (hzb : lenb ≤ maxLen) :
    Calls Try.prog 5 #[.slice A len cap, .slice B lenb capb] w fun e w' => e = .returned (.bool true) ∧ Below w.heap.size w w' := by
  obtain ⟨q, hq⟩ : ∃ q, fewB (datM es) = q := ⟨_, rfl⟩
  obtain ⟨q2, hq2⟩ : ∃ q, fewB (datM fs) = q := ⟨_, rfl⟩
  have HB := Lib.hid (((Bt.start w).add hMb).add hM)
  have HQ := Lib.hid (And.intro hlen (And.intro hq hf))
  have HQ2 := Lib.hid (And.intro hlenb (And.intro hq2 hfb))
  have HZ := Lib.hid (And.intro (show (len : Int) ≤ 9223372036854775807 by unfold maxLen at hz; omega) (show (lenb : Int) ≤ 9223372036854775807 by unfold maxLen at hzb; omega))
  clear hM hlen hq hf hz hMb hlenb hq2 hfb hzb
  go_enter Try.func5, Try.ntmps5
  go_wp2_with fail
  refine (HB.out.few_ (.head _) HQ.out.1 HZ.out.1 HQ.out.2.1 _).mono ?_
  rintro e w1 ⟨rfl, hb⟩
  have HB1 := Lib.hid hb
  clear hb HB
  cases q
  · go_wp2_with fail
    refine (HB1.out.awake_).mono ?_
    rintro e w9 ⟨rfl, hb⟩
    have HB9 := Lib.hid hb
    clear hb
    go_wp2_with fail
    go_ret
    exact ⟨rfl, HB9.out.kept⟩
  · go_wp2_with fail
    refine (HB1.out.few_ (.tail _ (.head _)) HQ2.out.1 HZ.out.2 HQ2.out.2.1 _).mono ?_
    rintro e w2 ⟨rfl, hb⟩
    have HB2 := Lib.hid hb
    clear hb HB1
    cases q2
    · go_wp2_with fail
      refine (HB2.out.awake_).mono ?_
      rintro e w9 ⟨rfl, hb⟩
      have HB9 := Lib.hid hb
      clear hb
      go_wp2_with fail
      go_ret
      exact ⟨rfl, HB9.out.kept⟩
    · obtain ⟨hs, hl⟩ := few_smalls HQ.out.2.1 HQ.out.2.2
      obtain ⟨hs2, hl2⟩ := few_smalls HQ2.out.2.1 HQ2.out.2.2
      obtain ⟨p, c, hpc⟩ : ∃ p c, fwB codeM (datM es) = (p, c) := ⟨_, _, rfl⟩
      obtain ⟨p', c', hpc'⟩ : ∃ p c, fwB codeM (datM fs) = (p, c) := ⟨_, _, rfl⟩
      obtain ⟨r, hr⟩ : ∃ r, nB (datM es) = r := ⟨_, rfl⟩
      obtain ⟨r', hr'⟩ : ∃ r, nB (datM fs) = r := ⟨_, rfl⟩
      obtain ⟨xe, hxe⟩ : ∃ x, decide (datM es = datM fs) = x := ⟨_, rfl⟩
      obtain ⟨ns, hns⟩ : ∃ ns, namesOf (datM es) = ns := ⟨_, rfl⟩
      obtain ⟨k, hk⟩ : ∃ k, ns.length = k := ⟨_, rfl⟩
      have HL := Lib.hid (And.intro (show len ≤ 2000 by have := HQ.out.1; omega) (show lenb ≤ 2000 by have := HQ2.out.1; omega))
      have HS := Lib.hid (And.intro hs (And.intro hpc hr))
      have HS2 := Lib.hid (And.intro hs2 (And.intro hpc' hr'))
      have HX := Lib.hid (And.intro hxe (And.intro hns hk))
      have HK := Lib.hid (show k ≤ 1000000 by have := namesOf_len (datM es); rw [hns, hk, datM_len] at this; omega)
      clear hs hl hs2 hl2 hpc hpc' hr hr' hxe hns hk
      go_wp2_with fail
      refine (HB2.out.rnormal_ (.head _) HQ.out.1 HL.out.1 HS.out.1 HS.out.2.1 HS.out.2.2 _).mono ?_
      rintro e w4 ⟨A4, n4, k4, f4, rfl, hl4, hd4, hb⟩
      have HB4 := Lib.hid hb
      clear hb HB2
      go_wp2_with fail
      refine (HB4.out.rnormal_ (.tail _ (.tail _ (.head _))) HQ2.out.1 HL.out.2 HS2.out.1 HS2.out.2.1 HS2.out.2.2 _).mono ?_
      rintro e w5 ⟨A5, n5, k5, f5, rfl, hl5, hd5, hb⟩
      have HB5 := Lib.hid hb
      have HD := Lib.hid (And.intro hl4 (And.intro hd4 (And.intro hl5 hd5)))
      have HN := Lib.hid (And.intro (show n4 ≤ 2000 by have := len_n (hd4.trans HS.out.2.2.symm); have := HL.out; have := HQ.out.1; omega) (show n5 ≤ 2000 by have := len_n (hd5.trans HS2.out.2.2.symm); have := HL.out; have := HQ2.out.1; omega))
      have HS4 := Lib.hid (smalls_n HS.out.1 (hd4.trans HS.out.2.2.symm))
      clear hb HB4 hl4 hd4 hl5 hd5
      by_cases z1 : c = 0
      · by_cases z2 : c' = 0
        · obtain ⟨xs, hxs⟩ : ∃ x, decide (r = r') = x := ⟨_, rfl⟩
          have HXS := Lib.hid (show decide (datM f4 = datM f5) = xs by rw [HD.out.2.1, HD.out.2.2.2]; exact hxs)
          have HSM := Lib.hid (show sameB (datM es) (datM fs) = xs by unfold sameB; rw [HS.out.2.1, HS2.out.2.1, HS.out.2.2, HS2.out.2.2, decide_eq_true z1, decide_eq_true z2, hxs]; simp)
          clear hxs
          go_wp2_with fail
          refine (HB5.out.requal_ (.tail _ (.head _)) (.head _) HD.out.1 HD.out.2.2.1 HN.out.1 HN.out.2 HS4.out HXS.out _ _).mono ?_
          rintro e w6 ⟨rfl, hb⟩
          have HB6 := Lib.hid hb
          clear hb HB5
          go_wp2_with fail
          refine (HB6.out.equal_ (.tail _ (.tail _ (.head _))) (.tail _ (.tail _ (.tail _ (.head _)))) HQ.out.1 HQ2.out.1 HL.out.1 HL.out.2 HS.out.1 HX.out.1 _ _).mono ?_
          rintro e v1 ⟨rfl, hb⟩
          have HC1 := Lib.hid hb
          clear hb HB6
          go_wp2_with fail
          refine (HC1.out.requal_ (.tail _ (.tail _ (.head _))) (.tail _ (.tail _ (.tail _ (.head _)))) HQ.out.1 HQ2.out.1 HL.out.1 HL.out.2 HS.out.1 HX.out.1 _ _).mono ?_
          rintro e v2 ⟨rfl, hb⟩
          have HC2 := Lib.hid hb
          clear hb HC1
          go_wp2_with fail
          refine (HC2.out.same_ (.tail _ (.tail _ (.head _))) (.tail _ (.tail _ (.tail _ (.head _)))) HQ.out.1 HQ2.out.1 HL.out.1 HL.out.2 HS.out.1 HS2.out.1 (x := xs) (HSM.out) _ _).mono ?_
          rintro e v3 ⟨rfl, hb⟩
          have HC3 := Lib.hid hb
          clear hb HC2
          go_wp2_with fail
          refine (HC3.out.names_ (.tail _ (.tail _ (.head _))) HQ.out.1 HL.out.1 HS.out.1 HX.out.2.1 HX.out.2.2 _).mono ?_
          rintro e v4 ⟨N4, c4, rfl, hnc, hb⟩
          have HC4 := Lib.hid hb
          clear hb HC3
          go_wp2_with fail
          refine (HC4.out.rnames_ (.tail _ (.tail _ (.head _))) HQ.out.1 HL.out.1 HX.out.2.1 HX.out.2.2 _).mono ?_
          rintro e v5 ⟨N5, c5, rfl, hb⟩
          have HC5 := Lib.hid hb
          clear hb HC4
          go_wp2_with fail
          refine (HC5.out.texts_ (.tail _ (.head _)) (.head _) HX.out.2.2 HX.out.2.2 HK.out (x := true) (decide_eq_true rfl) _ _).mono ?_
          rintro e v6 ⟨rfl, hb⟩
          have HC6 := Lib.hid hb
          clear hb HC5
          go_wp2_with fail
          refine HC6.out.awake_.mono ?_
          rintro e v7 ⟨rfl, hb⟩
          have HC7 := Lib.hid hb
          clear hb HC6
          go_wp2_with fail
          go_ret
          exact ⟨by first | rfl | simp, HC7.out.kept⟩
        · have HSM := Lib.hid (show sameB (datM es) (datM fs) = false by unfold sameB; rw [HS.out.2.1, HS2.out.2.1, decide_eq_false z2]; simp)
          have z2' : (c' == 0) = false := by simpa using z2
          go_wp2_with fail
          refine (HB5.out.equal_ (.tail _ (.tail _ (.head _))) (.tail _ (.tail _ (.tail _ (.head _)))) HQ.out.1 HQ2.out.1 HL.out.1 HL.out.2 HS.out.1 HX.out.1 _ _).mono ?_
          rintro e v1 ⟨rfl, hb⟩
          have HC1 := Lib.hid hb
          clear hb HB5
          go_wp2_with fail
          refine (HC1.out.requal_ (.tail _ (.tail _ (.head _))) (.tail _ (.tail _ (.tail _ (.head _)))) HQ.out.1 HQ2.out.1 HL.out.1 HL.out.2 HS.out.1 HX.out.1 _ _).mono ?_
          rintro e v2 ⟨rfl, hb⟩
          have HC2 := Lib.hid hb
          clear hb HC1
          go_wp2_with fail
          refine (HC2.out.same_ (.tail _ (.tail _ (.head _))) (.tail _ (.tail _ (.tail _ (.head _)))) HQ.out.1 HQ2.out.1 HL.out.1 HL.out.2 HS.out.1 HS2.out.1 (x := false) (HSM.out) _ _).mono ?_
          rintro e v3 ⟨rfl, hb⟩
          have HC3 := Lib.hid hb
          clear hb HC2
          go_wp2_with fail
          refine (HC3.out.names_ (.tail _ (.tail _ (.head _))) HQ.out.1 HL.out.1 HS.out.1 HX.out.2.1 HX.out.2.2 _).mono ?_
          rintro e v4 ⟨N4, c4, rfl, hnc, hb⟩
          have HC4 := Lib.hid hb
          clear hb HC3
          go_wp2_with fail
          refine (HC4.out.rnames_ (.tail _ (.tail _ (.head _))) HQ.out.1 HL.out.1 HX.out.2.1 HX.out.2.2 _).mono ?_
          rintro e v5 ⟨N5, c5, rfl, hb⟩
          have HC5 := Lib.hid hb
          clear hb HC4
          go_wp2_with fail
          refine (HC5.out.texts_ (.tail _ (.head _)) (.head _) HX.out.2.2 HX.out.2.2 HK.out (x := true) (decide_eq_true rfl) _ _).mono ?_
          rintro e v6 ⟨rfl, hb⟩
          have HC6 := Lib.hid hb
          clear hb HC5
          go_wp2_with fail
          refine HC6.out.awake_.mono ?_
          rintro e v7 ⟨rfl, hb⟩
          have HC7 := Lib.hid hb
          clear hb HC6
          go_wp2_with fail
          go_ret
          exact ⟨by first | rfl | simp, HC7.out.kept⟩
      · have HSM := Lib.hid (show sameB (datM es) (datM fs) = false by unfold sameB; rw [HS.out.2.1, decide_eq_false z1]; simp)
        have z1' : (c == 0) = false := by simpa using z1
        go_wp2_with fail
        refine (HB5.out.equal_ (.tail _ (.tail _ (.head _))) (.tail _ (.tail _ (.tail _ (.head _)))) HQ.out.1 HQ2.out.1 HL.out.1 HL.out.2 HS.out.1 HX.out.1 _ _).mono ?_
        rintro e v1 ⟨rfl, hb⟩
        have HC1 := Lib.hid hb
        clear hb HB5
        go_wp2_with fail
        refine (HC1.out.requal_ (.tail _ (.tail _ (.head _))) (.tail _ (.tail _ (.tail _ (.head _)))) HQ.out.1 HQ2.out.1 HL.out.1 HL.out.2 HS.out.1 HX.out.1 _ _).mono ?_
        rintro e v2 ⟨rfl, hb⟩
        have HC2 := Lib.hid hb
        clear hb HC1
        go_wp2_with fail
        refine (HC2.out.same_ (.tail _ (.tail _ (.head _))) (.tail _ (.tail _ (.tail _ (.head _)))) HQ.out.1 HQ2.out.1 HL.out.1 HL.out.2 HS.out.1 HS2.out.1 (x := false) (HSM.out) _ _).mono ?_
        rintro e v3 ⟨rfl, hb⟩
        have HC3 := Lib.hid hb
        clear hb HC2
        go_wp2_with fail
        refine (HC3.out.names_ (.tail _ (.tail _ (.head _))) HQ.out.1 HL.out.1 HS.out.1 HX.out.2.1 HX.out.2.2 _).mono ?_
        rintro e v4 ⟨N4, c4, rfl, hnc, hb⟩
        have HC4 := Lib.hid hb
        clear hb HC3
        go_wp2_with fail
        refine (HC4.out.rnames_ (.tail _ (.tail _ (.head _))) HQ.out.1 HL.out.1 HX.out.2.1 HX.out.2.2 _).mono ?_
        rintro e v5 ⟨N5, c5, rfl, hb⟩
        have HC5 := Lib.hid hb
        clear hb HC4
        go_wp2_with fail
        refine (HC5.out.texts_ (.tail _ (.head _)) (.head _) HX.out.2.2 HX.out.2.2 HK.out (x := true) (decide_eq_true rfl) _ _).mono ?_
        rintro e v6 ⟨rfl, hb⟩
        have HC6 := Lib.hid hb
        clear hb HC5
        go_wp2_with fail
        refine HC6.out.awake_.mono ?_
        rintro e v7 ⟨rfl, hb⟩
        have HC7 := Lib.hid hb
        clear hb HC6
        go_wp2_with fail
        go_ret
        exact ⟨by first | rfl | simp, HC7.out.kept⟩
end Go.Proofs.Ytikdolgcdkmmaaa
