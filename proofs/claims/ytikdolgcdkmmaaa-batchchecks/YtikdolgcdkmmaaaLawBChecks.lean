/-
  The walk of BatchChecks. No statement of the seat is proved here.
-/
import Derived.Test.YtikdolgcdkmmaaaBLaw
namespace Go.Proofs.Ytikdolgcdkmmaaa
open Go.RowKit
open Dc (D D0)

set_option maxRecDepth 100000 in
set_option maxHeartbeats 4000000 in
theorem bchecks_walk {w : World} {A : Option Addr} {len cap : Nat} {es : List En} (hlen : es.length = len) (hM : Mets w A es) (hf : ∀ e ∈ es, ∀ d ∈ e.m.vals, d.Fits) (hz : len ≤ maxLen) :
    Calls Try.prog 4 #[.slice A len cap] w fun e w' => e = .returned (.bool true) ∧ Below w.heap.size w w' := by
  obtain ⟨q, hq⟩ : ∃ q, fewB (datM es) = q := ⟨_, rfl⟩
  have HB := Lib.hid ((Bt.start w).add hM)
  have HQ := Lib.hid (And.intro hlen (And.intro hq hf))
  have HZ := Lib.hid (show (len : Int) ≤ 9223372036854775807 by unfold maxLen at hz; omega)
  clear hM hlen hq hf hz
  go_enter Try.func4, Try.ntmps4
  go_wp2_with fail
  refine (HB.out.few_ (.head _) HQ.out.1 HZ.out HQ.out.2.1 _).mono ?_
  rintro e w1 ⟨rfl, hb⟩
  have HB1 := Lib.hid hb
  clear hb HB
  cases q
  · go_wp2_with fail
    refine HB1.out.awake_.mono ?_
    rintro e w2 ⟨rfl, hb⟩
    have HB2 := Lib.hid hb
    clear hb
    go_wp2_with fail
    go_ret
    exact ⟨rfl, HB2.out.kept⟩
  · obtain ⟨hs, hl⟩ := few_smalls HQ.out.2.1 HQ.out.2.2
    obtain ⟨p, c, hpc⟩ : ∃ p c, fwB checkM (datM es) = (p, c) := ⟨_, _, rfl⟩
    obtain ⟨p', c', hpc'⟩ : ∃ p c, fwB codeM (datM es) = (p, c) := ⟨_, _, rfl⟩
    obtain ⟨r, hr⟩ : ∃ r, nB (datM es) = r := ⟨_, rfl⟩
    have HL := Lib.hid (show len ≤ 2000 by have := HQ.out.1; omega)
    have HS := Lib.hid (And.intro hs (And.intro hpc (And.intro hpc' hr)))
    clear hs hl hpc hpc' hr
    go_wp2_with fail
    refine (HB1.out.check_ (.head _) HQ.out.1 HL.out HS.out.1 HS.out.2.1 _).mono ?_
    rintro e w2 ⟨rfl, hb⟩
    have HB2 := Lib.hid hb
    clear hb HB1
    go_wp2_with fail
    refine (HB2.out.rcheck_ (.head _) HQ.out.1 HL.out HS.out.1 HS.out.2.1 _).mono ?_
    rintro e w3 ⟨rfl, hb⟩
    have HB3 := Lib.hid hb
    clear hb HB2
    go_wp2_with fail
    refine (HB3.out.normal_ (.head _) HQ.out.1 HL.out HS.out.1 HS.out.2.2.1 HS.out.2.2.2 _).mono ?_
    rintro e w4 ⟨A4, n4, k4, f4, rfl, hl4, hd4, hb⟩
    have HB4 := Lib.hid hb
    clear hb HB3
    go_wp2_with fail
    refine (HB4.out.rnormal_ (.tail _ (.head _)) HQ.out.1 HL.out HS.out.1 HS.out.2.2.1 HS.out.2.2.2 _).mono ?_
    rintro e w5 ⟨A5, n5, k5, f5, rfl, hl5, hd5, hb⟩
    have HB5 := Lib.hid hb
    have HD := Lib.hid (And.intro hl4 (And.intro hd4 (And.intro hl5 hd5)))
    have HN := Lib.hid (And.intro (show n4 ≤ 2000 by have := len_n (hd4.trans HS.out.2.2.2.symm); have := HL.out; have := HQ.out.1; omega) (show n5 ≤ 2000 by have := len_n (hd5.trans HS.out.2.2.2.symm); have := HL.out; have := HQ.out.1; omega))
    have HS4 := Lib.hid (smalls_n HS.out.1 (hd4.trans HS.out.2.2.2.symm))
    clear hb HB4 hl4 hd4 hl5 hd5
    go_wp2_with fail
    refine (HB5.out.requal_ (.tail _ (.head _)) (.head _) HD.out.1 HD.out.2.2.1 HN.out.1 HN.out.2 HS4.out (x := true) (by rw [HD.out.2.1, HD.out.2.2.2]; exact decide_eq_true rfl) _ _).mono ?_
    rintro e w6 ⟨rfl, hb⟩
    have HB6 := Lib.hid hb
    clear hb HB5
    go_wp2_with fail
    refine HB6.out.awake_.mono ?_
    rintro e w7 ⟨rfl, hb⟩
    have HB7 := Lib.hid hb
    clear hb HB6
    go_wp2_with fail
    go_ret
    exact ⟨rfl, HB7.out.kept⟩
end Go.Proofs.Ytikdolgcdkmmaaa
