/-
  The walk of ExprCuts. No statement of the seat is proved here.
-/
import Derived.Test.YteffankkelbhiaaERCut
import Derived.Test.YteffankkelbhiaaEAwake
import Derived.Test.YteffankkelbhiaaBRefE
namespace Go.Proofs.Yteffankkelbhiaa
open Go.RowKit
open Dc (D D0)

theorem cutR_few {m : Mt} {f : Int} (h : fewM m = true) : (cutR m f).length ≤ 80 := by
  unfold cutR
  split
  · unfold cutL
    split
    · show 1 ≤ 80; omega
    · refine Nat.le_trans (List.length_filter_le _ _) ?_
      rw [List.length_map]
      exact (of_decide_eq_true h).2.1
  · exact Nat.zero_le _
theorem cutR_small {m : Mt} {f : Int} (h : Small m) : ∀ x ∈ cutR m f, Small x := by
  intro x hx
  unfold cutR at hx
  split at hx
  · exact cutL_small h x hx
  · cases hx

set_option maxRecDepth 100000 in
set_option maxHeartbeats 8000000 in
theorem ecuts_walk {w : World} {s : ByteArray} {A B : Option Addr} {n k ca cb : Nat} {m : Mt} (h : MIs w s A n B k m) (hf : ∀ d ∈ m.vals, d.Fits) (hc : n ≤ ca ∧ ca ≤ maxLen) {f : Int} (hw : WfI f) :
    Calls Try.prog 5 #[mV s m.kind A n ca m.rate B k cb m.time, .int .i64 f] w fun e w' => e = .returned (.bool true) ∧ Below w.heap.size w w' := by
  obtain ⟨q, hq⟩ : ∃ q, fewM m = q := ⟨_, rfl⟩
  have HZ := Lib.hid (fun (e : q = true) => few_small (hq.trans e) hf)
  have HQ := Lib.hid (And.intro hq (And.intro hc hw))
  have HB := Lib.hid (Kb.enter (ca := ca) (cb := cb) h)
  unfold mV
  clear hq h hf hc hw
  obtain ⟨c0, c1, c2, c3, c4, c5⟩ := HB.out.six (.head _)
  go_enter Try.func5, Try.ntmps5
  go_wp2_with fail
  refine (HB.out.few_ (.head _) HQ.out.1 _ _).mono ?_
  rintro e w1 ⟨rfl, hb⟩
  have HB1 := Lib.hid hb
  clear hb HB c0 c1 c2 c3 c4 c5
  cases q
  · go_wp2_with fail
    refine (awake9_calls _).mono ?_
    rintro e w2 ⟨rfl, hb⟩
    have HB2 := Lib.hid (HB1.out.next hb)
    clear hb HB1
    go_wp2_with fail
    go_ret
    exact ⟨rfl, HB2.out.kept⟩
  · have hz := HZ.out rfl
    have HCt := Lib.hid (cut_calls (ca := ca) (cb := cb) (HB1.out.m (.head _)) hz HQ.out.2.1 HQ.out.2.2)
    unfold mV at HCt
    have HZ1 := Lib.hid hz
    clear hz HZ
    obtain ⟨c0, c1, c2, c3, c4, c5⟩ := HB1.out.six (.head _)
    go_wp2_with fail
    refine HCt.out.mono ?_
    rintro e w2 ⟨⟨A', n', c', cs, rfl, hcu, hd⟩, hb⟩
    have HB2 := Lib.hid (HB1.out.next hb)
    have HC2 := Lib.hid (And.intro hcu.owns.mets (And.intro hd (own_lenM hcu.owns.own)))
    clear hb hcu hd HCt HB1 c0 c1 c2 c3 c4 c5
    obtain ⟨c0, c1, c2, c3, c4, c5⟩ := HB2.out.six (.head _)
    have HR := Lib.hid (rcut_calls (ca := ca) (cb := cb) (HB2.out.m (.head _)) HZ1.out f)
    unfold mV at HR
    go_wp2_with fail
    refine HR.out.mono ?_
    rintro e w3 ⟨⟨A2, n2, c2', cs2, rfl, hm2, hl2, hd2⟩, hb⟩
    have HB3 := Lib.hid (HB2.out.next hb)
    have hm := HC2.out.1.keep hb
    have h80 := cutR_few (f := f) HQ.out.1
    have h1 : n' ≤ 2000 := by have := HC2.out.2.2; have h2 := HC2.out.2.1; have := congrArg List.length h2; rw [datM_len] at this; omega
    have h2 : n2 ≤ 2000 := by have := congrArg List.length hd2; rw [datM_len] at this; omega
    have hsm : Smalls cs := fun e he => cutR_small HZ1.out e.m (by rw [← HC2.out.2.1]; exact List.mem_map.2 ⟨e, he, rfl⟩)
    have hE := rbequal_calls (cap := c') (capb := c2') HC2.out.2.2 hl2 (by omega) (by omega) hm hm2 hsm
    rw [HC2.out.2.1, hd2, decide_eq_true rfl] at hE
    have HE := Lib.hid hE
    clear hb hm hm2 hl2 hd2 h80 h1 h2 hsm hE HR HB2 c0 c1 c2 c3 c4 c5
    go_wp2_with fail
    refine HE.out.mono ?_
    rintro e w4 ⟨rfl, hb⟩
    have HB4 := Lib.hid (HB3.out.next hb)
    clear hb HE HB3
    go_wp2_with fail
    refine (awake9_calls _).mono ?_
    rintro e w5 ⟨rfl, hb⟩
    have HB5 := Lib.hid (HB4.out.next hb)
    clear hb HB4
    go_wp2_with fail
    go_ret
    exact ⟨rfl, HB5.out.kept⟩
end Go.Proofs.Yteffankkelbhiaa
