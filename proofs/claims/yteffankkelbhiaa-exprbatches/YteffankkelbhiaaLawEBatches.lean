/-
  The walk of ExprBatches. No statement of the seat is proved here.
-/
import Derived.Test.YteffankkelbhiaaEBatch
import Derived.Test.YteffankkelbhiaaEAwake
namespace Go.Proofs.Yteffankkelbhiaa
open Go.RowKit
open Dc (D D0)

/-- Few batches are small ones. -/
theorem few_smalls {es : List En} (h : fewB (datM es) = true) (hf : ∀ e ∈ es, ∀ d ∈ e.m.vals, d.Fits) : Smalls es ∧ es.length ≤ 12 := by
  obtain ⟨h1, h2⟩ := fewB_ok h
  rw [datM_len] at h1
  exact ⟨fun e he => few_small (h2 _ (List.mem_map.2 ⟨e, he, rfl⟩)) (hf e he), h1⟩

set_option maxRecDepth 100000 in
set_option maxHeartbeats 8000000 in
theorem ebatches_walk {w : World} {A : Option Addr} {len cap : Nat} {es : List En} (hlen : es.length = len) (hM : Mets w A es) (hf : ∀ e ∈ es, ∀ d ∈ e.m.vals, d.Fits) (hz : len ≤ maxLen) {f : Int} (hw : WfI f) :
    Calls Try.prog 4 #[.slice A len cap, .int .i64 f] w fun e w' => e = .returned (.bool true) ∧ Below w.heap.size w w' := by
  obtain ⟨q, hq⟩ : ∃ q, fewB (datM es) = q := ⟨_, rfl⟩
  have HQ := Lib.hid (And.intro hlen (And.intro hq (And.intro hf (And.intro hM hw))))
  have HF := Lib.hid (fewb_calls (cap := cap) hlen hM (show (len : Int) ≤ 9223372036854775807 by unfold maxLen at hz; omega))
  rw [hq] at HF
  clear hM hlen hq hf hz hw
  go_enter Try.func4, Try.ntmps4
  go_wp2_with fail
  refine HF.out.mono ?_
  rintro e w1 ⟨rfl, hb⟩
  have HB1 := Lib.hid hb
  clear hb HF
  cases q
  · go_wp2_with fail
    refine (awake9_calls _).mono ?_
    rintro e w9 ⟨rfl, hb⟩
    have HB9 := Lib.hid (below_then HB1.out hb)
    clear hb
    go_wp2_with fail
    go_ret
    exact ⟨rfl, HB9.out⟩
  · obtain ⟨hs, hl⟩ := few_smalls HQ.out.2.1 HQ.out.2.2.1
    obtain ⟨p, hp⟩ : ∃ p, batchE (datM es) f = p := ⟨_, rfl⟩
    obtain ⟨p1, p2⟩ := p
    have hz : len ≤ 2000 := by have := HQ.out.1; omega
    have HA := Lib.hid (ebatch_calls (cap := cap) HQ.out.1 hz (HQ.out.2.2.2.1.keep HB1.out) hs HQ.out.2.2.2.2)
    have HR := Lib.hid (fun W (b : Below w1.heap.size w1 W) => rebatch_calls (cap := cap) HQ.out.1 hz ((HQ.out.2.2.2.1.keep HB1.out).keep b) hs f)
    rw [hp] at HA
    simp only [hp] at HR
    clear hs hl hz hp
    go_wp2_with fail
    refine HA.out.mono ?_
    rintro e w2 ⟨rfl, hb⟩
    have HB2 := Lib.hid hb
    clear hb HA
    go_wp2_with fail
    refine (HR.out _ HB2.out).mono ?_
    rintro e w3 ⟨rfl, hb⟩
    have HB3 := Lib.hid (below_then HB1.out (below_then HB2.out hb))
    clear hb HB2 HR
    go_wp2_with fail
    refine (awake9_calls _).mono ?_
    rintro e w9 ⟨rfl, hb⟩
    have HB9 := Lib.hid (below_then HB3.out hb)
    clear hb
    go_wp2_with fail
    go_ret
    exact ⟨rfl, HB9.out⟩
end Go.Proofs.Yteffankkelbhiaa
