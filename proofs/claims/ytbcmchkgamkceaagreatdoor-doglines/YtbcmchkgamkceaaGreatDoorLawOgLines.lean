/-
  The walk of DogLines. No statement of the seat is proved here.
-/
import Derived.Test.YtbcmchkgamkceaaGreatDoorGrOgRefLine
namespace Go.Proofs.YtbcmchkgamkceaaGreatDoor
open Go.RowKit
open Dc (D D0)

set_option maxRecDepth 100000 in
set_option maxHeartbeats 4000000 in
theorem olines_walk {w : World} {s : ByteArray} {A B : Option Addr} {n k ca cb : Nat} {m : Mt} (h : MIs w s A n B k m) (hf : ∀ d ∈ m.vals, d.Fits) (ht : Tab w) :
    Calls Tryz.prog 4 #[mV s m.kind A n ca m.rate B k cb m.time] w fun e w' => e = .returned (.bool true) ∧ Below w.heap.size w w' := by
  obtain ⟨q, hq⟩ : ∃ q, fewM m = q := ⟨_, rfl⟩
  have HZ := Lib.hid (fun (e : q = true) => few_small (hq.trans e) hf)
  have HQ := Lib.hid hq
  have HB := Lib.hid (Kb.enter (ca := ca) (cb := cb) h)
  have HT := Lib.hid ht
  unfold mV
  clear hq h hf ht
  obtain ⟨c0, c1, c2, c3, c4, c5⟩ := HB.out.six (.head _)
  go_enter Tryz.func4, Tryz.ntmps4
  go_wp2_with fail
  refine (HB.out.few_ (.head _) HQ.out _ _).mono ?_
  rintro e w1 ⟨rfl, hb⟩
  have HB1 := Lib.hid hb
  clear hb HB c0 c1 c2 c3 c4 c5
  cases q
  · go_wp2_with fail
    refine (HB1.out.awake11_ HT.out).mono ?_
    rintro e w2 ⟨rfl, hb⟩
    have HB2 := Lib.hid hb
    clear hb HB1
    go_wp2_with fail
    go_ret
    exact ⟨rfl, HB2.out.kept⟩
  · have HS := Lib.hid (HZ.out rfl)
    clear HZ
    obtain ⟨c, hc⟩ : ∃ c, codeM m = c := ⟨_, rfl⟩
    obtain ⟨t, htt⟩ : ∃ t, lineO m = t := ⟨_, rfl⟩
    obtain ⟨m', hm'⟩ : ∃ m', nM m = m' := ⟨_, rfl⟩
    have HC := Lib.hid (And.intro hc (And.intro htt hm'))
    clear hc htt hm'
    obtain ⟨c0, c1, c2, c3, c4, c5⟩ := HB1.out.six (.head _)
    go_wp2_with fail
    refine (HB1.out.oline_ (.head _) HS.out HT.out HC.out.2.1 HC.out.1 _ _).mono ?_
    rintro e w2 ⟨rfl, hb⟩
    have HB2 := Lib.hid hb
    clear hb HB1 c0 c1 c2 c3 c4 c5
    obtain ⟨c0, c1, c2, c3, c4, c5⟩ := HB2.out.six (.head _)
    go_wp2_with fail
    refine (HB2.out.rnormal_ (.head _) HS.out HC.out.1 HC.out.2.2 _ _).mono ?_
    rintro e w3 ⟨s3, A3, n3, ca3, B3, k3, cb3, rfl, hb0⟩
    have HB3 := Lib.hid (hb0.lay (.string s3) (.int .i64 m'.kind) (.slice A3 n3 ca3) (.int .i64 m'.rate) (.slice B3 k3 cb3) (.int .i64 m'.time))
    clear hb0 HB2 c0 c1 c2 c3 c4 c5
    by_cases hc0 : c = 0
    · subst hc0
      have HR := Lib.hid (show RightM m' ∧ lineD m' = t from ⟨by rw [← HC.out.2.2]; exact (nM_right HC.out.1).1, by rw [← HC.out.2.1, ← HC.out.2.2]; exact (lineO_right HC.out.1).symm⟩)
      obtain ⟨c0, c1, c2, c3, c4, c5⟩ := HB3.out.six (.head _)
      have HL := Lib.hid (HB3.out.orline_ (.head _) HR.out.1 HR.out.2 ca3 cb3)
      obtain ⟨u, hu⟩ : ∃ u : ByteArray, (⟨t.toArray⟩ : ByteArray) = u := ⟨_, rfl⟩
      rw [hu] at HL ⊢
      clear hu
      go_wp2_with fail
      refine HL.out.mono ?_
      rintro e w4 ⟨rfl, hb⟩
      have HB4 := Lib.hid hb
      clear hb HB3 HL c0 c1 c2 c3 c4 c5
      go_wp2_with fail
      refine (HB4.out.awake11_ HT.out).mono ?_
      rintro e w5 ⟨rfl, hb⟩
      have HB5 := Lib.hid hb
      clear hb HB4
      go_wp2_with fail
      go_ret
      exact ⟨rfl, HB5.out.kept⟩
    · have hcb : (c != 0) = true := by simpa using hc0
      have ht0 : t = [] := by rw [← HC.out.2.1]; exact lineO_wrong (by rw [HC.out.1]; exact hc0)
      subst ht0
      go_wp2_with fail
      refine (HB3.out.awake11_ HT.out).mono ?_
      rintro e w5 ⟨rfl, hb⟩
      have HB5 := Lib.hid hb
      clear hb HB3
      go_wp2_with fail
      go_ret
      exact ⟨rfl, HB5.out.kept⟩
end Go.Proofs.YtbcmchkgamkceaaGreatDoor
