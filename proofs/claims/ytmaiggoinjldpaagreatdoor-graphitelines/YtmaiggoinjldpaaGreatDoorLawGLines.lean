/-
  The walk of GraphiteLines. No statement of the seat is proved here.
-/
import Derived.Test.YtmaiggoinjldpaaGreatDoorGrAwake
import Derived.Test.YtmaiggoinjldpaaGreatDoorGrRefLine
namespace Go.Proofs.YtmaiggoinjldpaaGreatDoor
open Go.RowKit
open Dc (D D0)

theorem Kb.rmetric12_ {w W : World} {L : List (Nat × TypeId × List Value)} {M : List (ByteArray × Option Addr × Nat × Option Addr × Nat × Mt)} {s : ByteArray} {A B : Option Addr} {n k : Nat} {m : Mt} {c : Int} (h : Kb w L M W) (hm : (s, A, n, B, k, m) ∈ M) (z : Small m) (hx : metricE m 3 = c) (ca cb : Nat) :
    Calls Tryz.prog 7 #[.agg #[.string s, .int .i64 m.kind, .slice A n ca, .int .i64 m.rate, .slice B k cb, .int .i64 m.time], .int .i64 3] W fun e w' => e = .returned (.int .i64 c) ∧ Kb w L M w' := by
  have := rmetric_calls (ca := ca) (cb := cb) (h.m hm) z 3
  rw [hx] at this
  exact this.mono fun e w' k => ⟨k.1, h.next k.2⟩
theorem Kb.rgline_ {w W : World} {L : List (Nat × TypeId × List Value)} {M : List (ByteArray × Option Addr × Nat × Option Addr × Nat × Mt)} {s : ByteArray} {A B : Option Addr} {n k : Nat} {m : Mt} {t : List UInt8} (h : Kb w L M W) (hm : (s, A, n, B, k, m) ∈ M) (hc : metricE m 3 = 0) (hl : lineGT m = t) (ca cb : Nat) :
    Calls Tryz.prog 8 #[.agg #[.string s, .int .i64 m.kind, .slice A n ca, .int .i64 m.rate, .slice B k cb, .int .i64 m.time]] W fun e w' => e = .returned (.string ⟨t.toArray⟩) ∧ Kb w L M w' := by
  obtain ⟨name, d, t, rfl, hsd⟩ := metricE_saidG hc
  have := rgline_calls (ca := ca) (cb := cb) (h.m hm) hsd
  unfold lineGT at hl
  rw [if_pos hc] at hl
  rw [hl] at this
  exact this.mono fun e w' k => ⟨k.1, h.next k.2⟩

set_option maxRecDepth 100000 in
set_option maxHeartbeats 4000000 in
theorem glines_walk {w : World} {s : ByteArray} {A B : Option Addr} {n k ca cb : Nat} {m : Mt} (h : MIs w s A n B k m) (hf : ∀ d ∈ m.vals, d.Fits) (ht : Tab w) :
    Calls Tryz.prog 3 #[mV s m.kind A n ca m.rate B k cb m.time] w fun e w' => e = .returned (.bool true) ∧ Below w.heap.size w w' := by
  obtain ⟨q, hq⟩ : ∃ q, smallM m = q := ⟨_, rfl⟩
  have HZ := Lib.hid (fun (e : q = true) => smallM_small (hq.trans e) hf)
  have HQ := Lib.hid hq
  have HB := Lib.hid (Kb.enter (ca := ca) (cb := cb) h)
  have HT := Lib.hid ht
  unfold mV
  clear hq h hf ht
  obtain ⟨c0, c1, c2, c3, c4, c5⟩ := HB.out.six (.head _)
  go_enter Tryz.func3, Tryz.ntmps3
  go_wp2_with fail
  refine (HB.out.small10_ (.head _) HQ.out _ _).mono ?_
  rintro e w1 ⟨rfl, hb⟩
  have HB1 := Lib.hid hb
  clear hb HB c0 c1 c2 c3 c4 c5
  cases q
  · go_wp2_with fail
    refine (HB1.out.awake12_ HT.out).mono ?_
    rintro e w2 ⟨rfl, hb⟩
    have HB2 := Lib.hid hb
    clear hb HB1
    go_wp2_with fail
    go_ret
    exact ⟨rfl, HB2.out.kept⟩
  · have HS := Lib.hid (HZ.out rfl)
    clear HZ
    obtain ⟨c, hc⟩ : ∃ c, metricE m 3 = c := ⟨_, rfl⟩
    obtain ⟨t, htt⟩ : ∃ t, lineGT m = t := ⟨_, rfl⟩
    have HC := Lib.hid (And.intro hc htt)
    clear hc htt
    obtain ⟨c0, c1, c2, c3, c4, c5⟩ := HB1.out.six (.head _)
    go_wp2_with fail
    refine (HB1.out.gline_ (.head _) HS.out HT.out HC.out.2 HC.out.1 _ _).mono ?_
    rintro e w2 ⟨rfl, hb⟩
    have HB2 := Lib.hid hb
    clear hb HB1 c0 c1 c2 c3 c4 c5
    obtain ⟨c0, c1, c2, c3, c4, c5⟩ := HB2.out.six (.head _)
    go_wp2_with fail
    refine (HB2.out.rmetric12_ (.head _) HS.out HC.out.1 _ _).mono ?_
    rintro e w3 ⟨rfl, hb⟩
    have HB3 := Lib.hid hb
    clear hb HB2 c0 c1 c2 c3 c4 c5
    by_cases hc0 : c = 0
    · subst hc0
      obtain ⟨c0, c1, c2, c3, c4, c5⟩ := HB3.out.six (.head _)
      have HL := Lib.hid (HB3.out.rgline_ (.head _) HC.out.1 HC.out.2 ca cb)
      obtain ⟨u, hu⟩ : ∃ u : ByteArray, (⟨t.toArray⟩ : ByteArray) = u := ⟨_, rfl⟩
      rw [hu] at HL ⊢
      clear hu
      go_wp2_with fail
      refine HL.out.mono ?_
      rintro e w4 ⟨rfl, hb⟩
      have HB4 := Lib.hid hb
      clear hb HB3 HL c0 c1 c2 c3 c4 c5
      go_wp2_with fail
      refine (HB4.out.awake12_ HT.out).mono ?_
      rintro e w5 ⟨rfl, hb⟩
      have HB5 := Lib.hid hb
      clear hb HB4
      go_wp2_with fail
      go_ret
      exact ⟨rfl, HB5.out.kept⟩
    · have hcb : (c != 0) = true := by simpa using hc0
      have ht0 : t = [] := by rw [← HC.out.2]; unfold lineGT; rw [HC.out.1, if_neg hc0]
      subst ht0
      go_wp2_with fail
      refine (HB3.out.awake12_ HT.out).mono ?_
      rintro e w5 ⟨rfl, hb⟩
      have HB5 := Lib.hid hb
      clear hb HB3
      go_wp2_with fail
      go_ret
      exact ⟨rfl, HB5.out.kept⟩
end Go.Proofs.YtmaiggoinjldpaaGreatDoor
