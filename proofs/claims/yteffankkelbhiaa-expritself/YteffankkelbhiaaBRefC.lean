/-
  The document's Check of batches, and Few. No statement of the seat is proved here.
-/
import Derived.Test.YteffankkelbhiaaBNm0
import Derived.Test.YteffankkelbhiaaMRef3
import Derived.Test.YteffankkelbhiaaMA0
namespace Go.Proofs.Yteffankkelbhiaa
open Go.RowKit
open Dc (D D0)

set_option maxRecDepth 100000 in
set_option maxHeartbeats 4000000 in
theorem rbcheck_calls {w : World} {A : Option Addr} {len cap : Nat} {es : List En} (hlen : es.length = len) (hz : len ≤ 2000) (hM : Mets w A es) (hs : ∀ e ∈ es, Small e.m) :
    Calls Try.prog 26 #[.slice A len cap] w fun e w' => e = .returned (.tuple #[.int .i64 ((fwB checkM (datM es)).1 : Int), .int .i64 (fwB checkM (datM es)).2]) ∧ Below w.heap.size w w' := by
  obtain ⟨p, hp⟩ : ∃ p, fwB checkM (datM es) = p := ⟨_, rfl⟩
  rw [hp]
  obtain ⟨p1, p2⟩ := p
  have HH := Lib.hid (And.intro hlen (And.intro hM hs))
  by_cases h1 : 1000 < len
  · rw [fwB_out (by omega)] at hp
    injection hp with e1 e2
    subst e1 e2
    have g1 : (1000 : Int) < (len : Int) := by omega
    clear hlen hM hs
    go_enter Try.func26, Try.ntmps26
    go_wp2_with fail
    go_ret2
    exact ⟨rfl, Below.refl _ _⟩
  · rw [fwB_in (by omega)] at hp
    have HP := Lib.hid hp
    have g1 : ¬ (1000 : Int) < (len : Int) := by omega
    clear hlen hM hs hp
    go_enter Try.func26, Try.ntmps26
    go_wp2_with fail
    go_loopw [4] (fun v4 wr => ∃ i : Nat, v4 = .int .i64 i ∧ i ≤ len ∧ Hid (Below w.heap.size w wr ∧ ∀ (j : Nat) x, es[j]? = some x → j < i → checkM x.m = 0)) (fun v4 _ => len - (intOf v4).toNat)
    case atStart => exact ⟨0, rfl, by omega, ⟨Below.refl _ _, fun j _ _ hj => absurd hj (by omega)⟩⟩
    case round =>
      obtain ⟨i, rfl, hi, hrel⟩ := hrel
      by_cases hlt : i < len
      · have g2 : (i : Int) < (len : Int) := by omega
        have g3 : (0 : Int) ≤ (i : Int) := by omega
        obtain ⟨hlen, hM, hs⟩ := HH.out
        have hie : es[i]? = some (es[i]'(by omega)) := List.getElem?_eq_getElem (by omega)
        generalize es[i]'(by omega) = x at hie
        have hMr := hM.keep hrel.out.1
        obtain ⟨b, off, eA, c0, c1, c2, c3, c4, c5⟩ := hMr.get hie
        subst eA
        have hC := rmcheck_calls (ca := x.ca) (cb := x.cb) (hMr.one hie) (hs x (List.mem_of_getElem? hie))
        unfold mV at hC
        obtain ⟨c, hc⟩ : ∃ c, checkM x.m = c := ⟨_, rfl⟩
        rw [hc] at hC
        have HC := Lib.hid hC
        have HI := Lib.hid (And.intro hie hc)
        clear hlen hM hs hMr hC hc hie
        go_wp2_with fail
        refine HC.out.mono ?_
        rintro e w2 ⟨rfl, hb⟩
        have HB := Lib.hid (below_then hrel.out.1 hb)
        clear hb HC c0 c1 c2 c3 c4 c5
        by_cases hc0 : c = 0
        · have HE := Lib.hid hc0
          go_wp2_with fail
          refine ⟨⟨i + 1, by go_num, by omega, ⟨HB.out, fun j y hj hlt => ?_⟩⟩, by simp [intOf]; omega⟩
          rcases Nat.lt_or_ge j i with h | h
          · exact hrel.out.2 j y hj h
          · obtain rfl : i = j := by omega
            rw [HI.out.1] at hj
            injection hj with hj
            subst hj
            exact HI.out.2.trans HE.out
        · have HE := Lib.hid hc0
          go_wp2_with fail
          go_ret2
          have := HP.out.symm.trans (fw_at hrel.out.2 HI.out.1 (by rw [HI.out.2]; exact HE.out))
          injection this with e1 e2
          rw [e1, e2, HI.out.2]
          exact ⟨rfl, HB.out⟩
      · have g2 : ¬ (i : Int) < (len : Int) := by omega
        go_wp2_with fail
        go_ret2
        have := HP.out.symm.trans (fw_full (C := checkM) (es := es) fun j y hj => hrel.out.2 j y hj (by have := (List.getElem?_eq_some_iff.1 hj).1; have := HH.out.1; omega))
        injection this with e1 e2
        rw [e1, e2]
        exact ⟨rfl, hrel.out.1⟩

/-- Whether there are up to 12 metrics, none of which is too great. -/
def fewB (ms : List Mt) : Bool := (ms.take 13).all fewM && decide (ms.length ≤ 12)
theorem fewB_ok {ms : List Mt} (h : fewB ms = true) : ms.length ≤ 12 ∧ ∀ m ∈ ms, fewM m = true := by
  unfold fewB at h
  rw [Bool.and_eq_true, decide_eq_true_eq] at h
  refine ⟨h.2, fun m hm => ?_⟩
  rw [List.take_of_length_le (by omega)] at h
  exact List.all_eq_true.1 h.1 m hm

set_option maxRecDepth 100000 in
set_option maxHeartbeats 4000000 in
theorem fewb_calls {w : World} {A : Option Addr} {len cap : Nat} {es : List En} (hlen : es.length = len) (hM : Mets w A es) (hz : (len : Int) ≤ 9223372036854775807) :
    Calls Try.prog 13 #[.slice A len cap] w fun e w' => e = .returned (.bool (fewB (datM es))) ∧ Below w.heap.size w w' := by
  obtain ⟨q, hq⟩ : ∃ q, fewB (datM es) = q := ⟨_, rfl⟩
  rw [hq]
  have HQ := Lib.hid hq
  have HH := Lib.hid (And.intro hlen hM)
  clear hlen hM hq
  go_enter Try.func13, Try.ntmps13
  go_wp2_with fail
  go_loopw [3] (fun v4 wr => ∃ i : Nat, v4 = .int .i64 i ∧ i ≤ len ∧ i ≤ 13 ∧ Hid (Below w.heap.size w wr ∧ ∀ (j : Nat) x, es[j]? = some x → j < i → fewM x.m = true)) (fun v4 _ => 13 - (intOf v4).toNat)
  case atStart => exact ⟨0, rfl, by omega, by omega, ⟨Below.refl _ _, fun j _ _ hj => absurd hj (by omega)⟩⟩
  case round =>
    obtain ⟨i, rfl, hi, hi2, hrel⟩ := hrel
    by_cases hlt : i < len ∧ i < 13
    · obtain ⟨h1, h2⟩ := hlt
      have g2 : (i : Int) < (len : Int) := by omega
      have g3 : (0 : Int) ≤ (i : Int) := by omega
      have g4 : (i : Int) < 13 := by omega
      obtain ⟨hlen, hM⟩ := HH.out
      have hie : es[i]? = some (es[i]'(by omega)) := List.getElem?_eq_getElem (by omega)
      generalize es[i]'(by omega) = x at hie
      have hMr := hM.keep hrel.out.1
      obtain ⟨b, off, eA, c0, c1, c2, c3, c4, c5⟩ := hMr.get hie
      subst eA
      have hC := fewm_calls (ca := x.ca) (cb := x.cb) (hMr.one hie)
      unfold mV at hC
      obtain ⟨c, hc⟩ : ∃ c, fewM x.m = c := ⟨_, rfl⟩
      rw [hc] at hC
      have HC := Lib.hid hC
      have HI := Lib.hid (And.intro hie hc)
      clear hlen hM hMr hC hc hie
      go_wp2_with fail
      refine HC.out.mono ?_
      rintro e w2 ⟨rfl, hb⟩
      have HB := Lib.hid (below_then hrel.out.1 hb)
      clear hb HC c0 c1 c2 c3 c4 c5
      cases c
      · go_wp2_with fail
        go_ret
        have hf : fewB (datM es) = false := by
          refine Bool.eq_false_iff.2 fun h => ?_
          have h3 := fewB_ok h
          have := h3.2 x.m (List.mem_map.2 ⟨x, List.mem_of_getElem? HI.out.1, rfl⟩)
          rw [HI.out.2] at this; cases this
        rw [← HQ.out, hf]
        exact ⟨rfl, HB.out⟩
      · go_wp2_with fail
        refine ⟨⟨i + 1, by go_num, by omega, by omega, ⟨HB.out, fun j y hj hlt => ?_⟩⟩, by simp [intOf]; omega⟩
        rcases Nat.lt_or_ge j i with h | h
        · exact hrel.out.2 j y hj h
        · obtain rfl : i = j := by omega
          rw [HI.out.1] at hj
          injection hj with hj
          subst hj
          exact HI.out.2
    · have HE := Lib.hid (show fewB (datM es) = decide (len ≤ 12) by
        have hl := HH.out.1
        unfold fewB
        rw [datM_len, hl]
        by_cases h12 : len ≤ 12
        · rw [decide_eq_true h12, Bool.and_true]
          refine List.all_eq_true.2 fun m hm => ?_
          obtain ⟨x, hx, rfl⟩ := List.mem_map.1 (List.mem_of_mem_take hm)
          obtain ⟨j, hj, rfl⟩ := List.mem_iff_getElem.1 hx
          exact hrel.out.2 j _ (List.getElem?_eq_getElem hj) (by omega)
        · rw [decide_eq_false h12, Bool.and_false])
      rcases (by omega : (¬ (i : Int) < (len : Int)) ∨ ((i : Int) < (len : Int) ∧ ¬ (i : Int) < 13)) with g2 | ⟨g2, g3⟩
      all_goals
        go_wp2_with fail
        go_ret
        refine ⟨?_, hrel.out.1⟩
        have e12 : decide ((len : Int) ≤ 12) = decide (len ≤ 12) := decide_eq_decide.2 ⟨fun h => by omega, fun h => by omega⟩
        rw [← HQ.out, HE.out, ← e12]
        first | done | rfl | (simp; omega)
end Go.Proofs.Yteffankkelbhiaa
