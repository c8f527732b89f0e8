/-
  expr.Batch, and the document's. No statement of the seat is proved here.
-/
import Derived.Test.YteffankkelbhiaaEMetric
import Derived.Test.YteffankkelbhiaaBNm0
import Derived.Test.YteffankkelbhiaaBRefC
namespace Go.Proofs.Yteffankkelbhiaa
open Go.RowKit
open Dc (D D0)

/-- 26, if a format cannot say a metric. -/
def cannot (f : Int) (m : Mt) : Int := if saysM m f = false then 26 else 0
/-- Which metric of a batch a format cannot say, and why. -/
def batchE (ms : List Mt) (f : Int) : Nat × Int := if known f = false then (0, 29) else if (fwB checkM ms).2 ≠ 0 then fwB checkM ms else fw (cannot f) ms

set_option maxRecDepth 100000 in
set_option maxHeartbeats 4000000 in
theorem ebatch_calls {w : World} {A : Option Addr} {len cap : Nat} {es : List En} (hlen : es.length = len) (hz : len ≤ 2000) (hM : Mets w A es) (hs : Smalls es) {f : Int} (hf : WfI f) :
    Calls Try.prog 14 #[.slice A len cap, .int .i64 f] w fun e w' => e = .returned (.tuple #[.int .i64 ((batchE (datM es) f).1 : Int), .int .i64 (batchE (datM es) f).2]) ∧ Below w.heap.size w w' := by
  obtain ⟨p, hp⟩ : ∃ p, batchE (datM es) f = p := ⟨_, rfl⟩
  rw [hp]
  obtain ⟨p1, p2⟩ := p
  obtain ⟨kn, hkn⟩ : ∃ x, known f = x := ⟨_, rfl⟩
  obtain ⟨c, hc⟩ : ∃ x, fwB checkM (datM es) = x := ⟨_, rfl⟩
  obtain ⟨y1, y2⟩ := c
  unfold batchE at hp
  rw [hkn, hc] at hp
  have HP := Lib.hid hp
  have HK := Lib.hid (And.intro hkn hf)
  have HC := Lib.hid hc
  have HH := Lib.hid (And.intro hlen (And.intro hM hs))
  clear hp hkn hc hlen hM hs hf
  go_enter Try.func14, Try.ntmps14
  go_wp2_with fail
  refine (questions_calls _).mono ?_
  rintro e w1 ⟨b, rfl, hown, hb⟩
  obtain ⟨v, hl, hv⟩ := look_ok hown HK.out.2
  rw [HK.out.1] at hl hv
  have HB1 := Lib.hid hb
  have HV := Lib.hid hv
  clear hb hown hv
  cases kn
  · have HE := Lib.hid (show p1 = 0 ∧ p2 = 29 by have := HP.out; injection this with e1 e2; exact ⟨e1.symm, e2.symm⟩)
    go_wp2_with fail
    go_ret2
    exact ⟨by rw [HE.out.1, HE.out.2]; rfl, HB1.out⟩
  · obtain rfl := HV.out rfl
    have HCk := bcheck_calls (cap := cap) HH.out.1 (by omega) (HH.out.2.1.keep HB1.out) HH.out.2.2
    rw [HC.out] at HCk
    have HCk := Lib.hid HCk
    go_wp2_with fail
    refine HCk.out.mono ?_
    rintro e w2 ⟨rfl, hb⟩
    have HB2 := Lib.hid (below_then HB1.out hb)
    clear hb HB1 hl HCk
    by_cases hy0 : y2 = 0
    · subst hy0
      have HE := Lib.hid (show fw (cannot f) (datM es) = (p1, p2) from HP.out)
      go_wp2_with fail
      go_loopw [31] (fun v31 wr => ∃ i : Nat, v31 = .int .i64 i ∧ i ≤ len ∧ Hid (Below w.heap.size w wr ∧ ∀ (j : Nat) x, es[j]? = some x → j < i → cannot f x.m = 0)) (fun v31 _ => len - (intOf v31).toNat)
      case atStart => exact ⟨0, rfl, by omega, ⟨HB2.out, fun j _ _ hj => absurd hj (by omega)⟩⟩
      case round =>
        obtain ⟨i, rfl, hi, hrel⟩ := hrel
        by_cases hlt : i < len
        · have g2 : (i : Int) < (len : Int) := by omega
          have g3 : (0 : Int) ≤ (i : Int) := by omega
          obtain ⟨hlen, hM, hs⟩ := HH.out
          have hie : es[i]? = some (es[i]'(by omega)) := List.getElem?_eq_getElem (by omega)
          generalize es[i]'(by omega) = x at hie
          have hMr := hM.keep hrel.out.1
          obtain ⟨b, off, eA, c0, c1, c2, c3, c4, c5⟩ := hMr.get hie
          subst eA
          have hC := can_calls (ca := x.ca) (cb := x.cb) ((hMr.one hie).keep (m_below wr (.cells #[.string x.s, .int .i64 x.m.kind, .slice x.A x.n x.ca, .int .i64 x.m.rate, .slice x.B x.k x.cb, .int .i64 x.m.time] 25))) f
          obtain ⟨c, hc⟩ : ∃ c, saysM x.m f = c := ⟨_, rfl⟩
          rw [hc] at hC
          have HC2 := Lib.hid hC
          have HI := Lib.hid (And.intro hie (show cannot f x.m = if c = false then 26 else 0 by unfold cannot; rw [hc]))
          have HBx := Lib.hid (below_then hrel.out.1 (m_below wr (.cells #[.string x.s, .int .i64 x.m.kind, .slice x.A x.n x.ca, .int .i64 x.m.rate, .slice x.B x.k x.cb, .int .i64 x.m.time] 25)))
          clear hlen hM hs hMr hC hc hie
          go_wp2_with fail
          rw [can_enter]
          refine HC2.out.mono ?_
          rintro e w3 ⟨rfl, hb⟩
          have HB3 := Lib.hid (below_then HBx.out hb)
          clear hb HC2 HBx c0 c1 c2 c3 c4 c5
          cases c
          · go_wp2_with fail
            go_ret2
            have := HE.out.symm.trans (fw_at hrel.out.2 HI.out.1 (by rw [HI.out.2]; decide))
            injection this with e1 e2
            rw [e1, e2, HI.out.2]
            exact ⟨rfl, HB3.out⟩
          · go_wp2_with fail
            refine ⟨⟨i + 1, by go_num, by omega, ⟨HB3.out, fun j y hj hlt => ?_⟩⟩, by simp [intOf]; omega⟩
            rcases Nat.lt_or_ge j i with h | h
            · exact hrel.out.2 j y hj h
            · obtain rfl : i = j := by omega
              rw [HI.out.1] at hj
              injection hj with hj
              subst hj
              rw [HI.out.2]; rfl
        · have g2 : ¬ (i : Int) < (len : Int) := by omega
          go_wp2_with fail
          go_ret2
          have := HE.out.symm.trans (fw_full (C := cannot f) (es := es) fun j y hj => hrel.out.2 j y hj (by have := (List.getElem?_eq_some_iff.1 hj).1; have := HH.out.1; omega))
          injection this with e1 e2
          rw [e1, e2]
          exact ⟨rfl, hrel.out.1⟩
    · have HE := Lib.hid (show p1 = y1 ∧ p2 = y2 by
        have h := HP.out
        rw [if_neg (by decide), if_pos hy0] at h
        injection h with e1 e2; exact ⟨e1.symm, e2.symm⟩)
      have hq : (y2 != 0) = true := by simpa using hy0
      go_wp2_with fail
      go_ret2
      exact ⟨by rw [HE.out.1, HE.out.2]; first | done | rfl, HB2.out⟩

set_option maxRecDepth 100000 in
set_option maxHeartbeats 4000000 in
theorem rebatch_calls {w : World} {A : Option Addr} {len cap : Nat} {es : List En} (hlen : es.length = len) (hz : len ≤ 2000) (hM : Mets w A es) (hs : Smalls es) (f : Int) :
    Calls Try.prog 15 #[.slice A len cap, .int .i64 f] w fun e w' => e = .returned (.tuple #[.int .i64 ((batchE (datM es) f).1 : Int), .int .i64 (batchE (datM es) f).2]) ∧ Below w.heap.size w w' := by
  obtain ⟨p, hp⟩ : ∃ p, batchE (datM es) f = p := ⟨_, rfl⟩
  rw [hp]
  obtain ⟨p1, p2⟩ := p
  obtain ⟨c, hc⟩ : ∃ x, fwB checkM (datM es) = x := ⟨_, rfl⟩
  obtain ⟨y1, y2⟩ := c
  unfold batchE at hp
  rw [hc] at hp
  have HP := Lib.hid hp
  have HC := Lib.hid hc
  have HH := Lib.hid (And.intro hlen (And.intro hM hs))
  clear hp hc hlen hM hs
  go_enter Try.func15, Try.ntmps15
  rcases (by omega : f < 1 ∨ (¬ f < 1 ∧ 4 < f) ∨ (¬ f < 1 ∧ ¬ 4 < f)) with h1 | ⟨h1, h2⟩ | ⟨h1, h2⟩
  · have HE := Lib.hid (show p1 = 0 ∧ p2 = 29 by have h := HP.out; unfold known at h; rw [decide_eq_false (by omega), if_pos rfl] at h; injection h with e1 e2; exact ⟨e1.symm, e2.symm⟩)
    go_wp2_with fail
    go_ret2
    exact ⟨by rw [HE.out.1, HE.out.2]; rfl, Below.refl _ _⟩
  · have HE := Lib.hid (show p1 = 0 ∧ p2 = 29 by have h := HP.out; unfold known at h; rw [decide_eq_false (by omega), if_pos rfl] at h; injection h with e1 e2; exact ⟨e1.symm, e2.symm⟩)
    go_wp2_with fail
    go_ret2
    exact ⟨by rw [HE.out.1, HE.out.2]; rfl, Below.refl _ _⟩
  · have HK := Lib.hid (show known f = true by unfold known; rw [decide_eq_true (by omega)])
    have HCk := rbcheck_calls (cap := cap) HH.out.1 hz HH.out.2.1 HH.out.2.2
    rw [HC.out] at HCk
    have HCk := Lib.hid HCk
    go_wp2_with fail
    refine HCk.out.mono ?_
    rintro e w2 ⟨rfl, hb⟩
    have HB2 := Lib.hid hb
    clear hb HCk
    by_cases hy0 : y2 = 0
    · subst hy0
      have HE := Lib.hid (show fw (cannot f) (datM es) = (p1, p2) by have h := HP.out; rw [HK.out] at h; exact h)
      go_wp2_with fail
      go_loopw [8] (fun v8 wr => ∃ i : Nat, v8 = .int .i64 i ∧ i ≤ len ∧ Hid (Below w.heap.size w wr ∧ ∀ (j : Nat) x, es[j]? = some x → j < i → cannot f x.m = 0)) (fun v8 _ => len - (intOf v8).toNat)
      case atStart => exact ⟨0, rfl, by omega, ⟨HB2.out, fun j _ _ hj => absurd hj (by omega)⟩⟩
      case round =>
        obtain ⟨i, rfl, hi, hrel⟩ := hrel
        by_cases hlt : i < len
        · have g2 : (i : Int) < (len : Int) := by omega
          have g3 : (0 : Int) ≤ (i : Int) := by omega
          obtain ⟨hlen, hM, hs⟩ := HH.out
          have hie : es[i]? = some (es[i]'(by omega)) := List.getElem?_eq_getElem (by omega)
          generalize es[i]'(by omega) = x at hie
          have hMr := hM.keep hrel.out.1
          obtain ⟨b, off, eA, c0, c1, c2, c3, c4, c5⟩ := hMr.get hie
          subst eA
          have hC := rsays_calls (ca := x.ca) (cb := x.cb) (hMr.one hie) f
          obtain ⟨c, hc⟩ : ∃ c, saysM x.m f = c := ⟨_, rfl⟩
          rw [hc] at hC
          have HC2 := Lib.hid hC
          have HI := Lib.hid (And.intro hie (show cannot f x.m = if c = false then 26 else 0 by unfold cannot; rw [hc]))
          clear hlen hM hs hMr hC hc hie
          go_wp2_with fail
          refine HC2.out.mono ?_
          rintro e w3 ⟨rfl, hb⟩
          have HB3 := Lib.hid (below_then hrel.out.1 hb)
          clear hb HC2 c0 c1 c2 c3 c4 c5
          cases c
          · go_wp2_with fail
            go_ret2
            have := HE.out.symm.trans (fw_at hrel.out.2 HI.out.1 (by rw [HI.out.2]; decide))
            injection this with e1 e2
            rw [e1, e2, HI.out.2]
            exact ⟨rfl, HB3.out⟩
          · go_wp2_with fail
            refine ⟨⟨i + 1, by go_num, by omega, ⟨HB3.out, fun j y hj hlt => ?_⟩⟩, by simp [intOf]; omega⟩
            rcases Nat.lt_or_ge j i with h | h
            · exact hrel.out.2 j y hj h
            · obtain rfl : i = j := by omega
              rw [HI.out.1] at hj
              injection hj with hj
              subst hj
              rw [HI.out.2]; rfl
        · have g2 : ¬ (i : Int) < (len : Int) := by omega
          go_wp2_with fail
          go_ret2
          have := HE.out.symm.trans (fw_full (C := cannot f) (es := es) fun j y hj => hrel.out.2 j y hj (by have := (List.getElem?_eq_some_iff.1 hj).1; have := HH.out.1; omega))
          injection this with e1 e2
          rw [e1, e2]
          exact ⟨rfl, hrel.out.1⟩
    · have HE := Lib.hid (show p1 = y1 ∧ p2 = y2 by
        have h := HP.out
        rw [HK.out, if_neg (by decide), if_pos hy0] at h
        injection h with e1 e2; exact ⟨e1.symm, e2.symm⟩)
      have hq : (y2 != 0) = true := by simpa using hy0
      go_wp2_with fail
      go_ret2
      exact ⟨by rw [HE.out.1, HE.out.2]; first | done | rfl, HB2.out⟩
end Go.Proofs.Yteffankkelbhiaa
