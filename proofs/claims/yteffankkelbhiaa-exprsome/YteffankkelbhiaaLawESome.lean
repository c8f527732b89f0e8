/-
  The walk of ExprSome. No statement of the seat is proved here.
-/
import Derived.Test.YteffankkelbhiaaEBatch
import Derived.Test.YteffankkelbhiaaEAwake
namespace Go.Proofs.Yteffankkelbhiaa
open Go.RowKit Go.Sort
open Dc (D D0)

/-- Few batches are small ones. -/
theorem few_smalls9 {es : List En} (h : fewB (datM es) = true) (hf : ∀ e ∈ es, ∀ d ∈ e.m.vals, d.Fits) : Smalls es ∧ es.length ≤ 12 := by
  obtain ⟨h1, h2⟩ := fewB_ok h
  rw [datM_len] at h1
  exact ⟨fun e he => few_small (h2 _ (List.mem_map.2 ⟨e, he, rfl⟩)) (hf e he), h1⟩
/-- v is the place of the first of the first i of which C tells an error, or -1. -/
def FirstOf (C : Mt → Int) (es : List En) (i : Nat) (v : Int) : Prop :=
  (v = -1 ∧ ∀ (j : Nat) x, es[j]? = some x → j < i → C x.m = 0) ∨ ∃ (j : Nat) (x : En), v = (j : Int) ∧ es[j]? = some x ∧ j < i ∧ C x.m ≠ 0 ∧ ∀ (j' : Nat) x', es[j']? = some x' → j' < j → C x'.m = 0
section
variable {C : Mt → Int} {es : List En} {i : Nat} {v : Int} {x : En}
theorem FirstOf.start (C : Mt → Int) (es : List En) : FirstOf C es 0 (-1) := .inl ⟨rfl, fun j x _ h => absurd h (by omega)⟩
theorem FirstOf.bound (h : FirstOf C es i v) : -1 ≤ v ∧ v ≤ (i : Int) := by
  rcases h with ⟨h, _⟩ | ⟨j, _, h, _, h2, _⟩ <;> omega
theorem FirstOf.right (h : FirstOf C es i v) (hx : es[i]? = some x) (hc : C x.m = 0) : FirstOf C es (i + 1) v := by
  rcases h with ⟨h1, h2⟩ | ⟨j, y, h1, h2, h3, h4, h5⟩
  · refine .inl ⟨h1, fun j y hy hj => ?_⟩
    rcases Nat.lt_or_ge j i with h | h
    · exact h2 j y hy h
    · obtain rfl : i = j := by omega
      rw [hx] at hy
      injection hy with hy
      rw [← hy]; exact hc
  · exact .inr ⟨j, y, h1, h2, by omega, h4, h5⟩
theorem FirstOf.old (h : FirstOf C es i v) (hv : 0 ≤ v) : FirstOf C es (i + 1) v := by
  rcases h with ⟨h1, h2⟩ | ⟨j, y, h1, h2, h3, h4, h5⟩
  · omega
  · exact .inr ⟨j, y, h1, h2, by omega, h4, h5⟩
theorem FirstOf.now (h : FirstOf C es i v) (hv : v < 0) (hx : es[i]? = some x) (hc : C x.m ≠ 0) : FirstOf C es (i + 1) (i : Int) := by
  rcases h with ⟨h1, h2⟩ | ⟨j, y, h1, h2, h3, h4, h5⟩
  · exact .inr ⟨i, x, rfl, hx, by omega, hc, h2⟩
  · omega
end
/-- What is wrong with each of them is told by the four formats so. -/
theorem four_says (m : Mt) : metricE m 2 = checkM m ∧ metricE m 4 = checkM m ∧ (checkM m ≠ 0 → metricE m 1 = checkM m ∧ metricE m 3 = checkM m) ∧
    (checkM m = 0 → (metricE m 1 = 0 ∧ metricE m 3 = 26) ∨ (metricE m 1 = 26 ∧ metricE m 3 = 0) ∨ (metricE m 1 = 26 ∧ metricE m 3 = 26)) := by
  have k1 : known 1 = true := by decide
  have k2 : known 2 = true := by decide
  have k3 : known 3 = true := by decide
  have k4 : known 4 = true := by decide
  have s2 : saysM m 2 = true := saysM_any (.inl rfl)
  have s4 : saysM m 4 = true := saysM_any (.inr rfl)
  unfold metricE
  rw [k1, k2, k3, k4, s2, s4]
  refine ⟨?_, ?_, fun h => ?_, fun h => ?_⟩
  · by_cases h : checkM m = 0 <;> simp [h]
  · by_cases h : checkM m = 0 <;> simp [h]
  · simp [h]
  · simp only [h]
    have hx : ¬ (saysM m 1 = true ∧ saysM m 3 = true) := by
      rintro ⟨h1, h3⟩
      unfold saysM says1 at h1
      unfold saysM says3 at h3
      simp at h1 h3
      omega
    cases h1 : saysM m 1 <;> cases h3 : saysM m 3
    · simp
    · simp
    · simp
    · exact absurd ⟨h1, h3⟩ hx
/-- Which one Batch tells. -/
theorem batchE_out {f : Int} (h : known f = false) (ms : List Mt) : batchE ms f = (0, 29) := by unfold batchE; rw [if_pos h]
theorem batchE_wrong {f : Int} (hk : known f = true) {es : List En} {n : Nat} (hl : es.length = n) (hn : n ≤ 12) {v : Int} (h : FirstOf checkM es n v) (hv : 0 ≤ v) : ∃ (j : Nat) (x : En), v = (j : Int) ∧ es[j]? = some x ∧ checkM x.m ≠ 0 ∧ batchE (datM es) f = (j, checkM x.m) := by
  rcases h with ⟨h1, _⟩ | ⟨j, x, h1, h2, h3, h4, h5⟩
  · omega
  · refine ⟨j, x, h1, h2, h4, ?_⟩
    have e1 : fwB checkM (datM es) = (j, checkM x.m) := by rw [fwB_in (by omega)]; exact fw_at h5 h2 h4
    unfold batchE
    rw [hk, if_neg (by decide), e1, if_pos h4]
theorem batchE_rest {f : Int} (hk : known f = true) {es : List En} {n : Nat} (hl : es.length = n) (hn : n ≤ 12) {v u : Int} (h : FirstOf checkM es n v) (hv : v < 0) (g : FirstOf (fun m => metricE m f) es n u) :
    (u < 0 ∧ batchE (datM es) f = (0, 0)) ∨ ∃ (j : Nat), u = (j : Int) ∧ batchE (datM es) f = (j, 26) := by
  have all : ∀ (j : Nat) x, es[j]? = some x → checkM x.m = 0 := by
    rcases h with ⟨_, h2⟩ | ⟨j, x, h1, _⟩
    · exact fun j x hx => h2 j x hx (by have := (List.getElem?_eq_some_iff.1 hx).1; omega)
    · omega
  have e1 : fwB checkM (datM es) = (0, 0) := by rw [fwB_in (by omega)]; exact fw_full all
  have e2 : batchE (datM es) f = fw (cannot f) (datM es) := by unfold batchE; rw [hk, if_neg (by decide), e1, if_neg (by decide)]
  have e3 : ∀ (j : Nat) x, es[j]? = some x → metricE x.m f = cannot f x.m := by
    intro j x hx
    unfold metricE cannot
    rw [hk, if_neg (by decide), if_neg (by rw [all j x hx]; simp)]
  rw [e2]
  rcases g with ⟨g1, g2⟩ | ⟨j, x, g1, g2, g3, g4, g5⟩
  · exact .inl ⟨by omega, fw_full fun j x hx => by rw [← e3 j x hx]; exact g2 j x hx (by have := (List.getElem?_eq_some_iff.1 hx).1; omega)⟩
  · have hc : cannot f x.m ≠ 0 := by rw [← e3 j x g2]; exact g4
    refine .inr ⟨j, g1, ?_⟩
    rw [fw_at (fun j' x' hx' hj' => by rw [← e3 j' x' hx']; exact g5 j' x' hx' hj') g2 hc]
    have : cannot f x.m = 26 := by
      unfold cannot at hc ⊢
      split
      · rfl
      · rename_i h; rw [if_neg h] at hc; exact absurd rfl hc
    rw [this]
theorem says_at {w0 W : World} {A : Option Addr} {es : List En} {x : En} {i : Nat} (h : Below w0.heap.size w0 W) (hM : Mets w0 A es) (hx : es[i]? = some x) (hs : Small x.m) {f : Int} (hf : WfI f) {v : Int} (hv : metricE x.m f = v) :
    Calls Try.prog 12 #[.agg #[.string x.s, .int .i64 x.m.kind, .slice x.A x.n x.ca, .int .i64 x.m.rate, .slice x.B x.k x.cb, .int .i64 x.m.time], .int .i64 f] W fun e w' => e = .returned (.int .i64 v) ∧ Below w0.heap.size w0 w' := by
  have := emetric_calls (ca := x.ca) (cb := x.cb) ((hM.keep h).one hx) hs hf
  rw [hv] at this
  exact this.mono fun e w' k => ⟨k.1, below_then h k.2⟩
theorem check_at {w0 W : World} {A : Option Addr} {es : List En} {x : En} {i : Nat} (h : Below w0.heap.size w0 W) (hM : Mets w0 A es) (hx : es[i]? = some x) (hs : Small x.m) {v : Int} (hv : checkM x.m = v) :
    Calls Try.prog 21 #[.agg #[.string x.s, .int .i64 x.m.kind, .slice x.A x.n x.ca, .int .i64 x.m.rate, .slice x.B x.k x.cb, .int .i64 x.m.time]] W fun e w' => e = .returned (.int .i64 v) ∧ Below w0.heap.size w0 w' := by
  have := mcheck_calls (ca := x.ca) (cb := x.cb) ((hM.keep h).one hx) hs
  rw [hv] at this
  exact this.mono fun e w' k => ⟨k.1, below_then h k.2⟩

set_option maxRecDepth 100000 in
set_option maxHeartbeats 40000000 in
theorem esome_walk {w : World} {A : Option Addr} {len cap : Nat} {es : List En} (hlen : es.length = len) (hM : Mets w A es) (hf : ∀ e ∈ es, ∀ d ∈ e.m.vals, d.Fits) (hz : len ≤ maxLen) {f : Int} (hw : WfI f) :
    Calls Try.prog 7 #[.slice A len cap, .int .i64 f] w fun e w' => e = .returned (.bool true) ∧ Below w.heap.size w w' := by
  obtain ⟨q, hq⟩ : ∃ q, fewB (datM es) = q := ⟨_, rfl⟩
  have HQ := Lib.hid (And.intro hlen (And.intro hq (And.intro hf (And.intro hM hw))))
  have HF := Lib.hid (fewb_calls (cap := cap) hlen hM (show (len : Int) ≤ 9223372036854775807 by unfold maxLen at hz; omega))
  rw [hq] at HF
  clear hM hlen hq hf hz hw
  go_enter Try.func7, Try.ntmps7
  go_wp2_with fail
  refine HF.out.mono ?_
  rintro e w1 ⟨rfl, hb⟩
  have HB1 := Lib.hid hb
  clear hb HF
  cases q
  · go_wp2_with fail
    refine (awake9_calls _).mono ?_
    rintro e w9 ⟨rfl, hb⟩
    have HB9 := Lib.hid (below_then HB1.out hb)
    clear hb
    go_wp2_with fail
    go_ret
    exact ⟨rfl, HB9.out⟩
  · obtain ⟨hs, hl⟩ := few_smalls9 HQ.out.2.1 HQ.out.2.2.1
    have HS := Lib.hid hs
    have gl : (len : Int) ≤ 12 := by have := HQ.out.1; omega
    clear hs hl
    go_wp2_with fail
    go_loopw [5, 6, 7] (fun v5 v6 v7 wr => ∃ i : Nat, ∃ u v : Int, v7 = .int .i64 i ∧ v5 = .int .i64 u ∧ v6 = .int .i64 v ∧ i ≤ len ∧ -1 ≤ u ∧ u ≤ 12 ∧ -1 ≤ v ∧ v ≤ 12 ∧ Hid (Below w.heap.size w wr ∧ FirstOf checkM es i v ∧ FirstOf (fun m => metricE m f) es i u)) (fun _ _ v7 _ => len - (intOf v7).toNat)
    case atStart => exact ⟨0, -1, -1, rfl, rfl, rfl, by omega, by omega, by omega, by omega, by omega, ⟨HB1.out, FirstOf.start _ _, FirstOf.start _ _⟩⟩
    case round =>
      obtain ⟨i, u, v, rfl, rfl, rfl, hi, hu1, hu2, hv1, hv2, hrel⟩ := hrel
      by_cases hlt : i < len
      · have g2 : (i : Int) < (len : Int) := by omega
        have g3 : (0 : Int) ≤ (i : Int) := by omega
        have hie : es[i]? = some (es[i]'(by have := HQ.out.1; omega)) := List.getElem?_eq_getElem _
        generalize es[i]'(by have := HQ.out.1; omega) = x at hie
        have HX := Lib.hid (And.intro hie (HS.out x (List.mem_of_getElem? hie)))
        have HR := Lib.hid hrel.out
        clear hrel
        obtain ⟨b, off, eA, c0, c1, c2, c3, c4, c5⟩ := (HQ.out.2.2.2.1.keep HR.out.1).get hie
        subst eA
        have HM := Lib.hid HQ.out.2.2.2.1
        obtain ⟨q, hq⟩ : ∃ q, checkM x.m = q := ⟨_, rfl⟩
        obtain ⟨a, ha⟩ : ∃ q, metricE x.m 1 = q := ⟨_, rfl⟩
        obtain ⟨c, hc⟩ : ∃ q, metricE x.m 3 = q := ⟨_, rfl⟩
        obtain ⟨y, hy⟩ : ∃ q, metricE x.m f = q := ⟨_, rfl⟩
        obtain ⟨k2, k4, kn, kz⟩ := four_says x.m
        rw [hq, ha, hc] at kn kz
        rw [hq] at k2 k4
        have HV := Lib.hid (And.intro hq (And.intro ha (And.intro k2 (And.intro hc (And.intro k4 hy)))))
        have HK := Lib.hid (And.intro kn kz)
        clear hq ha hc hy k2 k4 kn kz hie
        go_wp2_with fail
        refine (check_at HR.out.1 HM.out HX.out.1 HX.out.2 HV.out.1).mono ?_
        rintro e w2 ⟨rfl, hb⟩
        have HB2 := Lib.hid hb
        clear hb c0 c1 c2 c3 c4 c5
        obtain ⟨b', off', eA, c0, c1, c2, c3, c4, c5⟩ := (HM.out.keep HB2.out).get HX.out.1
        injection eA with eA
        injection eA with e1 e2
        subst e1 e2
        go_wp2_with fail
        refine (says_at HB2.out HM.out HX.out.1 HX.out.2 wf_1 HV.out.2.1).mono ?_
        rintro e w3 ⟨rfl, hb⟩
        have HB3 := Lib.hid hb
        clear hb c0 c1 c2 c3 c4 c5 HB2
        obtain ⟨b', off', eA, c0, c1, c2, c3, c4, c5⟩ := (HM.out.keep HB3.out).get HX.out.1
        injection eA with eA
        injection eA with e1 e2
        subst e1 e2
        go_wp2_with fail
        refine (says_at HB3.out HM.out HX.out.1 HX.out.2 (wf_few (f := 2) (by omega)) HV.out.2.2.1).mono ?_
        rintro e w4 ⟨rfl, hb⟩
        have HB4 := Lib.hid hb
        clear hb c0 c1 c2 c3 c4 c5 HB3
        obtain ⟨b', off', eA, c0, c1, c2, c3, c4, c5⟩ := (HM.out.keep HB4.out).get HX.out.1
        injection eA with eA
        injection eA with e1 e2
        subst e1 e2
        go_wp2_with fail
        refine (says_at HB4.out HM.out HX.out.1 HX.out.2 wf_3 HV.out.2.2.2.1).mono ?_
        rintro e w5 ⟨rfl, hb⟩
        have HB5 := Lib.hid hb
        clear hb c0 c1 c2 c3 c4 c5 HB4
        obtain ⟨b', off', eA, c0, c1, c2, c3, c4, c5⟩ := (HM.out.keep HB5.out).get HX.out.1
        injection eA with eA
        injection eA with e1 e2
        subst e1 e2
        go_wp2_with fail
        refine (says_at HB5.out HM.out HX.out.1 HX.out.2 (wf_few (f := 4) (by omega)) HV.out.2.2.2.2.1).mono ?_
        rintro e w6 ⟨rfl, hb⟩
        have HB6 := Lib.hid hb
        clear hb c0 c1 c2 c3 c4 c5 HB5
        obtain ⟨b', off', eA, c0, c1, c2, c3, c4, c5⟩ := (HM.out.keep HB6.out).get HX.out.1
        injection eA with eA
        injection eA with e1 e2
        subst e1 e2
        have gi : (i : Int) ≤ 12 := by omega
        by_cases hq0 : q = 0
        · subst hq0
          have HP3 := Lib.hid (HK.out.2 rfl)
          clear HK
          rcases HP3.out with ⟨ra, rc⟩ | ⟨ra, rc⟩ | ⟨ra, rc⟩
          all_goals
            subst ra rc
            go_wp2_with fail
            refine (says_at HB6.out HM.out HX.out.1 HX.out.2 HQ.out.2.2.2.2 HV.out.2.2.2.2.2).mono ?_
            rintro e w7 ⟨rfl, hb⟩
            have HB7 := Lib.hid hb
            clear hb HB6 c0 c1 c2 c3 c4 c5
            have HFv := Lib.hid (show FirstOf checkM es (i + 1) v from HR.out.2.1.right HX.out.1 HV.out.1)
            by_cases hy0 : y = 0
            · subst hy0
              go_wp2_with fail
              exact ⟨⟨i + 1, u, v, by go_num, rfl, rfl, by omega, by omega, by omega, by omega, by omega, ⟨HB7.out, HFv.out, HR.out.2.2.right HX.out.1 HV.out.2.2.2.2.2⟩⟩, by simp [intOf]; omega⟩
            · have g4 : (y != 0) = true := by simpa using hy0
              have HY := Lib.hid hy0
              rcases (by omega : u < 0 ∨ ¬ u < 0) with g5 | g5
              · go_wp2_with fail
                exact ⟨⟨i + 1, i, v, by go_num, rfl, rfl, by omega, by omega, by omega, by omega, by omega, ⟨HB7.out, HFv.out, HR.out.2.2.now g5 HX.out.1 (show metricE x.m f ≠ 0 by rw [HV.out.2.2.2.2.2]; exact HY.out)⟩⟩, by simp [intOf]; omega⟩
              · go_wp2_with fail
                exact ⟨⟨i + 1, u, v, by go_num, rfl, rfl, by omega, by omega, by omega, by omega, by omega, ⟨HB7.out, HFv.out, HR.out.2.2.old (by omega)⟩⟩, by simp [intOf]; omega⟩
        · obtain ⟨ra, rc⟩ := HK.out.1 hq0
          subst ra rc
          have gq : (c == 0) = false := by simpa using hq0
          have gq2 : (c != 0) = true := by simpa using hq0
          have HQ0 := Lib.hid hq0
          clear HK
          rcases (by omega : v < 0 ∨ ¬ v < 0) with g6 | g6
          · go_wp2_with fail
            refine (says_at HB6.out HM.out HX.out.1 HX.out.2 HQ.out.2.2.2.2 HV.out.2.2.2.2.2).mono ?_
            rintro e w7 ⟨rfl, hb⟩
            have HB7 := Lib.hid hb
            clear hb HB6 c0 c1 c2 c3 c4 c5
            have HFv := Lib.hid (show FirstOf checkM es (i + 1) (i : Int) from HR.out.2.1.now g6 HX.out.1 (by rw [HV.out.1]; exact HQ0.out))
            by_cases hy0 : y = 0
            · subst hy0
              go_wp2_with fail
              exact ⟨⟨i + 1, u, (i : Int), by go_num, rfl, rfl, by omega, by omega, by omega, by omega, by omega, ⟨HB7.out, HFv.out, HR.out.2.2.right HX.out.1 HV.out.2.2.2.2.2⟩⟩, by simp [intOf]; omega⟩
            · have g4 : (y != 0) = true := by simpa using hy0
              have HY := Lib.hid hy0
              rcases (by omega : u < 0 ∨ ¬ u < 0) with g5 | g5
              · go_wp2_with fail
                exact ⟨⟨i + 1, i, (i : Int), by go_num, rfl, rfl, by omega, by omega, by omega, by omega, by omega, ⟨HB7.out, HFv.out, HR.out.2.2.now g5 HX.out.1 (show metricE x.m f ≠ 0 by rw [HV.out.2.2.2.2.2]; exact HY.out)⟩⟩, by simp [intOf]; omega⟩
              · go_wp2_with fail
                exact ⟨⟨i + 1, u, (i : Int), by go_num, rfl, rfl, by omega, by omega, by omega, by omega, by omega, ⟨HB7.out, HFv.out, HR.out.2.2.old (by omega)⟩⟩, by simp [intOf]; omega⟩
          · go_wp2_with fail
            refine (says_at HB6.out HM.out HX.out.1 HX.out.2 HQ.out.2.2.2.2 HV.out.2.2.2.2.2).mono ?_
            rintro e w7 ⟨rfl, hb⟩
            have HB7 := Lib.hid hb
            clear hb HB6 c0 c1 c2 c3 c4 c5
            have HFv := Lib.hid (show FirstOf checkM es (i + 1) v from HR.out.2.1.old (by omega))
            by_cases hy0 : y = 0
            · subst hy0
              go_wp2_with fail
              exact ⟨⟨i + 1, u, v, by go_num, rfl, rfl, by omega, by omega, by omega, by omega, by omega, ⟨HB7.out, HFv.out, HR.out.2.2.right HX.out.1 HV.out.2.2.2.2.2⟩⟩, by simp [intOf]; omega⟩
            · have g4 : (y != 0) = true := by simpa using hy0
              have HY := Lib.hid hy0
              rcases (by omega : u < 0 ∨ ¬ u < 0) with g5 | g5
              · go_wp2_with fail
                exact ⟨⟨i + 1, i, v, by go_num, rfl, rfl, by omega, by omega, by omega, by omega, by omega, ⟨HB7.out, HFv.out, HR.out.2.2.now g5 HX.out.1 (show metricE x.m f ≠ 0 by rw [HV.out.2.2.2.2.2]; exact HY.out)⟩⟩, by simp [intOf]; omega⟩
              · go_wp2_with fail
                exact ⟨⟨i + 1, u, v, by go_num, rfl, rfl, by omega, by omega, by omega, by omega, by omega, ⟨HB7.out, HFv.out, HR.out.2.2.old (by omega)⟩⟩, by simp [intOf]; omega⟩
      · have g2 : ¬ (i : Int) < (len : Int) := by omega
        obtain rfl : len = i := by omega
        have HR := Lib.hid hrel.out
        clear hrel
        obtain ⟨p, hp⟩ : ∃ p, batchE (datM es) f = p := ⟨_, rfl⟩
        obtain ⟨p1, p2⟩ := p
        have hBt := ebatch_calls (cap := cap) HQ.out.1 (by omega) (HQ.out.2.2.2.1.keep HR.out.1) HS.out HQ.out.2.2.2.2
        rw [hp] at hBt
        have HBt := Lib.hid hBt
        have HP := Lib.hid hp
        clear hp hBt
        go_wp2_with fail
        refine HBt.out.mono ?_
        rintro e w2 ⟨rfl, hb⟩
        have HB2 := Lib.hid (below_then HR.out.1 hb)
        clear hb HBt
        rcases (by omega : f < 1 ∨ (¬ f < 1 ∧ 4 < f) ∨ (¬ f < 1 ∧ ¬ 4 < f)) with h1 | ⟨h1, h2⟩ | ⟨h1, h2⟩
        · have e1 := HP.out
          rw [batchE_out (by unfold known; rw [decide_eq_false (by omega)])] at e1
          injection e1 with e1 e2
          subst e1 e2
          go_wp2_with fail
          refine (awake9_calls _).mono ?_
          rintro e w9 ⟨rfl, hb⟩
          have HB9 := Lib.hid (below_then HB2.out hb)
          clear hb
          go_wp2_with fail
          go_ret
          exact ⟨rfl, HB9.out⟩
        · have e1 := HP.out
          rw [batchE_out (by unfold known; rw [decide_eq_false (by omega)])] at e1
          injection e1 with e1 e2
          subst e1 e2
          go_wp2_with fail
          refine (awake9_calls _).mono ?_
          rintro e w9 ⟨rfl, hb⟩
          have HB9 := Lib.hid (below_then HB2.out hb)
          clear hb
          go_wp2_with fail
          go_ret
          exact ⟨rfl, HB9.out⟩
        · have HK := Lib.hid (show known f = true by unfold known; rw [decide_eq_true (by omega)])
          rcases (by omega : 0 ≤ v ∨ ¬ 0 ≤ v) with h3 | h3
          · obtain ⟨j, x, rfl, hx, hc, hb0⟩ := batchE_wrong HK.out HQ.out.1 (by omega) HR.out.2.1 h3
            have e1 := HP.out
            rw [hb0] at e1
            injection e1 with e1 e2
            subst e1 e2
            have hjl : j < len := by have := (List.getElem?_eq_some_iff.1 hx).1; have := HQ.out.1; omega
            have g4 : (j : Int) < (len : Int) := by omega
            obtain ⟨b, off, eA, c0, c1, c2, c3, c4, c5⟩ := (HQ.out.2.2.2.1.keep HB2.out).get hx
            subst eA
            have HX := Lib.hid (And.intro hx hc)
            clear hx hc hb0 hjl
            go_wp2_with fail
            refine (check_at HB2.out HQ.out.2.2.2.1 HX.out.1 (HS.out x (List.mem_of_getElem? HX.out.1)) rfl).mono ?_
            rintro e w8 ⟨rfl, hb⟩
            have HB8 := Lib.hid hb
            clear hb
            go_wp2_with fail
            refine (awake9_calls _).mono ?_
            rintro e w9 ⟨rfl, hb⟩
            have HB9 := Lib.hid (below_then HB8.out hb)
            clear hb
            go_wp2_with fail
            go_ret
            exact ⟨rfl, HB9.out⟩
          · have hu := batchE_rest HK.out HQ.out.1 (by omega) HR.out.2.1 (by omega) HR.out.2.2
            rw [HP.out] at hu
            rcases hu with ⟨h4, e1⟩ | ⟨j, h4, e1⟩
            · injection e1 with e1 e2
              subst e1 e2
              have h5 : ¬ 0 ≤ u := by omega
              go_wp2_with fail
              refine (awake9_calls _).mono ?_
              rintro e w9 ⟨rfl, hb⟩
              have HB9 := Lib.hid (below_then HB2.out hb)
              clear hb
              go_wp2_with fail
              go_ret
              exact ⟨rfl, HB9.out⟩
            · injection e1 with e1 e2
              subst e1 e2 h4
              go_wp2_with fail
              refine (awake9_calls _).mono ?_
              rintro e w9 ⟨rfl, hb⟩
              have HB9 := Lib.hid (below_then HB2.out hb)
              clear hb
              go_wp2_with fail
              go_ret
              exact ⟨rfl, HB9.out⟩
end Go.Proofs.Yteffankkelbhiaa
