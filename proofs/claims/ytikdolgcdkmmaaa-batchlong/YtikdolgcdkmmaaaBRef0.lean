/-
  BRefC, BRefN, BEqual. No statement of the seat is proved here.
-/
import Derived.Test.YtikdolgcdkmmaaaBTxt0
import Derived.Test.YtikdolgcdkmmaaaMRef3
import Derived.Test.YtikdolgcdkmmaaaMAwake
import Derived.Test.YtikdolgcdkmmaaaMEqual
/-
  The document's Check of batches, and Few. No statement of the seat is proved here.
-/
namespace Go.Proofs.Ytikdolgcdkmmaaa
open Go.RowKit
open Dc (D D0)

set_option maxRecDepth 100000 in
set_option maxHeartbeats 4000000 in
theorem rbcheck_calls {w : World} {A : Option Addr} {len cap : Nat} {es : List En} (hlen : es.length = len) (hz : len ≤ 2000) (hM : Mets w A es) (hs : ∀ e ∈ es, Small e.m) :
    Calls Try.prog 18 #[.slice A len cap] w fun e w' => e = .returned (.tuple #[.int .i64 ((fwB checkM (datM es)).1 : Int), .int .i64 (fwB checkM (datM es)).2]) ∧ Below w.heap.size w w' := by
  obtain ⟨p, hp⟩ : ∃ p, fwB checkM (datM es) = p := ⟨_, rfl⟩
  rw [hp]
  obtain ⟨p1, p2⟩ := p
  have HH := Lib.hid (And.intro hlen (And.intro hM hs))
  by_cases h1 : 1000 < len
  · rw [fwB_out (by omega)] at hp
    injection hp with e1 e2
    subst e1 e2
    have g1 : (1000 : Int) < (len : Int) := by omega
    clear hlen hM hs
    go_enter Try.func18, Try.ntmps18
    go_wp2_with fail
    go_ret2
    exact ⟨rfl, Below.refl _ _⟩
  · rw [fwB_in (by omega)] at hp
    have HP := Lib.hid hp
    have g1 : ¬ (1000 : Int) < (len : Int) := by omega
    clear hlen hM hs hp
    go_enter Try.func18, Try.ntmps18
    go_wp2_with fail
    go_loopw [4] (fun v4 wr => ∃ i : Nat, v4 = .int .i64 i ∧ i ≤ len ∧ Hid (Below w.heap.size w wr ∧ ∀ (j : Nat) x, es[j]? = some x → j < i → checkM x.m = 0)) (fun v4 _ => len - (intOf v4).toNat)
    case atStart => exact ⟨0, rfl, by omega, ⟨Below.refl _ _, fun j _ _ hj => absurd hj (by omega)⟩⟩
    case round =>
      obtain ⟨i, rfl, hi, hrel⟩ := hrel
      by_cases hlt : i < len
      · have g2 : (i : Int) < (len : Int) := by omega
        have g3 : (0 : Int) ≤ (i : Int) := by omega
        obtain ⟨hlen, hM, hs⟩ := HH.out
        have hie : es[i]? = some (es[i]'(by omega)) := List.getElem?_eq_getElem (by omega)
        generalize es[i]'(by omega) = x at hie
        have hMr := hM.keep hrel.out.1
        obtain ⟨b, off, eA, c0, c1, c2, c3, c4, c5⟩ := hMr.get hie
        subst eA
        have hC := rmcheck_calls (ca := x.ca) (cb := x.cb) (hMr.one hie) (hs x (List.mem_of_getElem? hie))
        unfold mV at hC
        obtain ⟨c, hc⟩ : ∃ c, checkM x.m = c := ⟨_, rfl⟩
        rw [hc] at hC
        have HC := Lib.hid hC
        have HI := Lib.hid (And.intro hie hc)
        clear hlen hM hs hMr hC hc hie
        go_wp2_with fail
        refine HC.out.mono ?_
        rintro e w2 ⟨rfl, hb⟩
        have HB := Lib.hid (below_then hrel.out.1 hb)
        clear hb HC c0 c1 c2 c3 c4 c5
        by_cases hc0 : c = 0
        · have HE := Lib.hid hc0
          go_wp2_with fail
          refine ⟨⟨i + 1, by go_num, by omega, ⟨HB.out, fun j y hj hlt => ?_⟩⟩, by simp [intOf]; omega⟩
          rcases Nat.lt_or_ge j i with h | h
          · exact hrel.out.2 j y hj h
          · obtain rfl : i = j := by omega
            rw [HI.out.1] at hj
            injection hj with hj
            subst hj
            exact HI.out.2.trans HE.out
        · have HE := Lib.hid hc0
          go_wp2_with fail
          go_ret2
          have := HP.out.symm.trans (fw_at hrel.out.2 HI.out.1 (by rw [HI.out.2]; exact HE.out))
          injection this with e1 e2
          rw [e1, e2, HI.out.2]
          exact ⟨rfl, HB.out⟩
      · have g2 : ¬ (i : Int) < (len : Int) := by omega
        go_wp2_with fail
        go_ret2
        have := HP.out.symm.trans (fw_full (C := checkM) (es := es) fun j y hj => hrel.out.2 j y hj (by have := (List.getElem?_eq_some_iff.1 hj).1; have := HH.out.1; omega))
        injection this with e1 e2
        rw [e1, e2]
        exact ⟨rfl, hrel.out.1⟩

/-- Whether there are up to 12 metrics, none of which is too great. -/
def fewB (ms : List Mt) : Bool := (ms.take 13).all fewM && decide (ms.length ≤ 12)
theorem fewB_ok {ms : List Mt} (h : fewB ms = true) : ms.length ≤ 12 ∧ ∀ m ∈ ms, fewM m = true := by
  unfold fewB at h
  rw [Bool.and_eq_true, decide_eq_true_eq] at h
  refine ⟨h.2, fun m hm => ?_⟩
  rw [List.take_of_length_le (by omega)] at h
  exact List.all_eq_true.1 h.1 m hm

set_option maxRecDepth 100000 in
set_option maxHeartbeats 4000000 in
theorem fewb_calls {w : World} {A : Option Addr} {len cap : Nat} {es : List En} (hlen : es.length = len) (hM : Mets w A es) (hz : (len : Int) ≤ 9223372036854775807) :
    Calls Try.prog 15 #[.slice A len cap] w fun e w' => e = .returned (.bool (fewB (datM es))) ∧ Below w.heap.size w w' := by
  obtain ⟨q, hq⟩ : ∃ q, fewB (datM es) = q := ⟨_, rfl⟩
  rw [hq]
  have HQ := Lib.hid hq
  have HH := Lib.hid (And.intro hlen hM)
  clear hlen hM hq
  go_enter Try.func15, Try.ntmps15
  go_wp2_with fail
  go_loopw [3] (fun v4 wr => ∃ i : Nat, v4 = .int .i64 i ∧ i ≤ len ∧ i ≤ 13 ∧ Hid (Below w.heap.size w wr ∧ ∀ (j : Nat) x, es[j]? = some x → j < i → fewM x.m = true)) (fun v4 _ => 13 - (intOf v4).toNat)
  case atStart => exact ⟨0, rfl, by omega, by omega, ⟨Below.refl _ _, fun j _ _ hj => absurd hj (by omega)⟩⟩
  case round =>
    obtain ⟨i, rfl, hi, hi2, hrel⟩ := hrel
    by_cases hlt : i < len ∧ i < 13
    · obtain ⟨h1, h2⟩ := hlt
      have g2 : (i : Int) < (len : Int) := by omega
      have g3 : (0 : Int) ≤ (i : Int) := by omega
      have g4 : (i : Int) < 13 := by omega
      obtain ⟨hlen, hM⟩ := HH.out
      have hie : es[i]? = some (es[i]'(by omega)) := List.getElem?_eq_getElem (by omega)
      generalize es[i]'(by omega) = x at hie
      have hMr := hM.keep hrel.out.1
      obtain ⟨b, off, eA, c0, c1, c2, c3, c4, c5⟩ := hMr.get hie
      subst eA
      have hC := fewm_calls (ca := x.ca) (cb := x.cb) (hMr.one hie)
      unfold mV at hC
      obtain ⟨c, hc⟩ : ∃ c, fewM x.m = c := ⟨_, rfl⟩
      rw [hc] at hC
      have HC := Lib.hid hC
      have HI := Lib.hid (And.intro hie hc)
      clear hlen hM hMr hC hc hie
      go_wp2_with fail
      refine HC.out.mono ?_
      rintro e w2 ⟨rfl, hb⟩
      have HB := Lib.hid (below_then hrel.out.1 hb)
      clear hb HC c0 c1 c2 c3 c4 c5
      cases c
      · go_wp2_with fail
        go_ret
        have hf : fewB (datM es) = false := by
          refine Bool.eq_false_iff.2 fun h => ?_
          have h3 := fewB_ok h
          have := h3.2 x.m (List.mem_map.2 ⟨x, List.mem_of_getElem? HI.out.1, rfl⟩)
          rw [HI.out.2] at this; cases this
        rw [← HQ.out, hf]
        exact ⟨rfl, HB.out⟩
      · go_wp2_with fail
        refine ⟨⟨i + 1, by go_num, by omega, by omega, ⟨HB.out, fun j y hj hlt => ?_⟩⟩, by simp [intOf]; omega⟩
        rcases Nat.lt_or_ge j i with h | h
        · exact hrel.out.2 j y hj h
        · obtain rfl : i = j := by omega
          rw [HI.out.1] at hj
          injection hj with hj
          subst hj
          exact HI.out.2
    · have HE := Lib.hid (show fewB (datM es) = decide (len ≤ 12) by
        have hl := HH.out.1
        unfold fewB
        rw [datM_len, hl]
        by_cases h12 : len ≤ 12
        · rw [decide_eq_true h12, Bool.and_true]
          refine List.all_eq_true.2 fun m hm => ?_
          obtain ⟨x, hx, rfl⟩ := List.mem_map.1 (List.mem_of_mem_take hm)
          obtain ⟨j, hj, rfl⟩ := List.mem_iff_getElem.1 hx
          exact hrel.out.2 j _ (List.getElem?_eq_getElem hj) (by omega)
        · rw [decide_eq_false h12, Bool.and_false])
      rcases (by omega : (¬ (i : Int) < (len : Int)) ∨ ((i : Int) < (len : Int) ∧ ¬ (i : Int) < 13)) with g2 | ⟨g2, g3⟩
      all_goals
        go_wp2_with fail
        go_ret
        refine ⟨?_, hrel.out.1⟩
        have e12 : decide ((len : Int) ≤ 12) = decide (len ≤ 12) := decide_eq_decide.2 ⟨fun h => by omega, fun h => by omega⟩
        rw [← HQ.out, HE.out, ← e12]
        first | done | rfl | (simp; omega)
end Go.Proofs.Ytikdolgcdkmmaaa

/-
  The document's Normal of batches. No statement of the seat is proved here.
-/
namespace Go.Proofs.Ytikdolgcdkmmaaa
open Go.RowKit
open Dc (D D0)

set_option maxRecDepth 100000 in
set_option maxHeartbeats 8000000 in
theorem rbnormal_calls {w : World} {A : Option Addr} {len cap : Nat} {es : List En} (hlen : es.length = len) (hz : len ≤ 2000) (hM : Mets w A es) (hs : Smalls es) :
    Calls Try.prog 20 #[.slice A len cap] w (NormB w (datM es) (fwB codeM (datM es)) (nB (datM es))) := by
  obtain ⟨p, hp⟩ : ∃ p, fwB codeM (datM es) = p := ⟨_, rfl⟩
  obtain ⟨r, hr⟩ : ∃ r, nB (datM es) = r := ⟨_, rfl⟩
  have hr' := hr
  unfold nB at hr'
  rw [hp] at hr' ⊢
  rw [hr]
  obtain ⟨p1, p2⟩ := p
  have HH := Lib.hid (And.intro hlen (And.intro hM hs))
  have HP0 := Lib.hid (And.intro hp (And.intro hr hr'))
  by_cases h1 : 1000 < len
  · rw [fwB_out (by omega)] at hp
    injection hp with e1 e2
    subst e1 e2
    have g1 : (1000 : Int) < (len : Int) := by omega
    clear hlen hM hs hr hr'
    go_enter Try.func20, Try.ntmps20
    go_wp2_with fail
    refine bodyPost_ret (results_tmp3 rfl _ _ _) rfl ?_
    exact ⟨⟨_, _, _, [], rfl, Mets.nil, rfl, HP0.out.2.2⟩, Below.refl _ _, HP0.out.1.symm, HP0.out.2.1.symm⟩
  · rw [fwB_in (by omega)] at hp
    have HP := Lib.hid hp
    have g1 : ¬ (1000 : Int) < (len : Int) := by omega
    clear hlen hM hs hp hr hr'
    go_enter Try.func20, Try.ntmps20
    go_wp2_with fail
    go_loopw [5, 6] (fun v5 v6 wr => ∃ i : Nat, v6 = .int .i64 i ∧ i ≤ len ∧ Hid (∃ fs, Below w.heap.size w wr ∧ RowM (fun _ => False) wr w.heap.size v5 i fs ∧ datM fs = (datM (es.take i)).map nM ∧ ∀ (j : Nat) x, es[j]? = some x → j < i → codeM x.m = 0)) (fun _ v6 _ => len - (intOf v6).toNat)
    case atStart => exact ⟨0, rfl, by omega, ⟨[], Below.refl _ _, RowM.nil _, rfl, fun j _ _ hj => absurd hj (by omega)⟩⟩
    case round =>
      obtain ⟨i, rfl, hi, hrel⟩ := hrel
      obtain ⟨fs, hrel'⟩ := hrel.out
      have HR := Lib.hid hrel'
      clear hrel hrel'
      by_cases hlt : i < len
      · have g2 : (i : Int) < (len : Int) := by omega
        have g3 : (0 : Int) ≤ (i : Int) := by omega
        obtain ⟨hlen, hM, hs⟩ := HH.out
        have hie : es[i]? = some (es[i]'(by omega)) := List.getElem?_eq_getElem (by omega)
        generalize es[i]'(by omega) = x at hie
        have hMr := hM.keep HR.out.1
        obtain ⟨b, off, eA, c0, c1, c2, c3, c4, c5⟩ := hMr.get hie
        subst eA
        have hC := rmnormal_fresh (ca := x.ca) (cb := x.cb) (hMr.one hie) (hs x (List.mem_of_getElem? hie))
        unfold NormMF mV at hC
        obtain ⟨c, hc⟩ : ∃ c, codeM x.m = c := ⟨_, rfl⟩
        obtain ⟨m', hm'⟩ : ∃ m', nM x.m = m' := ⟨_, rfl⟩
        rw [hc, hm'] at hC
        obtain ⟨Av, cv, rfl, _⟩ := HR.out.2.1.sl
        have HC := Lib.hid hC
        have HI := Lib.hid (And.intro hie (And.intro hc hm'))
        clear hlen hM hs hMr hC hc hie hm'
        go_wp2_with fail
        refine HC.out.mono ?_
        rintro e w2 ⟨⟨s1, A1, n1, ca1, B1, k1, cb1, rfl, hm1, hfa, hfB⟩, hb⟩
        have HE := Lib.hid (And.intro hm1 (And.intro hfa (And.intro hfB hb)))
        have HB := Lib.hid (below_then HR.out.1 (below_then hb (m_below w2 (.cells #[.string s1, .int .i64 m'.kind, .slice A1 n1 ca1, .int .i64 m'.rate, .slice B1 k1 cb1, .int .i64 m'.time] 25))))
        have HW := Lib.hid (HR.out.2.1.keep (below_then (below_then hb (m_below w2 (.cells #[.string s1, .int .i64 m'.kind, .slice A1 n1 ca1, .int .i64 m'.rate, .slice B1 k1 cb1, .int .i64 m'.time] 25))) (m_below _ (.cells #[.string s1, .int .i64 m'.kind, .slice A1 n1 ca1, .int .i64 m'.rate, .slice B1 k1 cb1, .int .i64 m'.time] 25))))
        have HL := Lib.hid (lies_at (w := w2.alloc (.cells #[.string s1, .int .i64 m'.kind, .slice A1 n1 ca1, .int .i64 m'.rate, .slice B1 k1 cb1, .int .i64 m'.time] 25)) (n := w2.heap.size + 1) (size_alloc _ _) ⟨s1, A1, n1, ca1, B1, k1, cb1, m'⟩)
        clear hb hm1 hfa hfB HC c0 c1 c2 c3 c4 c5
        by_cases hc0 : c = 0
        · have HZ := Lib.hid hc0
          go_wp2_with (first | (at_builtin; refine wpList_append_rows _ rowMet rfl (.tmp 30) (.tmp 32) rfl w.heap.size _ i (flatM fs) rfl HW.out.own (some ⟨w2.heap.size + 1, 0, none⟩) 1 1 (encM ⟨s1, A1, n1, ca1, B1, k1, cb1, m'⟩) rfl rfl HL.out encM_cells (by omega) (by have := HB.out.size; simp only [size_alloc] at *; omega) ?_; intro v3 w3 hown hgr hob; have HG := Lib.hid (And.intro hown (And.intro hgr hob)); clear hown hgr hob))
          obtain ⟨hown, hgr, hob⟩ := HG.out
          obtain ⟨hm1, hfa, hfB, hb1⟩ := HE.out
          have hbA := below_then hb1 (below_then (m_below w2 (.cells #[.string s1, .int .i64 m'.kind, .slice A1 n1 ca1, .int .i64 m'.rate, .slice B1 k1 cb1, .int .i64 m'.time] 25)) (m_below _ (.cells #[.string s1, .int .i64 m'.kind, .slice A1 n1 ca1, .int .i64 m'.rate, .slice B1 k1 cb1, .int .i64 m'.time] 25)))
          have hpsh := RowM.push (X := fun _ => False) (gs := [⟨s1, A1, n1, ca1, B1, k1, cb1, m'⟩]) (m := 1) HR.out.2.1 (CKept.of_below hbA)
            (fun e he => by rcases List.mem_singleton.1 he with rfl; exact (hm1.alloc _).alloc _)
            (fun e he => by
              rcases List.mem_singleton.1 he with rfl
              refine Off.fresh hfa hfB fun b hb => ?_
              rcases hb with hb | hb
              · exact hb.elim
              · exact (HR.out.2.1.lt b hb).2)
            hgr hob (fun _ hb => hb.elim) (by rw [flatM_one]; exact hown)
          refine ⟨⟨i + 1, by go_num, by omega, ⟨fs ++ [⟨s1, A1, n1, ca1, B1, k1, cb1, m'⟩], ?_, hpsh, ?_, ?_⟩⟩, by simp [intOf]; omega⟩
          · exact (below_then HR.out.1 hbA).grown hgr (below_then HR.out.1 hbA).size (fun k hk => (HR.out.2.1.lt k hk).1)
          · rw [take_step HI.out.1]
            have := HR.out.2.2.1
            unfold datM at this ⊢
            rw [List.map_append, this, List.map_append, List.map_append, List.map_cons, List.map_nil, List.map_cons, List.map_nil, List.map_cons, List.map_nil, HI.out.2.2]
          · intro j y hj hlt2
            rcases Nat.lt_or_ge j i with h | h
            · exact HR.out.2.2.2 j y hj h
            · obtain rfl : i = j := by omega
              rw [HI.out.1] at hj
              injection hj with hj
              subst hj
              exact HI.out.2.1.trans HZ.out
        · have HZ := Lib.hid hc0
          go_wp2_with fail
          have := HP.out.symm.trans (fw_at HR.out.2.2.2 HI.out.1 (by rw [HI.out.2.1]; exact HZ.out))
          injection this with e1 e2
          have e2' := e2.trans HI.out.2.1
          subst e1 e2'
          have hre := HP0.out.2.2
          rw [if_neg HZ.out] at hre
          refine bodyPost_ret (results_tmp3 rfl _ _ _) rfl ?_
          exact ⟨⟨_, _, _, [], rfl, Mets.nil, rfl, hre⟩, HB.out, HP0.out.1.symm, HP0.out.2.1.symm⟩
      · have g2 : ¬ (i : Int) < (len : Int) := by omega
        obtain rfl : len = i := by omega
        obtain ⟨Av, cv, rfl, _⟩ := HR.out.2.1.sl
        go_wp2_with fail
        have := HP.out.symm.trans (fw_full (C := codeM) (es := es) fun j y hj => HR.out.2.2.2 j y hj (by have := (List.getElem?_eq_some_iff.1 hj).1; have := HH.out.1; omega))
        injection this with e1 e2
        subst e1 e2
        have hre := HP0.out.2.2
        rw [if_pos rfl] at hre
        have ht : es.take len = es := List.take_of_length_le (by have := HH.out.1; omega)
        have h3 := HR.out.2.2.1
        rw [ht] at h3
        refine bodyPost_ret (results_tmp3 rfl _ _ _) rfl ?_
        exact ⟨⟨_, _, _, fs, rfl, HR.out.2.1.mets, HR.out.2.1.len, h3.trans hre⟩, HR.out.1, HP0.out.1.symm, HP0.out.2.1.symm⟩
end Go.Proofs.Ytikdolgcdkmmaaa

/-
  batch.Equal. No statement of the seat is proved here.
-/
namespace Go.Proofs.Ytikdolgcdkmmaaa
open Go.RowKit Go.Shelf
open Dc (D D0)

attribute [local go_sem] Oper.semAt_some

theorem dat_eq {es fs : List En} (hl : es.length = fs.length) (h : ∀ (j : Nat) a b, es[j]? = some a → fs[j]? = some b → a.m = b.m) : datM es = datM fs := by
  apply List.ext_getElem?
  intro i
  unfold datM
  rw [List.getElem?_map, List.getElem?_map]
  rcases Nat.lt_or_ge i es.length with hlt | hge
  · have e1 := List.getElem?_eq_getElem hlt
    have e2 := List.getElem?_eq_getElem (show i < fs.length by omega)
    rw [e1, e2, Option.map_some, Option.map_some, h i _ _ e1 e2]
  · rw [List.getElem?_eq_none hge, List.getElem?_eq_none (by omega)]
theorem dat_ne {es fs : List En} {i : Nat} {a b : En} (ha : es[i]? = some a) (hb : fs[i]? = some b) (hne : a.m ≠ b.m) : datM es ≠ datM fs := fun h => by
  have := congrArg (fun l => l[i]?) h
  unfold datM at this
  simp only [List.getElem?_map, ha, hb, Option.map_some, Option.some.injEq] at this
  exact hne this

/-- What a round of Equal may know. -/
structure EqI (es fs : List En) (b0 : Nat) (v : Value) (pre : List (It es)) (W : World) : Prop where
  bx : Boxed W b0 41 v
  r : Boxed W (b0 + 1) 4 (.bool false)
  all : ∀ y ∈ pre, ∀ b, fs[y.1.1]? = some b → y.1.2.m = b.m
  size : b0 + 3 ≤ W.heap.size
/-- How a round of it is left. -/
structure EqX (es fs : List En) (b0 : Nat) (c : Code) (W : World) : Prop where
  ret : c = .ret
  ne : datM es ≠ datM fs
  r : Boxed W (b0 + 1) 4 (.bool false)

set_option maxRecDepth 100000 in
set_option maxHeartbeats 8000000 in
theorem bequal_calls {w : World} {A B : Option Addr} {len lenb cap capb : Nat} {es fs : List En} (hlen : es.length = len) (hlenb : fs.length = lenb) (hz : len ≤ 100000) (hzb : lenb ≤ 100000) (hM : Mets w A es) (hMb : Mets w B fs) (hs : Smalls es) :
    Calls Try.prog 22 #[.slice A len cap, .slice B lenb capb] w fun e W' => e = .returned (.bool (decide (datM es = datM fs))) ∧ Below w.heap.size w W' := by
  obtain ⟨q, hq⟩ : ∃ q, decide (datM es = datM fs) = q := ⟨_, rfl⟩
  rw [hq]
  have HP := Lib.hid (And.intro hq (And.intro hMb hs))
  have HL := Lib.hid (And.intro hlen hlenb)
  have hmx : Try.prog.follows .mixedOrders = true := by kernel_rfl
  refine (callsIn_wide (n := 9)).1 ?_
  refine callsIn_of_wp_marks Try.func22 rfl trivial ?_ rfl
  simp only [Try.ntmps22, List.size_toArray, List.length_cons, List.length_nil, Nat.reduceAdd, Nat.reduceSub, Array.replicate_succ, Array.replicate_zero, List.push_toArray, List.append_toArray, List.nil_append, List.cons_append]
  by_cases h1 : len = lenb
  · subst h1
    have b0 := Boxed.new w 41 (.slice B len capb)
    have b1 := Boxed.new (w.alloc (.cells #[.slice B len capb] 41)) 4 (.bool false)
    rw [World.size_alloc] at b1
    have cB : ((w.alloc (.cells #[.slice B len capb] 41)).alloc (.cells #[.bool false] 4)).cell? ⟨w.heap.size, 0, none⟩ = some (.slice B len capb) := (b0.alloc _).cell
    clear hMb hs hq
    gi_wp2_with (refine ⟨trivial, ?_⟩; gi_at_call 38; refine (places_in Fence.wide _ trivial rfl _ _ _ _).mono ?_; rintro e w' ⟨rfl, rfl⟩)
    have b2 := Boxed.new ((w.alloc (.cells #[.slice B len capb] 41)).alloc (.cells #[.bool false] 4)) 41 (.slice A len cap)
    rw [World.size_alloc, World.size_alloc] at b2
    replace b1 := b1.alloc (.cells #[.slice A len cap] 41)
    replace b0 := (b0.alloc (.cells #[.bool false] 4)).alloc (.cells #[.slice A len cap] 41)
    have hb0 : Below w.heap.size w (((w.alloc (.cells #[.slice B len capb] 41)).alloc (.cells #[.bool false] 4)).alloc (.cells #[.slice A len cap] 41)) := below_then (below_then (m_below _ _) (m_below _ _)) (m_below _ _)
    have hsz : (((w.alloc (.cells #[.slice B len capb] 41)).alloc (.cells #[.bool false] 4)).alloc (.cells #[.slice A len cap] 41)).heap.size = w.heap.size + 3 := by simp
    clear cB
    obtain ⟨W0, hW0⟩ : ∃ W0, ((w.alloc (.cells #[.slice B len capb] 41)).alloc (.cells #[.bool false] 4)).alloc (.cells #[.slice A len cap] 41) = W0 := ⟨_, rfl⟩
    rw [hW0] at b0 b1 b2 hb0 hsz ⊢
    clear hW0
    refine wpIn_rangeFunc_ownH rfl (by omega) (gf := 55) (lb := #[.pointer (some ⟨w.heap.size + 1 + 1, 0, none⟩)]) rfl trivial (enters_of Try.func55 (by kernel_rfl) rfl)
      (places_stops Fence.wide _ trivial rfl (by omega) (w.heap.size + 1 + 1) A len cap hlen hz hM W0 hb0 (by omega) b2.cell) belowK_t (belowK_b hb0.size) (Below.refl _ _) (fun _ => rfl)
      (fun pre W => EqI es fs w.heap.size (.slice B len capb) pre W ∧ Below w.heap.size w W)
      (fun c _ W => EqX es fs w.heap.size c W ∧ Below w.heap.size w W)
      (OwnFrom.and (fun _ _ _ _ hs hg hr => ⟨box_own (cs := [_]) hs.bx hg (fun r e => (hr r e).2), box_own (cs := [_]) hs.r hg (fun r e => (hr r e).2), hs.all, Nat.le_trans hs.size hg.size⟩) (ownFrom_below (Nat.le_refl _) hb0.size))
      (fun c => OwnFrom.and (fun _ _ _ _ hs hg hr => ⟨hs.ret, hs.ne, box_own (cs := [_]) hs.r hg (fun r e => (hr r e).2)⟩) (ownFrom_below (Nat.le_refl _) hb0.size))
      ⟨⟨b0, b1, by simp, by omega⟩, hb0⟩
      (fun x a' W => ∃ Bx, w.heap.size + 3 ≤ Bx ∧ Box W Bx 25 [.string x.1.2.s, .int .i64 x.1.2.m.kind, .slice x.1.2.A x.1.2.n x.1.2.ca, .int .i64 x.1.2.m.rate, .slice x.1.2.B x.1.2.k x.1.2.cb, .int .i64 x.1.2.m.time] ∧
        a' = { tmps := #[.slice A len cap, .slice B len capb, undef, .pointer (some ⟨w.heap.size, 0, none⟩), .pointer (some ⟨w.heap.size + 1, 0, none⟩), .int .i64 (x.1.1 : Int), .pointer (some ⟨Bx, 0, none⟩), .slice A len cap, .int .i64 len, .slice B len capb, .int .i64 len, .bool false, .slice A len cap, .func (.func 55) #[] #[.pointer (some ⟨w.heap.size + 1 + 1, 0, none⟩)], .int .i64 (x.1.1 : Int), .agg #[.string x.1.2.s, .int .i64 x.1.2.m.kind, .slice x.1.2.A x.1.2.n x.1.2.ca, .int .i64 x.1.2.m.rate, .slice x.1.2.B x.1.2.k x.1.2.cb, .int .i64 x.1.2.m.time], undef, undef, undef, undef, undef, undef, undef], defers := [] })
      (fun x a' _ X Y row hs hg hr => by obtain ⟨Bx, h1, h2, h3⟩ := hs; exact ⟨Bx, h1, box_own h2 hg (fun r e => (hr r e).2), h3⟩)
      ?assign ?body ?done ?stop
    case assign =>
      rintro l pre x W K ⟨hi, hB⟩ hK
      have hsW := hB.size
      unfold encI
      gi_wp2
      exact hK _ _ ((KeepsOthers.alloc _ _).from _) ((Below.refl _ W).alloc hsW _) ⟨⟨hi.bx.alloc _, hi.r.alloc _, hi.all, by have := hi.size; rw [World.size_alloc]; omega⟩, hB.alloc hsW _⟩ ⟨W.heap.size, hi.size, Box.new W 25 _, rfl⟩
    case body =>
      rintro l pre x a' W hl ⟨r, hr⟩ ⟨hi, hB⟩ ⟨Bx, hBx, bX, rfl⟩ hlt
      have hxl : x.1.1 < len := by have := (List.getElem?_eq_some_iff.1 x.2).1; omega
      have hfe : fs[x.1.1]? = some (fs[x.1.1]'(by have := HL.out.2; omega)) := List.getElem?_eq_getElem _
      generalize fs[x.1.1]'(by have := HL.out.2; omega) = y at hfe
      obtain ⟨bb, off, eB, d0, d1, d2, d3, d4, d5⟩ := (HP.out.2.1.keep hB).get hfe
      have hC := fun W' (hb : Below W.heap.size W W') => equal_calls (ca := x.1.2.ca) (cb := x.1.2.cb) (ca' := y.ca) (cb' := y.cb) ((hM.keep (below_then hB hb)).one x.2) ((HP.out.2.1.keep (below_then hB hb)).one hfe) (HP.out.2.2 _ (List.mem_of_getElem? x.2))
      unfold mV at hC
      obtain ⟨c, hc⟩ : ∃ c, decide (x.1.2.m = y.m) = c := ⟨_, rfl⟩
      rw [hc] at hC
      subst eB
      have HC := Lib.hid hC
      have HI := Lib.hid (And.intro hi (And.intro hB (And.intro hc hfe)))
      have c0 := bX.cell 0
      have c1 := bX.cell 1
      have c2 := bX.cell 2
      have c3 := bX.cell 3
      have c4 := bX.cell 4
      have c5 := bX.cell 5
      have cf := hi.bx.cell
      simp only [List.getElem?_cons_zero, List.getElem?_cons_succ] at c0 c1 c2 c3 c4 c5
      have g1 : (x.1.1 : Int) < (len : Int) := by omega
      have g2 : (0 : Int) ≤ (x.1.1 : Int) := by omega
      clear hi hB hC bX hc
      gi_wp2
      cases c
      · gi_region_with_o (refine ⟨trivial, ?_⟩; gi_at_call 27; refine (CallsIn.inRound l (callsIn_wide.2 (HC.out _ (Same.below (Same.drewN _ 1))))).mono ?_; rintro e w2 ⟨rfl, hb⟩; have HB := Lib.hid (below_then (Same.below (Same.drewN W 1)) hb); have e1 := ((CKept.of_below (X := fun _ => False) HB.out).boxed HI.out.1.r id).cell; have f1 := ((CKept.of_below (X := fun _ => False) HB.out).boxed HI.out.1.r id).frozen; clear hb c0 c1 c2 c3 c4 c5 d0 d1 d2 d3 d4 d5 cf)
        all_goals
          gi_wp2
          exact ⟨((KeepsX.of_below (B := 0) HB.out).from (Nat.zero_le _)).trans ((KeepsOthers.setCell _ _ _).from _),
            ⟨rfl, dat_ne x.2 HI.out.2.2.2 (of_decide_eq_false HI.out.2.2.1), ((CKept.of_below (X := fun _ => False) HB.out).boxed HI.out.1.r id).set _⟩, (HI.out.2.1.trans (HB.out.mono HI.out.2.1.size)).setCell (p := ⟨w.heap.size + 1, 0, none⟩) (by show _ ≤ w.heap.size + 1; omega) _⟩
      · gi_region_with_o (refine ⟨trivial, ?_⟩; gi_at_call 27; refine (CallsIn.inRound l (callsIn_wide.2 (HC.out _ (Same.below (Same.drewN _ 1))))).mono ?_; rintro e w2 ⟨rfl, hb⟩; have HB := Lib.hid (below_then (Same.below (Same.drewN W 1)) hb); clear hb c0 c1 c2 c3 c4 c5 d0 d1 d2 d3 d4 d5 cf)
        all_goals
          gi_wp2
          exact ⟨(KeepsX.of_below (B := 0) HB.out).from (Nat.zero_le _), HB.out.mono HI.out.2.1.size, ⟨(CKept.of_below (X := fun _ => False) HB.out).boxed HI.out.1.bx id, (CKept.of_below (X := fun _ => False) HB.out).boxed HI.out.1.r id, fun z hz => by
            rcases List.mem_append.1 hz with hz | hz
            · exact HI.out.1.all z hz
            · rcases List.mem_singleton.1 hz with rfl
              intro b hb
              rw [HI.out.2.2.2] at hb
              injection hb with hb
              subst hb
              exact of_decide_eq_true HI.out.2.2.1, Nat.le_trans HI.out.1.size HB.out.size⟩, HI.out.2.1.trans (HB.out.mono HI.out.2.1.size)⟩
    case done =>
      rintro D xs W hD ⟨hF, hl⟩ ⟨hi, hB⟩ hK
      have d1 := hi.r.cell
      have f1 := hi.r.frozen
      have HI := Lib.hid (And.intro hi (And.intro hB (And.intro hF hl)))
      clear hi hB hF hl
      gi_wp2
      obtain ⟨hi, hB, hF, hl⟩ := HI.out
      have hK' := (KeepsOthers.setCell W ⟨w.heap.size + 1, 0, none⟩ (.bool true)).same D _ hK rfl
      refine ⟨by simp, .inl ⟨_, _, rfl, run_takeDeferred hK', ?_⟩⟩
      have e1 := cell_kept (hi.r.set (.bool true)).cell (grownBy_putObj' _ D (.deferred none)) (fun r e => by cases e; exact ⟨_, hK', rfl⟩)
      have hqt : true = q := by
        rw [← HP.out.1]
        refine (decide_eq_true (dat_eq (by rw [HL.out.1, HL.out.2]) fun j a b ha hb => ?_)).symm
        have hj : j < xs.length := by have := (List.getElem?_eq_some_iff.1 ha).1; omega
        have hx := hF j _ (List.getElem?_eq_getElem hj)
        have h2 := hi.all _ (List.getElem_mem hj) b (by rw [hx]; exact hb)
        have h3 := xs[j].2
        rw [hx, ha] at h3
        injection h3 with h3
        rw [h3]; exact h2
      subst hqt
      refine ⟨.bool true, ?_, rfl, (hB.setCell (p := ⟨w.heap.size + 1, 0, none⟩) (by show _ ≤ w.heap.size + 1; omega) _).trans (belowK_b (w := W0) hb0.size _ D _ _ hD hK' rfl rfl)⟩
      simp [results, Try.f22, go_sem, e1]
    case stop =>
      rintro D c pre W hD ⟨hF, hl⟩ ⟨hx, hB⟩ hK
      obtain ⟨rfl, hne, hr⟩ := hx
      have HI := Lib.hid (And.intro hne (And.intro hr hB))
      have d1 := hr.cell
      clear hne hr hB hF hl
      gi_wp2
      obtain ⟨hne, hr, hB⟩ := HI.out
      refine ⟨by simp, .inl ⟨_, _, rfl, run_takeDeferred hK, ?_⟩⟩
      have e1 := cell_kept hr.cell (grownBy_putObj' _ D (.deferred none)) (fun r e => by cases e; exact ⟨_, hK, rfl⟩)
      have hqf : false = q := by rw [← HP.out.1]; exact (decide_eq_false hne).symm
      subst hqf
      refine ⟨.bool false, ?_, rfl, hB.trans (belowK_b (w := W0) hb0.size _ D _ _ hD hK rfl rfl)⟩
      simp [results, Try.f22, go_sem, e1]
  · have g1 : (len : Int) ≠ (lenb : Int) := by omega
    have HE := Lib.hid (show q = false by rw [← HP.out.1]; exact decide_eq_false fun h => h1 (by have := congrArg List.length h; rw [datM_len, datM_len, hlen, hlenb] at this; exact this))
    clear hMb hs hq hM hlen hlenb
    gi_wp2
    refine ⟨.bool false, ?_, by rw [HE.out], below_then (m_below _ _) (m_below _ _)⟩
    simp [results, Try.f22, go_sem]
end Go.Proofs.Ytikdolgcdkmmaaa
