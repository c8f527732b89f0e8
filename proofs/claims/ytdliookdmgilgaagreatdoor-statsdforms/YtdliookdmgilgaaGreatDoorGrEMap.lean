/-
  EMap, SdWord. No statement of the seat is proved here.
-/
import Derived.Test.YtdliookdmgilgaaGreatDoorMRows
import Derived.Test.YtdliookdmgilgaaGreatDoorGrMClone
import Derived.Maps.OwnIn
import Derived.Test.YtdliookdmgilgaaGreatDoorGrSdMath
import Derived.Maps.StringElems
/-
  Package expr: the map of functions by formats. No statement of the seat is proved here.
-/
namespace Go.Proofs.YtdliookdmgilgaaGreatDoor
open Go.RowKit
open Dc (D D0)

/-- How a function of the map reads: one that captures nothing, by its number; none as -1. -/
def fnR (v : Value) : Option (DataW Unit × List MemPlace) := match v with
  | .func (.func f) a b => if a.size = 0 ∧ b.size = 0 then some (.lit (.int .i64 (f : Int)), []) else none
  | .nilFunc => some (.lit (.int .i64 (-1)), [])
  | _ => none
theorem fnR_inv {v : Value} {f : Nat} {ps : List MemPlace} (h : fnR v = some (.lit (.int .i64 (f : Int)), ps)) : v = .func (.func f) #[] #[] := by
  unfold fnR at h
  split at h
  · rename_i g a b
    split at h
    · rename_i hs
      injection h with h
      injection h with h _
      injection h with h
      injection h with _ h
      obtain rfl : a = #[] := Array.eq_empty_of_size_eq_zero hs.1
      obtain rfl : b = #[] := Array.eq_empty_of_size_eq_zero hs.2
      rw [Int.ofNat.inj h]
    · cases h
  · injection h with h
    injection h with h _
    injection h with h
    injection h with _ h
    omega
  · cases h

/-- The function of a format. -/
def fnOf (f : Int) : Nat := if f = 1 then 72 else if f = 3 then 74 else 73
/-- What the map reads as. -/
def D4 : DataW Unit := ((((DataW.map []).put (.int .i64 1) (.lit (.int .i64 ((72 : Nat) : Int)))).put (.int .i64 2) (.lit (.int .i64 ((73 : Nat) : Int)))).put (.int .i64 3) (.lit (.int .i64 ((74 : Nat) : Int)))).put (.int .i64 4) (.lit (.int .i64 ((73 : Nat) : Int)))
theorem D4_has (f : Int) : Maps.has D4 (.int .i64 f) = known f := by
  by_cases h : 1 ≤ f ∧ f ≤ 4
  · rcases (by omega : f = 1 ∨ f = 2 ∨ f = 3 ∨ f = 4) with rfl | rfl | rfl | rfl <;> decide
  · unfold known D4
    rw [decide_eq_false h]
    have ne : ∀ g : Int, 1 ≤ g → g ≤ 4 → Lit.int .i64 f ≠ .int .i64 g := fun g h1 h2 e => by injection e with _ e; omega
    rw [Maps.has_put_other (ne 4 (by omega) (by omega)), Maps.has_put_other (ne 3 (by omega) (by omega)), Maps.has_put_other (ne 2 (by omega) (by omega)), Maps.has_put_other (ne 1 (by omega) (by omega))]
    rfl
theorem D4_at {f : Int} (h : known f = true) (z : DataW Unit) : D4.atKey (.int .i64 f) z = .lit (.int .i64 ((fnOf f : Nat) : Int)) := by
  have h := of_decide_eq_true h
  rcases (by omega : f = 1 ∨ f = 2 ∨ f = 3 ∨ f = 4) with rfl | rfl | rfl | rfl <;> rfl

theorem qKeyed : Maps.Keyed Tryz.prog 3 := Maps.int_keyed Tryz.underlying3
set_option maxRecDepth 100000 in
set_option maxHeartbeats 4000000 in
theorem questions_calls (w : World) : Calls Tryz.prog 43 #[] w fun e w' => ∃ b, e = .returned (.map (some b)) ∧ w'.ownsMap Tryz.prog 3 fnR b 4 D4 ∧ Below w.heap.size w w' := by
  have hmm := @run_makeMap Tryz.prog
  have h0 := World.ownsMap_made w Tryz.prog 3 fnR
  obtain ⟨w1, r1, h1, g1⟩ := h0.update (val := .func (.func 72) #[] #[]) qKeyed Tryz.underlying76 (by decide) (Maps.keyOf_int_mk Tryz.underlying3 (a := 1) (by decide)) rfl
  obtain ⟨w2, r2, h2, g2⟩ := h1.update (val := .func (.func 73) #[] #[]) qKeyed Tryz.underlying76 (by decide) (Maps.keyOf_int_mk Tryz.underlying3 (a := 2) (by decide)) rfl
  obtain ⟨w3, r3, h3, g3⟩ := h2.update (val := .func (.func 74) #[] #[]) qKeyed Tryz.underlying76 (by decide) (Maps.keyOf_int_mk Tryz.underlying3 (a := 3) (by decide)) rfl
  obtain ⟨w4, r4, h4, g4⟩ := h3.update (val := .func (.func 73) #[] #[]) qKeyed Tryz.underlying76 (by decide) (Maps.keyOf_int_mk Tryz.underlying3 (a := 4) (by decide)) rfl
  have hb : Below w.heap.size w w4 := by
    have b0 : Below w.heap.size w (w.alloc (.map #[] 0)) := (Below.refl _ _).alloc (Nat.le_refl _) _
    have fin : ∀ j, some w.heap.size = some j → w.heap.size ≤ j := fun j e => by injection e with e; omega
    have b1 := b0.grown g1 b0.size fin
    have b2 := b1.grown g2 b1.size fin
    have b3 := b2.grown g3 b2.size fin
    exact b3.grown g4 b3.size fin
  have HH := Lib.hid (And.intro h4 hb)
  clear h0 h1 h2 h3 h4 g1 g2 g3 g4 hb
  go_enter Tryz.func43, Tryz.ntmps43
  go_wp2_with fail
  go_ret
  exact ⟨w.heap.size, rfl, HH.out.1, HH.out.2⟩

/-- 'm[f]', and with 'ok': what comes back. -/
theorem look_ok {W : World} {b : Nat} (h : W.ownsMap Tryz.prog 3 fnR b 4 D4) {f : Int} (hf : (Lit.int .i64 f).wf = true) :
    ∃ v, (Instr.lookup 76 (.map (some b)) (.int .i64 f) true).run Tryz.prog W = .ok (.tuple #[v, .bool (known f)]) W ∧ (known f = true → v = .func (.func (fnOf f)) #[] #[]) := by
  obtain ⟨v, ps, hr, hv⟩ := h.look_ok (z := .nilFunc) qKeyed Tryz.underlying76 (by kernel_rfl) (zd := .lit (.int .i64 (-1))) (zp := []) rfl (Maps.keyOf_int_mk Tryz.underlying3 hf)
  rw [D4_has] at hr
  exact ⟨v, hr, fun hk => fnR_inv (by rw [D4_at hk] at hv; exact hv)⟩
theorem look_fn {W : World} {b : Nat} (h : W.ownsMap Tryz.prog 3 fnR b 4 D4) {f : Int} (hf : (Lit.int .i64 f).wf = true) :
    ∃ v, (Instr.lookup 76 (.map (some b)) (.int .i64 f) false).run Tryz.prog W = .ok v W ∧ (known f = true → v = .func (.func (fnOf f)) #[] #[]) := by
  obtain ⟨v, ps, hr, hv⟩ := h.lookup (z := .nilFunc) qKeyed Tryz.underlying76 (by kernel_rfl) (zd := .lit (.int .i64 (-1))) (zp := []) rfl (Maps.keyOf_int_mk Tryz.underlying3 hf)
  exact ⟨v, hr, fun hk => fnR_inv (by rw [D4_at hk] at hv; exact hv)⟩
end Go.Proofs.YtdliookdmgilgaaGreatDoor

/-
  Package statsd: the map of words by kinds; Word and Kind. No statement of the seat is proved here.
-/
namespace Go.Proofs.YtdliookdmgilgaaGreatDoor
open Go.RowKit
open Dc (D D0)

/-- What the map reads as. -/
def W4 : DataW Unit := ((((DataW.map []).put (.int .i64 1) (.lit (.string [99]))).put (.int .i64 2) (.lit (.string [103]))).put (.int .i64 3) (.lit (.string [109, 115]))).put (.int .i64 4) (.lit (.string [104]))
theorem W4_at {k : Int} (h : 1 ≤ k ∧ k ≤ 4) (z : DataW Unit) : W4.atKey (.int .i64 k) z = .lit (.string (wordOf k)) := by
  rcases (by omega : k = 1 ∨ k = 2 ∨ k = 3 ∨ k = 4) with rfl | rfl | rfl | rfl <;> rfl
theorem W4_has (k : Int) : Maps.has W4 (.int .i64 k) = decide (1 ≤ k ∧ k ≤ 4) := by
  by_cases h : 1 ≤ k ∧ k ≤ 4
  · rcases (by omega : k = 1 ∨ k = 2 ∨ k = 3 ∨ k = 4) with rfl | rfl | rfl | rfl <;> decide
  · unfold W4
    rw [decide_eq_false h]
    have ne : ∀ g : Int, 1 ≤ g → g ≤ 4 → Lit.int .i64 k ≠ .int .i64 g := fun g h1 h2 e => by injection e with _ e; omega
    rw [Maps.has_put_other (ne 4 (by omega) (by omega)), Maps.has_put_other (ne 3 (by omega) (by omega)), Maps.has_put_other (ne 2 (by omega) (by omega)), Maps.has_put_other (ne 1 (by omega) (by omega))]
    rfl
noncomputable abbrev strR : Value → Option (DataW Unit × List MemPlace) := plainElem Tryz.prog 9
theorem strR_lit (s : ByteArray) (h : s.size ≤ 10) : strR (.string s) = some (.lit (.string s.data.toList), []) := plainElem_string Tryz.underlying9 (by unfold maxLen; omega)
set_option maxRecDepth 100000 in
set_option maxHeartbeats 4000000 in
theorem swords_calls (w : World) : Calls Tryz.prog 42 #[] w fun e w' => ∃ b, e = .returned (.map (some b)) ∧ w'.ownsMap Tryz.prog 3 strR b 4 W4 ∧ w.heap.size ≤ b ∧ Below w.heap.size w w' := by
  have hmm := @run_makeMap Tryz.prog
  have h0 := World.ownsMap_made w Tryz.prog 3 strR
  obtain ⟨w1, r1, h1, g1⟩ := h0.update (val := .string ⟨#[99]⟩) qKeyed Tryz.underlying72 (by decide) (Maps.keyOf_int_mk Tryz.underlying3 (a := 1) (by decide)) (strR_lit ⟨#[99]⟩ (by decide))
  obtain ⟨w2, r2, h2, g2⟩ := h1.update (val := .string ⟨#[103]⟩) qKeyed Tryz.underlying72 (by decide) (Maps.keyOf_int_mk Tryz.underlying3 (a := 2) (by decide)) (strR_lit ⟨#[103]⟩ (by decide))
  obtain ⟨w3, r3, h3, g3⟩ := h2.update (val := .string ⟨#[109, 115]⟩) qKeyed Tryz.underlying72 (by decide) (Maps.keyOf_int_mk Tryz.underlying3 (a := 3) (by decide)) (strR_lit ⟨#[109, 115]⟩ (by decide))
  obtain ⟨w4, r4, h4, g4⟩ := h3.update (val := .string ⟨#[104]⟩) qKeyed Tryz.underlying72 (by decide) (Maps.keyOf_int_mk Tryz.underlying3 (a := 4) (by decide)) (strR_lit ⟨#[104]⟩ (by decide))
  have hb : Below w.heap.size w w4 := by
    have b0 : Below w.heap.size w (w.alloc (.map #[] 0)) := (Below.refl _ _).alloc (Nat.le_refl _) _
    have fin : ∀ j, some w.heap.size = some j → w.heap.size ≤ j := fun j e => by injection e with e; omega
    have b1 := b0.grown g1 b0.size fin
    have b2 := b1.grown g2 b1.size fin
    have b3 := b2.grown g3 b2.size fin
    exact b3.grown g4 b3.size fin
  have HH := Lib.hid (And.intro h4 hb)
  clear h0 h1 h2 h3 h4 g1 g2 g3 g4 hb
  go_enter Tryz.func42, Tryz.ntmps42
  go_wp2_with fail
  go_ret
  exact ⟨w.heap.size, rfl, HH.out.1, Nat.le_refl _, HH.out.2⟩

set_option maxRecDepth 100000 in
/-- 'm[k]' with 'ok'. -/
theorem look_word {W : World} {b : Nat} (h : W.ownsMap Tryz.prog 3 strR b 4 W4) {k : Int} (hk : (Lit.int .i64 k).wf = true) :
    ∃ v, (Instr.lookup 72 (.map (some b)) (.int .i64 k) true).run Tryz.prog W = .ok (.tuple #[v, .bool (decide (1 ≤ k ∧ k ≤ 4))]) W ∧ (1 ≤ k ∧ k ≤ 4 → v = .string ⟨(wordOf k).toArray⟩) := by
  obtain ⟨v, ps, hr, hv⟩ := h.look_ok (z := .string ⟨#[]⟩) qKeyed Tryz.underlying72 (by kernel_rfl) (zd := .lit (.string [])) (zp := []) (strR_lit ⟨#[]⟩ (by decide)) (Maps.keyOf_int_mk Tryz.underlying3 hk)
  rw [W4_has] at hr
  refine ⟨v, hr, fun hk => ?_⟩
  rw [W4_at hk] at hv
  obtain ⟨s, rfl, e, _⟩ := plainElem_string_inv Tryz.underlying9 hv
  injection e with e _
  injection e with e
  injection e with e
  rw [e]
/-- A kind's word, and the error. -/
def codeW (k : Int) : Int := if 1 ≤ k ∧ k ≤ 4 then 0 else 16
def codeK (l : List UInt8) : Int := if kindOf l = 0 then 16 else 0
set_option maxRecDepth 100000 in
set_option maxHeartbeats 4000000 in
theorem sword_calls {k : Int} (hk : (Lit.int .i64 k).wf = true) (w : World) : Calls Tryz.prog 17 #[.int .i64 k] w fun e w' => e = .returned (.tuple #[.string ⟨(wordOf k).toArray⟩, .int .i64 (codeW k)]) ∧ Below w.heap.size w w' := by
  obtain ⟨q, hq⟩ : ∃ q, codeW k = q := ⟨_, rfl⟩
  obtain ⟨u, hu⟩ : ∃ u, wordOf k = u := ⟨_, rfl⟩
  rw [hq, hu]
  have HQ := Lib.hid (And.intro hq (And.intro hu hk))
  clear hq hu hk
  go_enter Tryz.func17, Tryz.ntmps17
  go_wp2_with fail
  refine (swords_calls _).mono ?_
  rintro e w1 ⟨b, rfl, hown, _, hb⟩
  obtain ⟨v, hl, hv⟩ := look_word hown HQ.out.2.2
  have HB := Lib.hid hb
  clear hown hb
  by_cases h : 1 ≤ k ∧ k ≤ 4
  · obtain rfl := hv h
    rw [decide_eq_true h, HQ.out.2.1] at hl
    have HE := Lib.hid (show q = 0 by rw [← HQ.out.1]; exact if_pos h)
    clear h hv
    go_wp2_with fail
    go_ret2
    exact ⟨by rw [HE.out]; first | done | rfl, HB.out⟩
  · rw [decide_eq_false h] at hl
    have HE := Lib.hid (show q = 16 ∧ u = [] from ⟨by rw [← HQ.out.1]; exact if_neg h, by rw [← HQ.out.2.1]; exact wordOf_none h⟩)
    clear h hv
    go_wp2_with fail
    go_ret2
    exact ⟨by rw [HE.out.1, HE.out.2]; first | done | rfl, HB.out⟩

theorem kindOf_of {l : List UInt8} {k : Int} (h : 1 ≤ k ∧ k ≤ 4) (e : wordOf k = l) : kindOf l = k := by rw [← e]; exact kindOf_word h
theorem kindOf_no {l : List UInt8} (h : ∀ k : Int, 1 ≤ k ∧ k ≤ 4 → wordOf k ≠ l) : kindOf l = 0 := by
  rcases Decidable.em (kindOf l = 0) with h0 | h0
  · exact h0
  · obtain ⟨h1, h2⟩ := wordOf_kind h0
    exact absurd h1 (h _ h2)
set_option maxRecDepth 100000 in
set_option maxHeartbeats 4000000 in
theorem skind_calls {s : ByteArray} {l : List UInt8} (hs : Str s l) (w : World) : Calls Tryz.prog 19 #[.string s] w fun e w' => e = .returned (.tuple #[.int .i64 (kindOf l), .int .i64 (codeK l)]) ∧ Below w.heap.size w w' := by
  obtain ⟨q, hq⟩ : ∃ q, codeK l = q := ⟨_, rfl⟩
  obtain ⟨u, hu⟩ : ∃ u, kindOf l = u := ⟨_, rfl⟩
  rw [hq, hu]
  have HQ := Lib.hid (And.intro hq (And.intro hu hs))
  clear hq hu hs
  go_enter Tryz.func19, Tryz.ntmps19
  go_wp2_with fail
  refine (swords_calls _).mono ?_
  rintro e w1 ⟨b, rfl, hown, hge, hb⟩
  have HB := Lib.hid (And.intro hge hb)
  clear hge hb
  go_wp2_with (at_range; refine wpList_range_own _ rfl _ 72 rfl 3 9 qKeyed Tryz.underlying72 _ b 4 W4 rfl hown ?_; intro w0 hrg0 hg0 hs0)
  go_frame
  go_loopw [4] (fun v4 wr => ∃ left cnt, wr.ranges Tryz.prog 3 strR b w1.heap.size 4 W4 left cnt ∧ Hid (Below w.heap.size w wr ∧ w.heap.size ≤ w1.heap.size ∧ ∀ k : Int, 1 ≤ k ∧ k ≤ 4 → left (.int .i64 k) = false → wordOf k ≠ l)) (fun _ wr => wr.rangeLeft b w1.heap.size)
  case atStart =>
    refine ⟨_, _, hrg0, ⟨HB.out.2.grown hg0 HB.out.2.size (by simp), HB.out.2.size, fun k hk h => ?_⟩⟩
    rw [W4_has, decide_eq_true hk] at h
    cases h
  case round =>
    obtain ⟨left, cnt, hrg, hrel⟩ := hrel
    clear hrg0 hg0 hs0 hown
    go_wp2_with (at_next; refine wpList_next_ranges_is _ rfl _ rfl 3 9 .i64 qKeyed Tryz.underlying3 Tryz.underlying9 b w1.heap.size _ _ _ _ rfl hrg ?_ ?_)
    · intro _ hl0
      have HE := Lib.hid (show u = 0 ∧ q = 16 by
        have h0 : kindOf l = 0 := kindOf_no fun k hk => hrel.out.2.2 k hk (hl0 _)
        refine ⟨by rw [← HQ.out.2.1]; exact h0, by rw [← HQ.out.1]; exact if_pos h0⟩)
      clear hl0
      go_wp2_with fail
      go_ret2
      exact ⟨by rw [HE.out.1, HE.out.2]; first | done | rfl, hrel.out.1⟩
    · intro x c w2 cnt1 hwx hwc hlx hat hrg1 hlt hg1 hs1 hen
      have hx : 1 ≤ x ∧ x ≤ 4 := by
        have := Maps.has_true_of_atKey hat
        rw [W4_has] at this
        exact of_decide_eq_true this
      have hc : c = ⟨(wordOf x).toArray⟩ := by
        have := hat (.lit .nil)
        rw [W4_at hx] at this
        injection this with e
        injection e with e
        rw [e]
      have HB2 := Lib.hid (hrel.out.1.grown hg1 hrel.out.1.size (fun j e => by injection e with e; have := hrel.out.2.1; omega))
      clear hat hwc hg1
      by_cases he : wordOf x = l
      · have HE := Lib.hid (show u = x ∧ q = 0 by
          have h0 := kindOf_of hx he
          refine ⟨by rw [← HQ.out.2.1]; exact h0, by rw [← HQ.out.1]; exact if_neg (by omega)⟩)
        have hne : (c.toList == s.toList) = true := by rw [hc, (Str.mk _).toList, HQ.out.2.2.toList]; simpa using he
        clear hc he hx
        go_wp2_with fail
        go_ret2
        exact ⟨by rw [HE.out.1, HE.out.2]; first | done | rfl, HB2.out⟩
      · have HE := Lib.hid (And.intro he hc)
        have hne : (c.toList == s.toList) = false := by rw [hc, (Str.mk _).toList, HQ.out.2.2.toList]; simpa using he
        clear he hc hx
        go_wp2_with fail
        go_roundw
        case rel =>
          refine ⟨_, _, hrg1, ⟨HB2.out, hrel.out.2.1, fun k hk h => ?_⟩⟩
          by_cases hkx : k = x
          · subst hkx; exact HE.out.1
          · refine hrel.out.2.2 k hk ?_
            rcases Bool.eq_false_or_eq_true (left (.int .i64 k)) with h1 | h1
            · exfalso
              rw [h1] at h
              simp [Lit.sameKey] at h
              exact hkx h
            · exact h1
        case measure =>
          rw [hrg1.left_eq, hrg.left_eq]; omega
end Go.Proofs.YtdliookdmgilgaaGreatDoor
