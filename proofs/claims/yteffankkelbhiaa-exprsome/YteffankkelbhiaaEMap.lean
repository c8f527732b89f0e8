/-
  Package expr: the map of functions by formats. No statement of the seat is proved here.
-/
import Derived.Test.YteffankkelbhiaaMRows
import Derived.Maps.OwnIn
namespace Go.Proofs.Yteffankkelbhiaa
open Go.RowKit
open Dc (D D0)

/-- How a function of the map reads: one that captures nothing, by its number; none as -1. -/
def fnR (v : Value) : Option (DataW Unit × List MemPlace) := match v with
  | .func (.func f) a b => if a.size = 0 ∧ b.size = 0 then some (.lit (.int .i64 (f : Int)), []) else none
  | .nilFunc => some (.lit (.int .i64 (-1)), [])
  | _ => none
theorem fnR_inv {v : Value} {f : Nat} {ps : List MemPlace} (h : fnR v = some (.lit (.int .i64 (f : Int)), ps)) : v = .func (.func f) #[] #[] := by
  unfold fnR at h
  split at h
  · rename_i g a b
    split at h
    · rename_i hs
      injection h with h
      injection h with h _
      injection h with h
      injection h with _ h
      obtain rfl : a = #[] := Array.eq_empty_of_size_eq_zero hs.1
      obtain rfl : b = #[] := Array.eq_empty_of_size_eq_zero hs.2
      rw [Int.ofNat.inj h]
    · cases h
  · injection h with h
    injection h with h _
    injection h with h
    injection h with _ h
    omega
  · cases h

/-- The function of a format. -/
def fnOf (f : Int) : Nat := if f = 1 then 42 else if f = 3 then 44 else 43
/-- What the map reads as. -/
def D4 : DataW Unit := ((((DataW.map []).put (.int .i64 1) (.lit (.int .i64 ((42 : Nat) : Int)))).put (.int .i64 2) (.lit (.int .i64 ((43 : Nat) : Int)))).put (.int .i64 3) (.lit (.int .i64 ((44 : Nat) : Int)))).put (.int .i64 4) (.lit (.int .i64 ((43 : Nat) : Int)))
def known (f : Int) : Bool := decide (1 ≤ f ∧ f ≤ 4)
theorem D4_has (f : Int) : Maps.has D4 (.int .i64 f) = known f := by
  by_cases h : 1 ≤ f ∧ f ≤ 4
  · rcases (by omega : f = 1 ∨ f = 2 ∨ f = 3 ∨ f = 4) with rfl | rfl | rfl | rfl <;> decide
  · unfold known D4
    rw [decide_eq_false h]
    have ne : ∀ g : Int, 1 ≤ g → g ≤ 4 → Lit.int .i64 f ≠ .int .i64 g := fun g h1 h2 e => by injection e with _ e; omega
    rw [Maps.has_put_other (ne 4 (by omega) (by omega)), Maps.has_put_other (ne 3 (by omega) (by omega)), Maps.has_put_other (ne 2 (by omega) (by omega)), Maps.has_put_other (ne 1 (by omega) (by omega))]
    rfl
theorem D4_at {f : Int} (h : known f = true) (z : DataW Unit) : D4.atKey (.int .i64 f) z = .lit (.int .i64 ((fnOf f : Nat) : Int)) := by
  have h := of_decide_eq_true h
  rcases (by omega : f = 1 ∨ f = 2 ∨ f = 3 ∨ f = 4) with rfl | rfl | rfl | rfl <;> rfl

theorem qKeyed : Maps.Keyed Try.prog 3 := Maps.int_keyed Try.underlying3
set_option maxRecDepth 100000 in
set_option maxHeartbeats 4000000 in
theorem questions_calls (w : World) : Calls Try.prog 24 #[] w fun e w' => ∃ b, e = .returned (.map (some b)) ∧ w'.ownsMap Try.prog 3 fnR b 4 D4 ∧ Below w.heap.size w w' := by
  have hmm := @run_makeMap Try.prog
  have h0 := World.ownsMap_made w Try.prog 3 fnR
  obtain ⟨w1, r1, h1, g1⟩ := h0.update (val := .func (.func 42) #[] #[]) qKeyed Try.underlying51 (by decide) (Maps.keyOf_int_mk Try.underlying3 (a := 1) (by decide)) rfl
  obtain ⟨w2, r2, h2, g2⟩ := h1.update (val := .func (.func 43) #[] #[]) qKeyed Try.underlying51 (by decide) (Maps.keyOf_int_mk Try.underlying3 (a := 2) (by decide)) rfl
  obtain ⟨w3, r3, h3, g3⟩ := h2.update (val := .func (.func 44) #[] #[]) qKeyed Try.underlying51 (by decide) (Maps.keyOf_int_mk Try.underlying3 (a := 3) (by decide)) rfl
  obtain ⟨w4, r4, h4, g4⟩ := h3.update (val := .func (.func 43) #[] #[]) qKeyed Try.underlying51 (by decide) (Maps.keyOf_int_mk Try.underlying3 (a := 4) (by decide)) rfl
  have hb : Below w.heap.size w w4 := by
    have b0 : Below w.heap.size w (w.alloc (.map #[] 0)) := (Below.refl _ _).alloc (Nat.le_refl _) _
    have fin : ∀ j, some w.heap.size = some j → w.heap.size ≤ j := fun j e => by injection e with e; omega
    have b1 := b0.grown g1 b0.size fin
    have b2 := b1.grown g2 b1.size fin
    have b3 := b2.grown g3 b2.size fin
    exact b3.grown g4 b3.size fin
  have HH := Lib.hid (And.intro h4 hb)
  clear h0 h1 h2 h3 h4 g1 g2 g3 g4 hb
  go_enter Try.func24, Try.ntmps24
  go_wp2_with fail
  go_ret
  exact ⟨w.heap.size, rfl, HH.out.1, HH.out.2⟩

/-- 'm[f]', and with 'ok': what comes back. -/
theorem look_ok {W : World} {b : Nat} (h : W.ownsMap Try.prog 3 fnR b 4 D4) {f : Int} (hf : (Lit.int .i64 f).wf = true) :
    ∃ v, (Instr.lookup 51 (.map (some b)) (.int .i64 f) true).run Try.prog W = .ok (.tuple #[v, .bool (known f)]) W ∧ (known f = true → v = .func (.func (fnOf f)) #[] #[]) := by
  obtain ⟨v, ps, hr, hv⟩ := h.look_ok (z := .nilFunc) qKeyed Try.underlying51 (by kernel_rfl) (zd := .lit (.int .i64 (-1))) (zp := []) rfl (Maps.keyOf_int_mk Try.underlying3 hf)
  rw [D4_has] at hr
  exact ⟨v, hr, fun hk => fnR_inv (by rw [D4_at hk] at hv; exact hv)⟩
theorem look_fn {W : World} {b : Nat} (h : W.ownsMap Try.prog 3 fnR b 4 D4) {f : Int} (hf : (Lit.int .i64 f).wf = true) :
    ∃ v, (Instr.lookup 51 (.map (some b)) (.int .i64 f) false).run Try.prog W = .ok v W ∧ (known f = true → v = .func (.func (fnOf f)) #[] #[]) := by
  obtain ⟨v, ps, hr, hv⟩ := h.lookup (z := .nilFunc) qKeyed Try.underlying51 (by kernel_rfl) (zd := .lit (.int .i64 (-1))) (zp := []) rfl (Maps.keyOf_int_mk Try.underlying3 hf)
  exact ⟨v, hr, fun hk => fnR_inv (by rw [D4_at hk] at hv; exact hv)⟩
end Go.Proofs.Yteffankkelbhiaa
