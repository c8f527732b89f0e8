/-
  EMap, ESays. No statement of the seat is proved here.
-/
import Derived.Test.YtmaiggoinjldpaaDoorGrMRows
import Derived.Test.YtmaiggoinjldpaaDoorGrMMath
import Derived.Maps.OwnIn
/-
  Package expr: the map of functions by formats. No statement of the seat is proved here.
-/
namespace Go.Proofs.YtmaiggoinjldpaaDoor
open Go.RowKit
open Dc (D D0)

/-- How a function of the map reads: one that captures nothing, by its number; none as -1. -/
def fnR (v : Value) : Option (DataW Unit × List MemPlace) := match v with
  | .func (.func f) a b => if a.size = 0 ∧ b.size = 0 then some (.lit (.int .i64 (f : Int)), []) else none
  | .nilFunc => some (.lit (.int .i64 (-1)), [])
  | _ => none
theorem fnR_inv {v : Value} {f : Nat} {ps : List MemPlace} (h : fnR v = some (.lit (.int .i64 (f : Int)), ps)) : v = .func (.func f) #[] #[] := by
  unfold fnR at h
  split at h
  · rename_i g a b
    split at h
    · rename_i hs
      injection h with h
      injection h with h _
      injection h with h
      injection h with _ h
      obtain rfl : a = #[] := Array.eq_empty_of_size_eq_zero hs.1
      obtain rfl : b = #[] := Array.eq_empty_of_size_eq_zero hs.2
      rw [Int.ofNat.inj h]
    · cases h
  · injection h with h
    injection h with h _
    injection h with h
    injection h with _ h
    omega
  · cases h

/-- The function of a format. -/
def fnOf (f : Int) : Nat := if f = 1 then 54 else if f = 3 then 56 else 55
/-- What the map reads as. -/
def D4 : DataW Unit := ((((DataW.map []).put (.int .i64 1) (.lit (.int .i64 ((54 : Nat) : Int)))).put (.int .i64 2) (.lit (.int .i64 ((55 : Nat) : Int)))).put (.int .i64 3) (.lit (.int .i64 ((56 : Nat) : Int)))).put (.int .i64 4) (.lit (.int .i64 ((55 : Nat) : Int)))
theorem D4_has (f : Int) : Maps.has D4 (.int .i64 f) = known f := by
  by_cases h : 1 ≤ f ∧ f ≤ 4
  · rcases (by omega : f = 1 ∨ f = 2 ∨ f = 3 ∨ f = 4) with rfl | rfl | rfl | rfl <;> decide
  · unfold known D4
    rw [decide_eq_false h]
    have ne : ∀ g : Int, 1 ≤ g → g ≤ 4 → Lit.int .i64 f ≠ .int .i64 g := fun g h1 h2 e => by injection e with _ e; omega
    rw [Maps.has_put_other (ne 4 (by omega) (by omega)), Maps.has_put_other (ne 3 (by omega) (by omega)), Maps.has_put_other (ne 2 (by omega) (by omega)), Maps.has_put_other (ne 1 (by omega) (by omega))]
    rfl
theorem D4_at {f : Int} (h : known f = true) (z : DataW Unit) : D4.atKey (.int .i64 f) z = .lit (.int .i64 ((fnOf f : Nat) : Int)) := by
  have h := of_decide_eq_true h
  rcases (by omega : f = 1 ∨ f = 2 ∨ f = 3 ∨ f = 4) with rfl | rfl | rfl | rfl <;> rfl

theorem qKeyed : Maps.Keyed Tryd.prog 3 := Maps.int_keyed Tryd.underlying3
set_option maxRecDepth 100000 in
set_option maxHeartbeats 4000000 in
theorem questions_calls (w : World) : Calls Tryd.prog 28 #[] w fun e w' => ∃ b, e = .returned (.map (some b)) ∧ w'.ownsMap Tryd.prog 3 fnR b 4 D4 ∧ Below w.heap.size w w' := by
  have hmm := @run_makeMap Tryd.prog
  have h0 := World.ownsMap_made w Tryd.prog 3 fnR
  obtain ⟨w1, r1, h1, g1⟩ := h0.update (val := .func (.func 54) #[] #[]) qKeyed Tryd.underlying62 (by decide) (Maps.keyOf_int_mk Tryd.underlying3 (a := 1) (by decide)) rfl
  obtain ⟨w2, r2, h2, g2⟩ := h1.update (val := .func (.func 55) #[] #[]) qKeyed Tryd.underlying62 (by decide) (Maps.keyOf_int_mk Tryd.underlying3 (a := 2) (by decide)) rfl
  obtain ⟨w3, r3, h3, g3⟩ := h2.update (val := .func (.func 56) #[] #[]) qKeyed Tryd.underlying62 (by decide) (Maps.keyOf_int_mk Tryd.underlying3 (a := 3) (by decide)) rfl
  obtain ⟨w4, r4, h4, g4⟩ := h3.update (val := .func (.func 55) #[] #[]) qKeyed Tryd.underlying62 (by decide) (Maps.keyOf_int_mk Tryd.underlying3 (a := 4) (by decide)) rfl
  have hb : Below w.heap.size w w4 := by
    have b0 : Below w.heap.size w (w.alloc (.map #[] 0)) := (Below.refl _ _).alloc (Nat.le_refl _) _
    have fin : ∀ j, some w.heap.size = some j → w.heap.size ≤ j := fun j e => by injection e with e; omega
    have b1 := b0.grown g1 b0.size fin
    have b2 := b1.grown g2 b1.size fin
    have b3 := b2.grown g3 b2.size fin
    exact b3.grown g4 b3.size fin
  have HH := Lib.hid (And.intro h4 hb)
  clear h0 h1 h2 h3 h4 g1 g2 g3 g4 hb
  go_enter Tryd.func28, Tryd.ntmps28
  go_wp2_with fail
  go_ret
  exact ⟨w.heap.size, rfl, HH.out.1, HH.out.2⟩

/-- 'm[f]', and with 'ok': what comes back. -/
theorem look_ok {W : World} {b : Nat} (h : W.ownsMap Tryd.prog 3 fnR b 4 D4) {f : Int} (hf : (Lit.int .i64 f).wf = true) :
    ∃ v, (Instr.lookup 62 (.map (some b)) (.int .i64 f) true).run Tryd.prog W = .ok (.tuple #[v, .bool (known f)]) W ∧ (known f = true → v = .func (.func (fnOf f)) #[] #[]) := by
  obtain ⟨v, ps, hr, hv⟩ := h.look_ok (z := .nilFunc) qKeyed Tryd.underlying62 (by kernel_rfl) (zd := .lit (.int .i64 (-1))) (zp := []) rfl (Maps.keyOf_int_mk Tryd.underlying3 hf)
  rw [D4_has] at hr
  exact ⟨v, hr, fun hk => fnR_inv (by rw [D4_at hk] at hv; exact hv)⟩
theorem look_fn {W : World} {b : Nat} (h : W.ownsMap Tryd.prog 3 fnR b 4 D4) {f : Int} (hf : (Lit.int .i64 f).wf = true) :
    ∃ v, (Instr.lookup 62 (.map (some b)) (.int .i64 f) false).run Tryd.prog W = .ok v W ∧ (known f = true → v = .func (.func (fnOf f)) #[] #[]) := by
  obtain ⟨v, ps, hr, hv⟩ := h.lookup (z := .nilFunc) qKeyed Tryd.underlying62 (by kernel_rfl) (zd := .lit (.int .i64 (-1))) (zp := []) rfl (Maps.keyOf_int_mk Tryd.underlying3 hf)
  exact ⟨v, hr, fun hk => fnR_inv (by rw [D4_at hk] at hv; exact hv)⟩
end Go.Proofs.YtmaiggoinjldpaaDoor

/-
  What a format can say: package expr's own functions, and the document's Says. No statement of the seat is proved here.
-/
namespace Go.Proofs.YtmaiggoinjldpaaDoor
open Go.RowKit
open Dc (D D0)

section
variable {w : World} {s : ByteArray} {A B : Option Addr} {n k ca cb : Nat} {m : Mt} {kd rt tm : Int}
set_option maxRecDepth 100000 in
set_option maxHeartbeats 4000000 in
theorem bare_calls (w : World) : Calls Tryd.prog 80 #[.agg #[.string s, .int .i64 kd, .slice A n ca, .int .i64 rt, .slice B k cb, .int .i64 tm]] w fun e w' => e = .returned (.bool (bareN n k)) ∧ Below w.heap.size w w' := by
  have HB := Lib.hid (m_below w (.cells #[.string s, .int .i64 kd, .slice A n ca, .int .i64 rt, .slice B k cb, .int .i64 tm] 65))
  go_enter Tryd.func80, Tryd.ntmps80
  rcases (by omega : ¬ ((n : Int) = 1) ∨ ((n : Int) = 1 ∧ (k : Int) = 0) ∨ ((n : Int) = 1 ∧ ¬ ((k : Int) = 0))) with h1 | ⟨h1, h2⟩ | ⟨h1, h2⟩
  · have hq : ((n : Int) == 1) = false := by simpa using h1
    have HE := Lib.hid (show bareN n k = false by unfold bareN; rw [decide_eq_false (by omega)]; rfl)
    go_wp2_with fail
    go_ret
    exact ⟨by rw [HE.out]; first | done | rfl, HB.out⟩
  · have HE := Lib.hid (show bareN n k = true by unfold bareN; rw [decide_eq_true (show n = 1 by omega), decide_eq_true (show k = 0 by omega)]; rfl)
    go_wp2_with fail
    go_ret
    exact ⟨by rw [HE.out]; first | done | rfl, HB.out⟩
  · have hq : ((k : Int) == 0) = false := by simpa using h2
    have HE := Lib.hid (show bareN n k = false by unfold bareN; rw [decide_eq_false (show ¬ k = 0 by omega), Bool.and_false])
    go_wp2_with fail
    go_ret
    exact ⟨by rw [HE.out]; first | done | rfl, HB.out⟩
theorem bare_says {q : Bool} (hq : bareN n k = q) (w : World) : Calls Tryd.prog 80 #[.agg #[.string s, .int .i64 kd, .slice A n ca, .int .i64 rt, .slice B k cb, .int .i64 tm]] w fun e w' => e = .returned (.bool q) ∧ Below w.heap.size w w' := by
  subst hq; exact bare_calls w

set_option maxRecDepth 100000 in
theorem inAll_calls (w : World) : Calls Tryd.prog 55 #[.agg #[.string s, .int .i64 kd, .slice A n ca, .int .i64 rt, .slice B k cb, .int .i64 tm]] w fun e w' => e = .returned (.bool true) ∧ Below w.heap.size w w' := by
  have HB := Lib.hid (m_below w (.cells #[.string s, .int .i64 kd, .slice A n ca, .int .i64 rt, .slice B k cb, .int .i64 tm] 65))
  go_enter Tryd.func55, Tryd.ntmps55
  go_wp2_with fail
  go_ret
  first
    | exact ⟨rfl, HB.out⟩
    | exact ⟨rfl, Below.refl _ _⟩

set_option maxRecDepth 100000 in
set_option maxHeartbeats 4000000 in
theorem inGraphite_calls (w : World) : Calls Tryd.prog 56 #[.agg #[.string s, .int .i64 kd, .slice A n ca, .int .i64 rt, .slice B k cb, .int .i64 tm]] w fun e w' => e = .returned (.bool (says3 n k kd tm)) ∧ Below w.heap.size w w' := by
  have HB := Lib.hid ((Kb.start w).push 65 (mC s kd A n ca rt B k cb tm))
  obtain ⟨b, hb⟩ : ∃ b, bareN n k = b := ⟨_, rfl⟩
  have HBB := Lib.hid hb
  have HS := Lib.hid (show says3 n k kd tm = (b && decide (tm ≠ 0) && decide (kd = 2)) by unfold says3; rw [hb])
  unfold mC at HB
  clear hb
  go_enter Tryd.func56, Tryd.ntmps56
  go_wp2_with fail
  refine (bare_says HBB.out _).mono ?_
  rintro e w2 ⟨rfl, hb⟩
  have c1 := (HB.out.next hb).cell (.head _) (i := 1) rfl
  have c5 := (HB.out.next hb).cell (.head _) (i := 5) rfl
  have HB2 := Lib.hid (HB.out.next hb).kept
  clear hb HB
  cases b
  · go_wp2_with fail
    go_ret
    exact ⟨by rw [HS.out]; rfl, HB2.out⟩
  · rcases (by omega : tm = 0 ∨ (¬ tm = 0 ∧ kd = 2) ∨ (¬ tm = 0 ∧ ¬ kd = 2)) with h1 | ⟨h1, h2⟩ | ⟨h1, h2⟩
    · subst h1
      go_wp2_with fail
      go_ret
      exact ⟨by rw [HS.out]; first | done | rfl, HB2.out⟩
    · subst h2
      have HE := Lib.hid (show says3 n k 2 tm = true by rw [HS.out]; simp [h1])
      have hq : (tm != 0) = true := by simpa using h1
      go_wp2_with fail
      go_ret
      exact ⟨by rw [HE.out]; first | done | rfl, HB2.out⟩
    · have HE := Lib.hid (show says3 n k kd tm = false by rw [HS.out]; simp [h2])
      have hq : (tm != 0) = true := by simpa using h1
      have hq2 : (kd == 2) = false := by simpa using h2
      go_wp2_with fail
      go_ret
      exact ⟨by rw [HE.out]; first | done | rfl, HB2.out⟩

set_option maxRecDepth 100000 in
set_option maxHeartbeats 4000000 in
theorem inStatsD_calls {ds : List D} (hv : Decs w A ds) (hn : ds.length = n) : Calls Tryd.prog 54 #[.agg #[.string s, .int .i64 kd, .slice A n ca, .int .i64 rt, .slice B k cb, .int .i64 tm]] w fun e w' => e = .returned (.bool (says1 n k kd tm (ds.headD D0).neg)) ∧ Below w.heap.size w w' := by
  have HB := Lib.hid ((Kb.start w).push 65 (mC s kd A n ca rt B k cb tm))
  have HV := Lib.hid (And.intro hv hn)
  obtain ⟨b, hb⟩ : ∃ b, bareN n k = b := ⟨_, rfl⟩
  obtain ⟨ng, hng⟩ : ∃ x, (ds.headD D0).neg = x := ⟨_, rfl⟩
  rw [hng]
  have HBB := Lib.hid (And.intro hb hng)
  have HS := Lib.hid (show says1 n k kd tm ng = (b && decide (tm = 0) && decide (kd ≠ 5) && !(decide (kd = 2) && ng)) by unfold says1; rw [hb])
  unfold mC at HB
  clear hb hv hn hng
  go_enter Tryd.func54, Tryd.ntmps54
  go_wp2_with fail
  refine (bare_says HBB.out.1 _).mono ?_
  rintro e w2 ⟨rfl, hb⟩
  have c1 := (HB.out.next hb).cell (.head _) (i := 1) rfl
  have c2 := (HB.out.next hb).cell (.head _) (i := 2) rfl
  have c5 := (HB.out.next hb).cell (.head _) (i := 5) rfl
  have HB2 := Lib.hid (HB.out.next hb).kept
  clear hb HB
  cases b
  · go_wp2_with fail
    go_ret
    exact ⟨by rw [HS.out]; rfl, HB2.out⟩
  · rcases (by omega : ¬ tm = 0 ∨ (tm = 0 ∧ kd = 5) ∨ (tm = 0 ∧ kd = 2) ∨ (tm = 0 ∧ ¬ kd = 5 ∧ ¬ kd = 2)) with h1 | ⟨h1, h2⟩ | ⟨h1, h2⟩ | ⟨h1, h2, h3⟩
    · have HE := Lib.hid (show says1 n k kd tm ng = false by rw [HS.out]; simp [h1])
      have hq : (tm != 0) = true := by simpa using h1
      go_wp2_with fail
      go_ret
      exact ⟨by rw [HE.out]; first | done | rfl, HB2.out⟩
    · subst h1 h2
      go_wp2_with fail
      go_ret
      exact ⟨by rw [HS.out]; first | done | rfl, HB2.out⟩
    · subst h1 h2
      obtain ⟨hbn, hng⟩ := HBB.out
      obtain ⟨hv, hn⟩ := HV.out
      have n1 : n = 1 := by unfold bareN at hbn; rw [Bool.and_eq_true, decide_eq_true_eq] at hbn; exact hbn.1
      have l0 : 0 < ds.length := by omega
      obtain ⟨b, off, x, y, z, e1, d0, d1, d2, hd⟩ := (hv.keep HB2.out).get l0
      have en : x = ng := by
        rw [← hng, hd.neg]
        cases ds with
        | nil => cases l0
        | cons a l => rfl
      subst e1 en
      simp only [Nat.zero_mul, Nat.add_zero] at d0 d1 d2
      have HE := Lib.hid (show says1 n k 2 0 x = !x by rw [HS.out]; cases x <;> rfl)
      have gn : (0 : Int) < (n : Int) := by omega
      clear hbn hng hv hn n1 l0 hd
      go_wp2_with fail
      go_ret
      exact ⟨by rw [HE.out]; first | done | rfl, HB2.out⟩
    · subst h1
      have HE := Lib.hid (show says1 n k kd 0 ng = true by rw [HS.out]; simp [h2, h3])
      have hq : (kd == 5) = false := by simpa using h2
      have hq2 : (kd == 2) = false := by simpa using h3
      go_wp2_with fail
      go_ret
      exact ⟨by rw [HE.out]; first | done | rfl, HB2.out⟩

/-- The function that the map tells of a format, at a metric. -/
theorem can_calls (h : MIs w s A n B k m) (f : Int) : Calls Tryd.prog (fnOf f) #[.agg #[.string s, .int .i64 m.kind, .slice A n ca, .int .i64 m.rate, .slice B k cb, .int .i64 m.time]] w fun e w' => e = .returned (.bool (saysM m f)) ∧ Below w.heap.size w w' := by
  unfold fnOf saysM
  rw [h.vlen, h.tlen]
  split
  · exact inStatsD_calls h.vals h.vlen
  · split
    · exact inGraphite_calls w
    · exact inAll_calls w

end
end Go.Proofs.YtmaiggoinjldpaaDoor
