/-
  DecOrders of any three numbers. No statement of the seat is proved here.
-/
import Derived.Test.YtmlandoecgldaaaDoorLawDOrders
namespace Go.Proofs.YtmlandoecgldaaaDoor
open Go.RowKit

def pick3 (a b c : D) (i : Nat) : D := if i = 0 then a else if i = 1 then b else c
theorem nErr_cases (d : D) : (nErr d = 0 ∧ (nVal d).One) ∨ (nErr d = 10 ∧ nVal d = D0) := by
  unfold nErr nVal
  cases h : normal d with
  | none => exact .inr ⟨rfl, rfl⟩
  | some m => exact .inl ⟨rfl, normal_one h⟩
theorem nVal_fits (d : D) : (nVal d).Fits := by
  rcases nErr_cases d with ⟨_, h⟩ | ⟨_, h⟩
  · exact h.fits
  · rw [h]; exact D0_one.fits
theorem nVal_one {d : D} (h : nErr d = 0) : (nVal d).One := by
  rcases nErr_cases d with ⟨_, h'⟩ | ⟨h', _⟩
  · exact h'
  · rw [h] at h'; exact absurd h' (by decide)
theorem lessD_c (d : D) : (lessD d).c = d.c ∧ (lessD d).e = d.e := by unfold lessD; split <;> exact ⟨rfl, rfl⟩

theorem orders_all (a b c : D) (ha : a.Fits) (hb : b.Fits) (hc : c.Fits) (w : World) (ht : Tab w) : Calls Tryd.prog 8 #[d3V a b c] w fun e w' => e = .returned (.bool true) ∧ Below w.heap.size w w' := by
  have hf : ∀ i, (pick3 a b c i).Fits := by
    intro i; unfold pick3; split
    · exact ha
    · split
      · exact hb
      · exact hc
  generalize hl : pick3 a b c = l at hf
  have e : d3V a b c = .agg (cell9 (fun i => (l i).neg) (fun i => ((l i).c : Int)) (fun i => (l i).e)).toArray := by rw [← hl]; rfl
  rw [e]
  refine orders_walk (fun i => (l i).neg) (fun i => ((l i).c : Int)) (fun i => (l i).e) (fun i => (nVal (l i)).neg) (fun i => ((nVal (l i)).c : Int)) (fun i => (nVal (l i)).e) (fun i => nErr (l i))
    (fun i k => cmpI (wholeOf (nVal (l i))) (wholeOf (nVal (l k)))) (fun i => (lessD (nVal (l i))).neg) w ht ?_ ?_ ?_ ?_ ?_ ?_ ?_ ?_ ?_
  · intro i _
    rcases nErr_cases (l i) with ⟨h, _⟩ | ⟨h, h'⟩
    · exact .inl h
    · exact .inr ⟨h, by show (nVal (l i)).neg = false; rw [h']; rfl, by show ((nVal (l i)).c : Int) = 0; rw [h']; rfl, by show (nVal (l i)).e = 0; rw [h']; rfl⟩
  · intro i _ W
    exact normal_calls (l i) (hf i) W
  · intro hE i hi k hk W
    have h := compare_calls (nVal (l i)) (nVal (l k)) (nVal_fits _) (nVal_fits _) W
    rw [cmpd_ok (nVal_one (hE i hi)) (nVal_one (hE k hk))] at h
    exact h
  · intro i _ W
    have h := less_calls (nVal (l i)) (nVal_fits _) W
    unfold dV at h
    rw [(lessD_c _).1, (lessD_c _).2] at h
    exact h
  · intro hE i hi k hk W
    have h := compare_calls (lessD (nVal (l k))) (lessD (nVal (l i))) (lessD_fits (nVal_fits _)) (lessD_fits (nVal_fits _)) W
    rw [cmpd_less (nVal_one (hE i hi)) (nVal_one (hE k hk))] at h
    unfold dV at h
    rw [(lessD_c (nVal (l k))).1, (lessD_c (nVal (l k))).2, (lessD_c (nVal (l i))).1, (lessD_c (nVal (l i))).2] at h
    exact h
  · intro i k; exact cmpI_range _ _
  · intro hE i hi k hk
    rw [cmp_same (nVal_one (hE i hi)) (nVal_one (hE k hk))]
    constructor
    · intro h; rw [h]; exact ⟨rfl, rfl, rfl⟩
    · rintro ⟨h1, h2, h3⟩
      exact D.ext' h1 (by have : ((nVal (l i)).c : Int) = ((nVal (l k)).c : Int) := h2; omega) h3
  · intro i k; exact cmpI_swap _ _
  · intro i k j h1 h2
    have h1 := cmpI_le.1 h1
    have h2 := cmpI_le.1 h2
    exact cmpI_le.2 (by omega)
end Go.Proofs.YtmlandoecgldaaaDoor
