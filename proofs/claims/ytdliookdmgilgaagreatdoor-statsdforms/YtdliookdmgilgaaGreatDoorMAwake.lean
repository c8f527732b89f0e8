/-
  Layer 7: Few and awake. No statement of the seat is proved here.
-/
import Derived.Test.YtdliookdmgilgaaGreatDoorGrMNormal
namespace Go.Proofs.YtdliookdmgilgaaGreatDoor
open Go.RowKit
open Dc (D D0)

/-- A name of up to 300 bytes, up to 80 values, up to 40 tags of up to 150 bytes each. -/
def fewM (m : Mt) : Bool := decide (m.name.length ≤ 300 ∧ m.vals.length ≤ 80 ∧ m.tags.length ≤ 40 ∧ ∀ t ∈ m.tags, t.1.length ≤ 150 ∧ t.2.length ≤ 150)
theorem few_small {m : Mt} (h : fewM m = true) (hf : ∀ d ∈ m.vals, d.Fits) : Small m := by
  obtain ⟨h1, h2, h3, h4⟩ := of_decide_eq_true h
  exact ⟨by omega, by omega, hf, by omega, fun t ht => by have := h4 t ht; omega⟩

section
variable {w : World} {s : ByteArray} {A B : Option Addr} {n k ca cb : Nat} {m : Mt}
end

def mA : Mt := ⟨[97], 1, [⟨false, 10, 0⟩], 1000000, [([98], []), ([97], []), ([98], [])], 0⟩
def mB : Mt := ⟨[97], 1, [⟨false, 1, 1⟩], 1000000, [([97], []), ([98], [])], 0⟩
theorem awN : Dc.normal ⟨false, 10, 0⟩ = some ⟨false, 1, 1⟩ := by
  unfold Dc.normal
  show Option.map _ (Dc.norm (1 * 10) 0) = _
  rw [Dc.norm_ten, Dc.norm_fix (.inr ⟨by decide, by decide, by decide, by decide, by decide⟩)]
  rfl
theorem awH : hasN mA.vals = true := by unfold hasN mA; simp [awN]
theorem awC : codeM mA = 0 := by
  show restM mA (hasN mA.vals) = 0
  rw [awH]; decide +kernel
theorem awF : nM mA = mB := by
  rw [nM_ok awC]
  unfold formM mA mB
  simp only [List.map_cons, List.map_nil, Mt.mk.injEq, true_and, and_true]
  refine ⟨by unfold form; rw [awN]; rfl, by decide +kernel⟩
theorem awK : checkM mA = 17 := by
  show restM mA (okV mA.vals) = 17
  have : okV mA.vals = false := by
    unfold okV mA
    simp only [List.all_cons, List.all_nil, Bool.and_true]
    refine decide_eq_false fun h => ?_
    have := Dc.normal_fix (Dc.check_ok.1 h)
    rw [awN] at this
    cases this
  rw [this]; decide +kernel
theorem small_mA : Small mA := ⟨by decide, by decide, by intro d hd; simp [mA] at hd; subst hd; exact ⟨by decide, by decide, by decide⟩, by decide, by decide⟩
theorem small_mB : Small mB := ⟨by decide, by decide, by intro d hd; simp [mB] at hd; subst hd; exact ⟨by decide, by decide, by decide⟩, by decide, by decide⟩
theorem mis_mA {w : World} {g h : Nat} (hg : w.heap.size = g) (hh : w.heap.size + 1 = h) : MIs ((w.alloc (.cells #[.bool false, .int .u64 10, .int .i64 0] 50)).alloc (.cells #[.string ⟨#[98]⟩, .string ⟨#[]⟩, .string ⟨#[97]⟩, .string ⟨#[]⟩, .string ⟨#[98]⟩, .string ⟨#[]⟩] 54)) ⟨#[97]⟩ (some ⟨g, 0, none⟩) 1 (some ⟨h, 0, none⟩) 3 mA :=
  ⟨rfl, rfl, (decs_lit (w := w) hg [⟨false, 10, 0⟩]).alloc _, rfl, tags_lit (by rw [size_alloc]; exact hh) [([98], []), ([97], []), ([98], [])]⟩
theorem mis_mB {w : World} {g h : Nat} (hg : w.heap.size = g) (hh : w.heap.size + 1 = h) : MIs ((w.alloc (.cells #[.bool false, .int .u64 1, .int .i64 1] 50)).alloc (.cells #[.string ⟨#[97]⟩, .string ⟨#[]⟩, .string ⟨#[98]⟩, .string ⟨#[]⟩] 54)) ⟨#[97]⟩ (some ⟨g, 0, none⟩) 1 (some ⟨h, 0, none⟩) 2 mB :=
  ⟨rfl, rfl, (decs_lit (w := w) hg [⟨false, 1, 1⟩]).alloc _, rfl, tags_lit (by rw [size_alloc]; exact hh) [([97], []), ([98], [])]⟩

end Go.Proofs.YtdliookdmgilgaaGreatDoor
