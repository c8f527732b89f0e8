/-
  A slice of bytes that came in, as a list of bytes. No statement of the seat is proved here.
-/
import Derived.Test.YtiodeaoollhcgaaRows1
import Derived.OpenShut
import Derived.ProofKit
namespace Go.Proofs.Ytiodeaoollhcgaa
open Go.RowKit

theorem lies_of_cells {k : IntKind} {w : World} {x : Addr} {zs : List Int} {len : Nat} (hc : ∀ i, i < zs.length → w.cell? (x.add i) = some (.int k (zs.getD i 0))) (hl : len ≤ zs.length) :
    Lies w (some x) ((zs.take len).map (.int k)) := by
  intro i u hu
  obtain ⟨b, off, spot⟩ := x
  rw [List.getElem?_map] at hu
  obtain ⟨z, hz, rfl⟩ := Option.map_eq_some_iff.1 hu
  rw [List.getElem?_take] at hz
  split at hz
  · rename_i hi
    have hiz : i < zs.length := by omega
    have h0 := hc 0 (by omega)
    have hs : spot = none := by simpa [Addr.add] using World.cell?_spot h0
    subst hs
    refine ⟨b, off, rfl, ?_⟩
    have h1 := hc i hiz
    have e : (⟨b, off, none⟩ : Addr).add i = ⟨b, off + i, none⟩ := by unfold Addr.add; split <;> simp_all
    rw [e] at h1
    rw [h1, List.getD_eq_getElem?_getD, hz]
    rfl
  · cases hz

theorem row_bytes {w : World} {a : Option Addr} {len cap : Nat} {zs : List Int}
    (h : (a = none ∧ len = 0 ∧ cap = 0 ∧ zs = []) ∨ ∃ x, a = some x ∧ len ≤ cap ∧ cap ≤ maxLen ∧ zs.length = cap ∧ (∀ i, i < zs.length → w.cell? (x.add i) = some (.int .u8 (zs.getD i 0))) ∧ ∀ n ∈ zs, (Lit.int .u8 n).wf = true) :
    ∃ bs : List Int, bs.length = len ∧ Lies w a (by8 bs) ∧ (∀ z ∈ bs, 0 ≤ z ∧ z < 256) ∧ (a = none → cap = 0) ∧ len ≤ maxLen := by
  rcases h with ⟨rfl, rfl, rfl, rfl⟩ | ⟨x, rfl, hl, hm, hz, hc, hw⟩
  · exact ⟨[], rfl, .nil, by simp, fun _ => rfl, Nat.zero_le _⟩
  · refine ⟨zs.take len, by rw [List.length_take]; omega, lies_of_cells hc (by omega), ?_, by simp, by omega⟩
    intro z hz
    have := bounds_u8 (hw z (List.mem_of_mem_take hz))
    omega

section
open Go.ChangeShapes Go.WideShapes Go.ChangeAt
variable {H : Type} {enc : TypeId × Value → H} {w : World} {spare : Nat → Bool} {held : Bool}
theorem bytes_in {a : Option Addr} {len cap : Nat} {d : DataW H} {p : List MemPlace} (h : DataW.Trod enc Try.prog w 0 (fun _ => true) true 23 (.slice a len cap) d p) :
    ∃ bs : List Int, bs.length = len ∧ Lies w a (by8 bs) ∧ (∀ z ∈ bs, 0 ≤ z ∧ z < 256) ∧ (a = none → cap = 0) ∧ len ≤ maxLen := by
  obtain ⟨fuel, hf⟩ := h
  rcases open_ints Try.underlying23 Try.underlying5 (by kernel_rfl) hf with ⟨hcs, _⟩ | ⟨x, l, c, zs, hcs, _, hl, hm, hz, _, hcell, hwz⟩
  · simp [Value.cells] at hcs
    obtain ⟨rfl, rfl, rfl⟩ := hcs
    exact row_bytes (zs := []) (.inl ⟨rfl, rfl, rfl, rfl⟩)
  · simp [Value.cells] at hcs
    obtain ⟨rfl, rfl, rfl⟩ := hcs
    exact row_bytes (zs := zs) (.inr ⟨_, rfl, hl, hm, by simpa using hz, hcell, hwz⟩)
end
end Go.Proofs.Ytiodeaoollhcgaa
