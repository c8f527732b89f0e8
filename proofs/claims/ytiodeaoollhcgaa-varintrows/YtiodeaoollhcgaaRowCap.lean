/-
  A slice of bytes that came in has room for what it holds; a slice of uint64 that came in, as a list of numbers. No statement of the seat is proved here.
-/
import Derived.Test.YtiodeaoollhcgaaRowIn
namespace Go.Proofs.Ytiodeaoollhcgaa
open Go.RowKit Go.ChangeShapes Go.WideShapes Go.ChangeAt

variable {H : Type} {enc : TypeId × Value → H} {w : World} {a : Option Addr} {len cap : Nat} {d : DataW H} {p : List MemPlace}
theorem bytes_cap (h : DataW.Trod enc Try.prog w 0 (fun _ => true) true 23 (.slice a len cap) d p) : len ≤ cap ∧ cap ≤ maxLen := by
  obtain ⟨fuel, hf⟩ := h
  rcases open_ints Try.underlying23 Try.underlying5 (by kernel_rfl) hf with ⟨hcs, _⟩ | ⟨x, l, c, zs, hcs, _, hl, hm, _⟩
  · simp [Value.cells] at hcs
    obtain ⟨rfl, rfl, rfl⟩ := hcs
    exact ⟨Nat.le_refl _, Nat.zero_le _⟩
  · simp [Value.cells] at hcs
    obtain ⟨rfl, rfl, rfl⟩ := hcs
    exact ⟨hl, hm⟩

theorem u64s_in (h : DataW.Trod enc Try.prog w 0 (fun _ => true) true 47 (.slice a len cap) d p) :
    ∃ zs : List Int, zs.length = len ∧ Lies w a (zs.map (.int .u64)) ∧ (∀ z ∈ zs, (Lit.int .u64 z).wf = true) ∧ len ≤ maxLen := by
  obtain ⟨fuel, hf⟩ := h
  rcases open_ints Try.underlying47 Try.underlying22 (by kernel_rfl) hf with ⟨hcs, _⟩ | ⟨x, l, c, zs, hcs, _, hl, hm, hz, _, hcell, hwz⟩
  · simp [Value.cells] at hcs
    obtain ⟨rfl, rfl, rfl⟩ := hcs
    exact ⟨[], rfl, .nil, by simp, Nat.zero_le _⟩
  · simp [Value.cells] at hcs
    obtain ⟨rfl, rfl, rfl⟩ := hcs
    have hzl : zs.length = cap := by simpa using hz
    exact ⟨zs.take len, by rw [List.length_take]; omega, lies_of_cells hcell (by omega), fun z hz' => hwz z (List.mem_of_mem_take hz'), by omega⟩
end Go.Proofs.Ytiodeaoollhcgaa
