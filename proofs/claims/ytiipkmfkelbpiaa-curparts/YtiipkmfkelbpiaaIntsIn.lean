/-
  A slice of ints that came in, as a list of numbers. No statement of the seat is proved here.
-/
import Derived.Test.YtiipkmfkelbpiaaRowIn
namespace Go.Proofs.Ytiipkmfkelbpiaa
open Go.RowKit Go.ChangeShapes Go.WideShapes Go.ChangeAt

theorem ints_in {H : Type} {enc : TypeId × Value → H} {w : World} {a : Option Addr} {len cap : Nat} {d : DataW H} {p : List MemPlace} (h : DataW.Trod enc Try.prog w 0 (fun _ => true) true 51 (.slice a len cap) d p) :
    ∃ zs : List Int, zs.length = len ∧ Lies w a (zs.map (.int .i64)) ∧ (∀ z ∈ zs, (Lit.int .i64 z).wf = true) ∧ len ≤ maxLen := by
  obtain ⟨fuel, hf⟩ := h
  rcases open_ints Try.underlying51 Try.underlying3 (by kernel_rfl) hf with ⟨hcs, _⟩ | ⟨x, l, c, zs, hcs, _, hl, hm, hz, _, hcell, hwz⟩
  · simp [Value.cells] at hcs
    obtain ⟨rfl, rfl, rfl⟩ := hcs
    exact ⟨[], rfl, .nil, by simp, Nat.zero_le _⟩
  · simp [Value.cells] at hcs
    obtain ⟨rfl, rfl, rfl⟩ := hcs
    have hzl : zs.length = cap := by simpa using hz
    exact ⟨zs.take len, by rw [List.length_take]; omega, lies_of_cells hcell (by omega), fun z hz' => hwz z (List.mem_of_mem_take hz'), by omega⟩
end Go.Proofs.Ytiipkmfkelbpiaa
