/-
  A slice of bools that came in, as a list of bools. No statement of the seat is proved here.
-/
import Derived.Test.YtiipkmfkelbpiaaActs
namespace Go.Proofs.Ytiipkmfkelbpiaa
open Go.RowKit Go.ChangeShapes Go.WideShapes Go.Deep

section
variable {H : Type} {enc : TypeId × Value → H} {w : World} {base : Nat} {spare : Nat → Bool} {held : Bool}
theorem cellsBool : Try.prog.cellsOf 4 = 1 := by kernel_rfl
theorem bools_in {a : Option Addr} {len cap : Nat} {d : DataW H} {p : List MemPlace} (h : DataW.Trod enc Try.prog w base spare held 42 (.slice a len cap) d p) :
    ∃ zs : List Bool, zs.length = len ∧ Lies w a (zs.map .bool) ∧ len ≤ maxLen := by
  obtain ⟨fuel, hf⟩ := h
  rcases open_slice Try.underlying42 hf with ⟨hcs, _⟩ | ⟨x, len', cap', m, n, D, Pl, hcs, _, hl, hm, hmm, _, hi⟩
  · simp [Value.cells] at hcs
    obtain ⟨rfl, rfl, rfl⟩ := hcs
    exact ⟨[], rfl, .nil, Nat.zero_le _⟩
  · simp [Value.cells] at hcs
    obtain ⟨rfl, rfl, rfl⟩ := hcs
    have hlm : len ≤ m := by rw [hmm]; split <;> omega
    have key : ∀ i, i < len → ∃ z : Bool, w.cell? (x.add i) = some (.bool z) := by
      intro i hil
      obtain ⟨cs', hc, ht⟩ := hi i (by omega)
      rw [cellsBool, Nat.mul_one] at hc
      obtain ⟨z, rfl, _⟩ := DataW.trod_bool Try.underlying4 ht
      obtain ⟨_, _, hat⟩ := World.cells?_some hc
      exact ⟨z, by simpa [Addr.add] using hat 0 (by omega)⟩
    refine ⟨(List.range len).map (fun i => if hi : i < len then (key i hi).choose else false), by simp, ?_, by omega⟩
    intro i t ht
    rw [List.getElem?_map, List.getElem?_map] at ht
    obtain ⟨z', hz', rfl⟩ := Option.map_eq_some_iff.1 ht
    obtain ⟨j, hj, rfl⟩ := Option.map_eq_some_iff.1 hz'
    obtain ⟨hil, rfl⟩ := List.getElem?_eq_some_iff.1 hj
    simp at hil
    simp only [List.getElem_range, hil, dif_pos]
    have k0 := (key i hil).choose_spec
    obtain ⟨b, off, spot⟩ := x
    have hs : spot = none := by
      have := World.cell?_spot ((key 0 (by omega)).choose_spec)
      simpa [Addr.add] using this
    subst hs
    generalize (key i hil).choose = t at k0 ⊢
    rw [add_plain] at k0
    exact ⟨b, off, rfl, k0⟩
end
end Go.Proofs.Ytiipkmfkelbpiaa
