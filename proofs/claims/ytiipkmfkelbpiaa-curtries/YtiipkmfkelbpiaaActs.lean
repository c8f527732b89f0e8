/-
  A slice of Acts that came in, as a list of triples. No statement of the seat is proved here.
-/
import Derived.Test.YtiipkmfkelbpiaaRows1
import Derived.ProofKit
import Derived.OpenShut
import Derived.Deep.Slices
import Derived.Deep.Fields
namespace Go.Proofs.Ytiipkmfkelbpiaa
open Go.RowKit Go.ChangeShapes Go.WideShapes Go.Deep

/-- The slice at A holds these calls. -/
def LiesActs (w : World) (A : Option Addr) (l : List (Int × Int × Int)) : Prop :=
  ∀ i x, l[i]? = some x → ∃ b off, A = some ⟨b, off, none⟩ ∧ w.cell? ⟨b, off + i * 3, none⟩ = some (.int .i64 x.1) ∧ w.cell? ⟨b, off + i * 3 + 1, none⟩ = some (.int .i64 x.2.1) ∧ w.cell? ⟨b, off + i * 3 + 2, none⟩ = some (.int .i64 x.2.2)

theorem LiesActs.keep {w w' : World} {A : Option Addr} {l : List (Int × Int × Int)} (h : LiesActs w A l) (hb : Below w.heap.size w w') : LiesActs w' A l := by
  intro i x hx
  obtain ⟨b, off, e, h0, h1, h2⟩ := h i x hx
  exact ⟨b, off, e, (hb.cell (p := ⟨b, off + i * 3, none⟩) (cell_lt h0)).trans h0, (hb.cell (p := ⟨b, off + i * 3 + 1, none⟩) (cell_lt h1)).trans h1, (hb.cell (p := ⟨b, off + i * 3 + 2, none⟩) (cell_lt h2)).trans h2⟩

section
variable {H : Type} {enc : TypeId × Value → H} {w : World} {base : Nat} {spare : Nat → Bool} {held : Bool}

theorem cells3 : Try.prog.cellsOf 3 = 1 := by kernel_rfl
theorem cells28 : Try.prog.cellsOf 28 = 1 := by kernel_rfl
theorem cells38 : Try.prog.cellsOf 38 = 3 := by kernel_rfl

theorem add_plain (b off i : Nat) : (⟨b, off, none⟩ : Addr).add i = ⟨b, off + i, none⟩ := by unfold Addr.add; split <;> simp_all

theorem three {α : Type} {l : List α} (h : l.length = 3) : ∃ a b c, l = [a, b, c] := by
  match l, h with
  | [a, b, c], _ => exact ⟨a, b, c, rfl⟩

theorem act_fields {n : Nat} {cs : List Value} {x : DataW H × List MemPlace} (h : DataW.trod enc Try.prog w base spare held n 38 cs = some x) : ∃ d m c, cs = [.int .i64 d, .int .i64 m, .int .i64 c] := by
  obtain ⟨xs, n', _, _, hlen, hxl, hf⟩ := DataW.trod_struct Try.underlying38 h
  obtain ⟨c0, c1, c2, rfl⟩ := three (hlen.trans cells38)
  obtain ⟨y0, y1, y2, rfl⟩ := three (l := xs) (by simpa using hxl)
  have h0 := hf 0 _ rfl
  have h1 := hf 1 _ rfl
  have h2 := hf 2 _ rfl
  simp [cells3, cells28] at h0 h1 h2
  obtain ⟨a0, e0, _⟩ := DataW.trod_int Try.underlying3 h0
  obtain ⟨a1, e1, _⟩ := DataW.trod_int Try.underlying3 h1
  obtain ⟨a2, e2, _⟩ := DataW.trod_int Try.underlying28 h2
  simp at e0 e1 e2
  subst e0 e1 e2
  exact ⟨a0, a1, a2, rfl⟩

theorem acts_in {a : Option Addr} {len cap : Nat} {d : DataW H} {p : List MemPlace} (h : DataW.Trod enc Try.prog w base spare held 23 (.slice a len cap) d p) :
    ∃ l : List (Int × Int × Int), l.length = len ∧ LiesActs w a l ∧ len ≤ maxLen := by
  obtain ⟨fuel, hf⟩ := h
  rcases open_slice Try.underlying23 hf with ⟨hcs, _⟩ | ⟨x, len', cap', m, n, D, Pl, hcs, _, hl, hm, hmm, _, hi⟩
  · simp [Value.cells] at hcs
    obtain ⟨rfl, rfl, rfl⟩ := hcs
    exact ⟨[], rfl, fun i x hx => by simp at hx, Nat.zero_le _⟩
  · simp [Value.cells] at hcs
    obtain ⟨rfl, rfl, rfl⟩ := hcs
    have hlm : len ≤ m := by rw [hmm]; split <;> omega
    have key : ∀ i, i < len → ∃ t : Int × Int × Int, w.cell? (x.add (i * 3)) = some (.int .i64 t.1) ∧ w.cell? ((x.add (i * 3)).add 1) = some (.int .i64 t.2.1) ∧ w.cell? ((x.add (i * 3)).add 2) = some (.int .i64 t.2.2) := by
      intro i hil
      obtain ⟨cs', hc, ht⟩ := hi i (by omega)
      rw [cells38] at hc
      obtain ⟨d, m', c, rfl⟩ := act_fields ht
      obtain ⟨_, _, hat⟩ := World.cells?_some hc
      refine ⟨(d, m', c), ?_, ?_, ?_⟩
      · simpa [Addr.add] using hat 0 (by omega)
      · simpa using hat 1 (by omega)
      · simpa using hat 2 (by omega)
    refine ⟨(List.range len).map (fun i => if hi : i < len then (key i hi).choose else (0, 0, 0)), by simp, ?_, by omega⟩
    intro i t ht
    rw [List.getElem?_map] at ht
    obtain ⟨j, hj, rfl⟩ := Option.map_eq_some_iff.1 ht
    obtain ⟨hil, rfl⟩ := List.getElem?_eq_some_iff.1 hj
    simp at hil
    simp only [List.getElem_range, hil, dif_pos]
    obtain ⟨k0, k1, k2⟩ := (key i hil).choose_spec
    obtain ⟨b, off, spot⟩ := x
    have hs : spot = none := by
      have := World.cell?_spot ((key 0 (by omega)).choose_spec.1)
      simpa [Addr.add] using this
    subst hs
    generalize (key i hil).choose = t at k0 k1 k2 ⊢
    rw [add_plain] at k0 k1 k2
    exact ⟨b, off, rfl, k0, by simpa [Addr.add] using k1, by simpa [Addr.add] using k2⟩
end
end Go.Proofs.Ytiipkmfkelbpiaa
