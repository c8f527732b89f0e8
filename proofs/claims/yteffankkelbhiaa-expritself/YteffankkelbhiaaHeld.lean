/-
  Blocks that are written into, whatever they hold. No statement of the seat is proved here.
-/
import Derived.Test.YteffankkelbhiaaMRows
namespace Go.Proofs.Yteffankkelbhiaa
open Go.RowKit

/-- A block of so many cells, whatever they are. -/
def Held (W : World) (g N : Nat) : Prop := ∃ cur t, W.heap[g]? = some (.cells cur t (0, 0)) ∧ cur.size = N
section
variable {W W' : World} {g N : Nat}
theorem Held.lt (h : Held W g N) : g < W.heap.size := by
  obtain ⟨cur, t, hh, _⟩ := h
  rcases Nat.lt_or_ge g W.heap.size with h | h
  · exact h
  · rw [Array.getElem?_eq_none h] at hh; cases hh
theorem Held.get (h : Held W g N) {i : Nat} (hi : i < N) : ∃ v, W.cell? ⟨g, i, none⟩ = some v := by
  obtain ⟨cur, t, hh, hs⟩ := h
  exact ⟨cur[i]'(by omega), by simp [World.cell?, hh, hs, hi]⟩
theorem Held.frozen (h : Held W g N) (i : Nat) : W.frozen? ⟨g, i, none⟩ = false := by
  obtain ⟨cur, t, hh, _⟩ := h
  simp [World.frozen?, hh]
theorem Held.same (h : Held W g N) (e : W'.heap[g]? = W.heap[g]?) : Held W' g N := by
  obtain ⟨cur, t, hh, hs⟩ := h
  exact ⟨cur, t, e.trans hh, hs⟩
theorem Held.set (h : Held W g N) (i : Nat) (u : Value) : Held (W.setCell ⟨g, i, none⟩ u) g N := by
  obtain ⟨cur, t, hh, hs⟩ := h
  refine ⟨cur.setIfInBounds i u, t, ?_, by simpa using hs⟩
  simp [World.setCell, Array.getElem?_modify, hh]
theorem Held.far (h : Held W g N) {q : Addr} (hp : g ≠ q.block) (u : Value) : Held (W.setCell q u) g N := h.same (Below.heap_setCell W q u g hp)
theorem Held.keep (h : Held W g N) (hb : Below W.heap.size W W') : Held W' g N := h.same (hb.block g h.lt)
theorem held_of {base n size cap : Nat} {el : TypeId} {a : Addr} {xs : List Value} (h : W.ownsRow base el size (.slice (some a) n cap) n xs) : a = ⟨a.block, 0, none⟩ ∧ base ≤ a.block ∧ Held W a.block (cap * size) ∧ n ≤ cap := by
  rcases h.2 with ⟨h1, _⟩ | ⟨g, c, cur, hv, hg, hh, hn, _, hs, _⟩
  · cases h1
  · injection hv with e1 e2 e3
    injection e1 with e1
    subst e1 e3
    exact ⟨rfl, hg, ⟨cur, el, hh, hs⟩, hn⟩
theorem own_none {base n size cap : Nat} {el : TypeId} {xs : List Value} (h : W.ownsRow base el size (.slice none n cap) n xs) : n = 0 := by
  rcases h.2 with ⟨_, h1⟩ | ⟨g, c, cur, hv, _⟩
  · exact h1
  · cases hv
end

section
variable {W : World}
theorem held_put {b i g' N : Nat} (h : Held W g' N) (u : Value) : Held (W.setCell ⟨b, i, none⟩ u) g' N := by
  by_cases e : g' = b
  · subst e; exact h.set i u
  · exact h.far e u
end
end Go.Proofs.Yteffankkelbhiaa
