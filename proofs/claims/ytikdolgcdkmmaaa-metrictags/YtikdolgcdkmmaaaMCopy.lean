/-
  The document's Copy. No statement of the seat is proved here.
-/
import Derived.Test.YtikdolgcdkmmaaaMClone
namespace Go.Proofs.Ytikdolgcdkmmaaa
open Go.RowKit
open Dc (D D0)

theorem own_apart {W W' : World} {base size n : Nat} {el : TypeId} {v : Value} {xs : List Value} (h : W.ownsRow base el size v n xs) (same : ∀ b, base ≤ b → b < W.heap.size → v.ownBlock = some b → W'.heap[b]? = W.heap[b]?) : W'.ownsRow base el size v n xs := by
  refine ⟨h.1, ?_⟩
  rcases h.2 with h2 | ⟨g, cap, cur, hv, hg, hh, r⟩
  · exact .inl h2
  · have hlt : g < W.heap.size := by
      rcases Nat.lt_or_ge g W.heap.size with h | h
      · exact h
      · rw [Array.getElem?_eq_none h] at hh; cases hh
    exact .inr ⟨g, cap, cur, hv, hg, (same g hg hlt (by rw [hv]; rfl)).trans hh, r⟩
theorem size_setCell (w : World) (q : Addr) (u : Value) : (w.setCell q u).heap.size = w.heap.size := by simp [World.setCell]

section
variable {w W W' : World} {s : ByteArray} {A B A' B' : Option Addr} {n k ca cb n' k' ca' cb' : Nat} {m : Mt} {kd rt tm : Int}
/-- The metric that is copied, and the result's block. -/
structure CpSt (w : World) (s : ByteArray) (kd : Int) (A : Option Addr) (n ca : Nat) (rt : Int) (B : Option Addr) (k cb : Nat) (tm : Int) (W : World) : Prop where
  kept : Below w.heap.size w W
  one : Box W w.heap.size 25 (mC s kd A n ca rt B k cb tm)
  two : Box W (w.heap.size + 1) 25 (mC ⟨#[]⟩ 0 none 0 0 0 none 0 0 0)
theorem CpSt.start (w : World) (s : ByteArray) (kd : Int) (A : Option Addr) (n ca : Nat) (rt : Int) (B : Option Addr) (k cb : Nat) (tm : Int) :
    CpSt w s kd A n ca rt B k cb tm ((w.alloc (.cells #[.string s, .int .i64 kd, .slice A n ca, .int .i64 rt, .slice B k cb, .int .i64 tm] 25)).alloc (.cells #[.string ⟨#[]⟩, .int .i64 0, .slice none 0 0, .int .i64 0, .slice none 0 0, .int .i64 0] 25)) := by
  refine ⟨below_then (m_below _ _) (m_below _ _), (Box.new _ _ (mC s kd A n ca rt B k cb tm)).alloc _, ?_⟩
  have := Box.new (w.alloc (.cells #[.string s, .int .i64 kd, .slice A n ca, .int .i64 rt, .slice B k cb, .int .i64 tm] 25)) 25 (mC ⟨#[]⟩ 0 none 0 0 0 none 0 0 0)
  rw [size_alloc] at this
  exact this
theorem CpSt.alloc (h : CpSt w s kd A n ca rt B k cb tm W) (o : Obj) : CpSt w s kd A n ca rt B k cb tm (W.alloc o) := ⟨below_then h.kept (m_below _ _), h.one.alloc _, h.two.alloc _⟩
theorem CpSt.size (h : CpSt w s kd A n ca rt B k cb tm W) : w.heap.size + 1 + 1 ≤ W.heap.size := h.two.lt
theorem CpSt.grown (h : CpSt w s kd A n ca rt B k cb tm W) {g : Nat} (hg : W.grownBy W' (some g)) (hlt : w.heap.size + 1 + 1 ≤ g) : CpSt w s kd A n ca rt B k cb tm W' := by
  refine ⟨h.kept.grown hg h.kept.size fun k hk => ?_, (hg.block _ h.one.lt fun hc => ?_).trans h.one, (hg.block _ h.two.lt fun hc => ?_).trans h.two⟩
  · injection hk with hk; omega
  · injection hc with hc; omega
  · injection hc with hc; omega
theorem CpSt.set2 (h : CpSt w s kd A n ca rt B k cb tm W) (A' : Option Addr) (n' ca' : Nat) : CpSt w s kd A' n' ca' rt B k cb tm (W.setCell ⟨w.heap.size, 2, none⟩ (.slice A' n' ca')) :=
  ⟨below_set h.kept (Nat.le_refl _) 2 _, h.one.set 2 _, h.two.far (by show w.heap.size + 1 ≠ w.heap.size; omega) _⟩
theorem CpSt.set4 (h : CpSt w s kd A n ca rt B k cb tm W) (B' : Option Addr) (k' cb' : Nat) : CpSt w s kd A n ca rt B' k' cb' tm (W.setCell ⟨w.heap.size, 4, none⟩ (.slice B' k' cb')) :=
  ⟨below_set h.kept (Nat.le_refl _) 4 _, h.one.set 4 _, h.two.far (by show w.heap.size + 1 ≠ w.heap.size; omega) _⟩
theorem own_sl {base : Nat} {el : TypeId} {size : Nat} {v : Value} {xs : List Value} (h : W.ownsRow base el size v n xs) : ∃ A cap, v = .slice A n cap := by
  obtain ⟨A, cap, e, _⟩ := own_slice h
  exact ⟨A, cap, e⟩

theorem CpSt.emptyT (h : CpSt w s kd A n ca rt B k cb tm W) (A' : Option Addr) (n' ca' : Nat) : ((W.setCell ⟨w.heap.size, 2, none⟩ (.slice A' n' ca')).alloc (.cells #[] 33)).ownsRow (w.heap.size + 1 + 1) 33 2 (.slice (some ⟨W.heap.size, 0, none⟩) 0 0) 0 (flat []) := by
  have := own_empty (W.setCell ⟨w.heap.size, 2, none⟩ (.slice A' n' ca'))
  rw [size_setCell] at this
  exact own_base this h.size
theorem CpSt.ownD (_h : CpSt w s kd A n ca rt B k cb tm W) {ds : List D} (ho : W.ownsRow (w.heap.size + 1 + 1) 39 3 (.slice A' n' ca') n' (flatD ds)) {o : Obj} (hg : ((W.setCell ⟨w.heap.size, 2, none⟩ (.slice A' n' ca')).alloc o).grownBy W' (some W.heap.size)) : W'.ownsRow (w.heap.size + 1 + 1) 39 3 (.slice A' n' ca') n' (flatD ds) := by
  refine own_apart ho fun b hb1 hb2 _ => ?_
  rw [hg.block b (by rw [size_alloc, size_setCell]; omega) (fun hc => by injection hc with hc; omega), Below.heap_alloc _ _ b (by rw [size_setCell]; exact hb2), Below.heap_setCell _ _ _ b (by show b ≠ w.heap.size; omega)]

end
end Go.Proofs.Ytikdolgcdkmmaaa
