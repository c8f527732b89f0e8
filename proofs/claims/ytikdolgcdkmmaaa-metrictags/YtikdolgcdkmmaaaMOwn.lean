/-
  Layer 7: metrics that were cloned or copied, and rows that are written into. No statement of the seat is proved here.
-/
import Derived.Test.YtikdolgcdkmmaaaMSplit
import Derived.Test.YtikdolgcdkmmaaaMCopy
import Derived.Test.YtikdolgcdkmmaaaHeld
namespace Go.Proofs.Ytikdolgcdkmmaaa
open Go.RowKit
open Dc (D D0)

section
variable {w W : World} {L : List (Nat × TypeId × List Value)} {M : List (ByteArray × Option Addr × Nat × Option Addr × Nat × Mt)}
variable {s : ByteArray} {A B : Option Addr} {n k : Nat} {m : Mt}
/-- How a call of Clone, or Copy, ends. -/
def OwnP (w : World) (L : List (Nat × TypeId × List Value)) (M : List (ByteArray × Option Addr × Nat × Option Addr × Nat × Mt)) (s : ByteArray) (n k : Nat) (m : Mt) (W : World) (e : Ending) (w' : World) : Prop :=
  ∃ A' ca' B' cb', e = .returned (.agg #[.string s, .int .i64 m.kind, .slice A' n ca', .int .i64 m.rate, .slice B' k cb', .int .i64 m.time]) ∧ Kb w L ((s, A', n, B', k, m) :: M) w' ∧ OwnM W.heap.size w' s A' n ca' B' k cb' m ∧ Below W.heap.size W w'
theorem Kb.clone_ (h : Kb w L M W) (hm : (s, A, n, B, k, m) ∈ M) (z : Small m) (ca cb : Nat) :
    Calls Try.prog 11 #[.agg #[.string s, .int .i64 m.kind, .slice A n ca, .int .i64 m.rate, .slice B k cb, .int .i64 m.time]] W (OwnP w L M s n k m W) :=
  (clone_calls7 (ca := ca) (cb := cb) (h.m hm) z).mono fun _ _ ⟨⟨A', ca', B', cb', he, ho⟩, hb⟩ => ⟨A', ca', B', cb', he, (h.next hb).mAdd ho.mis, ho, hb⟩
/-- How a call of Split ends. -/
def SplitK (w : World) (L : List (Nat × TypeId × List Value)) (M : List (ByteArray × Option Addr × Nat × Option Addr × Nat × Mt)) (s : ByteArray) (n k : Nat) (m : Mt) (x : Int) (W : World) (e : Ending) (w' : World) : Prop :=
  Kb w L M w' ∧ Below W.heap.size W w' ∧ ((x ≠ 0 ∧ e = .returned (.tuple #[.slice none 0 0, .int .i64 x])) ∨ (x = 0 ∧ ∃ v es, e = .returned (.tuple #[v, .int .i64 0]) ∧ SplitR (W.heap.size + 1) w' v s k m n es))
end

/-- Nothing that was there has changed, but for blocks from lo to hi. -/
structure Within (lo hi : Nat) (W W' : World) : Prop where
  os : W'.os = W.os
  tape : W'.tape = W.tape
  output : W'.output = W.output
  size : W.heap.size ≤ W'.heap.size
  block : ∀ b, b < W.heap.size → b < lo ∨ hi ≤ b → W'.heap[b]? = W.heap[b]?
section
variable {W W' W2 : World} {lo hi : Nat}
theorem Within.refl (W : World) : Within lo hi W W := ⟨rfl, rfl, rfl, Nat.le_refl _, fun _ _ _ => rfl⟩
theorem Within.put (h : Within lo hi W W') {q : Addr} (h1 : lo ≤ q.block) (h2 : q.block < hi) (u : Value) : Within lo hi W (W'.setCell q u) :=
  ⟨h.os, h.tape, h.output, by rw [size_setCell]; exact h.size, fun b hb hc => (Below.heap_setCell W' q u b (by omega)).trans (h.block b hb hc)⟩
theorem Within.below (h : Within lo hi W W') {B : Nat} (hB : B ≤ lo) (hW : B ≤ W.heap.size) : Below B W W' := ⟨h.os, h.tape, h.output, h.size, fun b hb => h.block b (by omega) (.inl (by omega))⟩
end

theorem Kb.rebase {w W : World} {L : List (Nat × TypeId × List Value)} {M : List (ByteArray × Option Addr × Nat × Option Addr × Nat × Mt)} (h : Kb w L M W) : Kb W L M W := ⟨Below.refl _ _, h.box, h.met⟩

/-- A metric whose rows are written into: what lies below W1 stays. -/
structure CTl (W1 : World) (g : Nat) (cs : List Value) (A : Option Addr) (NA : Nat) (B : Option Addr) (NB : Nat) (W : World) : Prop where
  kept : Below W1.heap.size W1 W
  box : Box W g 25 cs
  hA : ∀ a, A = some a → a = ⟨a.block, 0, none⟩ ∧ W1.heap.size ≤ a.block ∧ a.block ≠ g ∧ Held W a.block NA
  hB : ∀ a, B = some a → a = ⟨a.block, 0, none⟩ ∧ W1.heap.size ≤ a.block ∧ a.block ≠ g ∧ Held W a.block NB
section
variable {W1 W W' : World} {g NA NB : Nat} {cs : List Value} {A B : Option Addr}
theorem CTl.next (h : CTl W1 g cs A NA B NB W) (b : Below W.heap.size W W') : CTl W1 g cs A NA B NB W' :=
  ⟨h.kept.trans (b.mono h.kept.size), h.box.keep b, fun a ha => let ⟨x, y, z, u⟩ := h.hA a ha; ⟨x, y, z, u.keep b⟩, fun a ha => let ⟨x, y, z, u⟩ := h.hB a ha; ⟨x, y, z, u.keep b⟩⟩
theorem CTl.put (h : CTl W1 g cs A NA B NB W) {b i : Nat} (h1 : W1.heap.size ≤ b) (h2 : b ≠ g) (u : Value) : CTl W1 g cs A NA B NB (W.setCell ⟨b, i, none⟩ u) :=
  ⟨h.kept.setCell h1 u, h.box.far (fun e => h2 e.symm) u, fun a ha => let ⟨x, y, z, v⟩ := h.hA a ha; ⟨x, y, z, held_put v u⟩, fun a ha => let ⟨x, y, z, v⟩ := h.hB a ha; ⟨x, y, z, held_put v u⟩⟩
end
theorem CTl.mk_ {W1 w3 : World} {s : ByteArray} {A B : Option Addr} {n ca k cb : Nat} {m : Mt} (cs : List Value) (hb : Below W1.heap.size W1 w3) (ho : OwnM W1.heap.size w3 s A n ca B k cb m) :
    CTl W1 w3.heap.size cs A (ca * 3) B (cb * 2) (w3.alloc (.cells cs.toArray 25)) := by
  refine ⟨hb.alloc hb.size _, Box.new _ _ _, fun a ha => ?_, fun a ha => ?_⟩
  · subst ha
    obtain ⟨h1, h2, h3, _⟩ := held_of ho.vals
    exact ⟨h1, h2, Nat.ne_of_lt h3.lt, h3.keep (m_below _ _)⟩
  · subst ha
    obtain ⟨h1, h2, h3, _⟩ := held_of ho.tags
    exact ⟨h1, h2, Nat.ne_of_lt h3.lt, h3.keep (m_below _ _)⟩

/-- A loop over what Split told: from the i-th on nothing has been written. -/
structure LInv (W0 : World) (base n : Nat) (v : Value) (s : ByteArray) (k : Nat) (m : Mt) (es : List Ent) (i : Nat) (W : World) : Prop where
  kept : Below W0.heap.size W0 W
  own : W.ownsRow base 25 6 v n (flatE s m.kind m.rate m.time k es)
  ent : ∀ (j : Nat) e d, i ≤ j → es[j]? = some e → m.vals[j]? = some d → EntOk base W s k m e d
section
variable {W0 W W' : World} {base n k i : Nat} {v : Value} {s : ByteArray} {m : Mt} {es : List Ent}
theorem LInv.next (h : LInv W0 base n v s k m es i W) (b : Below W.heap.size W W') : LInv W0 base n v s k m es i W' :=
  ⟨h.kept.trans (b.mono h.kept.size), own_keep h.own b, fun j e d hj he hd => (h.ent j e d hj he hd).same b.size fun x _ hx => b.block x (Nat.lt_of_lt_of_le hx (h.ent j e d hj he hd).hi)⟩
theorem LInv.wrote (h : LInv W0 base n v s k m es i W) (hr : ∀ g, v.ownBlock = some g → ∀ e ∈ es, g < e.lo ∨ e.hi ≤ g) (ha : es.Pairwise fun a b => a.hi ≤ b.lo) {e : Ent} (he : es[i]? = some e) (hlo : W0.heap.size ≤ e.lo) (hw : Within e.lo e.hi W W') : LInv W0 base n v s k m es (i + 1) W' := by
  have hmem := List.mem_of_getElem? he
  refine ⟨h.kept.trans (hw.below hlo h.kept.size), own_apart h.own fun b _ hb hv => hw.block b hb (hr b hv e hmem), fun j e' d hj he' hd => ?_⟩
  have x := h.ent j e' d (by omega) he' hd
  refine x.same hw.size fun b hb1 hb2 => hw.block b (Nat.lt_of_lt_of_le hb2 x.hi) (.inr ?_)
  have hi := List.getElem?_eq_some_iff.1 he
  have hj' := List.getElem?_eq_some_iff.1 he'
  obtain ⟨hi1, hi2⟩ := hi
  obtain ⟨hj1, hj2⟩ := hj'
  have := List.pairwise_iff_getElem.1 ha i j hi1 hj1 (by omega)
  rw [hi2, hj2] at this
  omega
theorem LInv.cell (h : LInv W0 base n v s k m es i W) {g cap c : Nat} {e : Ent} {u : Value} (hv : v = .slice (some ⟨g, 0, none⟩) n cap) {j : Nat} (he : es[j]? = some e) (hc : c < 6) (hu : (encE s m.kind m.rate m.time k e)[c]? = some u) : W.cell? ⟨g, j * 6 + c, none⟩ = some u := by
  have hl := Lies.of_own (hv ▸ h.own)
  obtain ⟨b, off, e1, h2⟩ := hl (j * 6 + c) u (by rw [flatE_get he hc]; exact hu)
  injection e1 with e1
  injection e1 with e1 e2
  subst e1 e2
  rw [Nat.zero_add] at h2
  exact h2
end

section
open Go.Sort
theorem regr {w w' : World} {a : Addr} {v : Value} (hb : Below w.heap.size w w') (h : w.cell? a = some v) : ∀ d os, (grow (redrawn w' d) os).cell? a = some v := cell_regrown ((hb.cell (cell_lt h)).trans h)
theorem Kb.check1q {w W : World} {L : List (Nat × TypeId × List Value)} {M : List (ByteArray × Option Addr × Nat × Option Addr × Nat × Mt)} {s : ByteArray} {A B : Option Addr} {n k : Nat} {m : Mt} {d : D} (h : Kb w L M W) (hm : (s, A, n, B, k, oneM m d) ∈ M) (z : Small (oneM m d)) (hx : checkM (oneM m d) = 0) (ca cb : Nat) :
    Qt W 29 #[.agg #[.string s, .int .i64 m.kind, .slice A n ca, .int .i64 m.rate, .slice B k cb, .int .i64 m.time]] (.int .i64 0) := h.checkq hm z hx ca cb
end
end Go.Proofs.Ytikdolgcdkmmaaa
