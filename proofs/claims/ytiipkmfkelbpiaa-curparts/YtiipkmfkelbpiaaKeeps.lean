/-
  What a call leaves as it was, but for a few blocks. No statement of the seat is proved here.
-/
import Derived.Test.YtiipkmfkelbpiaaTry3
namespace Go.Proofs.Ytiipkmfkelbpiaa
open Go.RowKit

/-- Nothing that was there has changed, but for these blocks. -/
structure Keeps (S : List Nat) (w w' : World) : Prop where
  os : w'.os = w.os
  tape : w'.tape = w.tape
  output : w'.output = w.output
  size : w.heap.size ≤ w'.heap.size
  block : ∀ k, k < w.heap.size → k ∉ S → w'.heap[k]? = w.heap[k]?

section
variable {S : List Nat} {w w' w'' : World} {g p B : Nat} {t : TypeId} {cs : List Value}
theorem Keeps.refl (S : List Nat) (w : World) : Keeps S w w := ⟨rfl, rfl, rfl, Nat.le_refl _, fun _ _ _ => rfl⟩
theorem Keeps.trans (h : Keeps S w w') (k : Keeps S w' w'') : Keeps S w w'' :=
  ⟨k.os.trans h.os, k.tape.trans h.tape, k.output.trans h.output, Nat.le_trans h.size k.size, fun i hi hp => (k.block i (Nat.lt_of_lt_of_le hi h.size) hp).trans (h.block i hi hp)⟩
theorem Keeps.of_but (h : But p w w') (hp : p ∈ S) : Keeps S w w' := ⟨h.os, h.tape, h.output, h.size, fun k hk hn => h.block k hk (fun e => hn (e ▸ hp))⟩
theorem Keeps.of_below (h : Below w.heap.size w w') : Keeps S w w' := ⟨h.os, h.tape, h.output, h.size, fun k hk _ => h.block k hk⟩
theorem Keeps.of_same (h : Same w w') : Keeps S w w' := .of_below h.below
theorem Keeps.below (h : Keeps S w w') (hS : ∀ k ∈ S, B ≤ k) (hB : B ≤ w.heap.size) : Below B w w' := ⟨h.os, h.tape, h.output, h.size, fun k hk => h.block k (by omega) (fun hm => by have := hS k hm; omega)⟩
theorem Box.keeps (h : Box w g t cs) (hb : Keeps S w w') (hg : g ∉ S) : Box w' g t cs := (hb.block g h.lt hg).trans h
end
end Go.Proofs.Ytiipkmfkelbpiaa
