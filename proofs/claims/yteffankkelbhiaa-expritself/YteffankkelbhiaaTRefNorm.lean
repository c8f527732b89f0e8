/-
  Layer 6: the document's Normal. No statement of the seat is proved here.
-/
import Derived.Test.YteffankkelbhiaaMA0
import Derived.Test.YteffankkelbhiaaTRefLess
namespace Go.Proofs.Yteffankkelbhiaa
open Go.RowKit

theorem own_below {w w' : World} {base size n B : Nat} {e : TypeId} {v : Value} {xs : List Value} (h : w.ownsRow base e size v n xs) (hb : Below B w w') (hv : ∀ k, v.ownBlock = some k → k < B) : w'.ownsRow base e size v n xs := by
  refine ⟨h.1, ?_⟩
  rcases h.2 with h2 | ⟨g, cap, cur, rfl, hg, hh, r⟩
  · exact .inl h2
  · exact .inr ⟨g, cap, cur, rfl, hg, (hb.block g (hv g rfl)).trans hh, r⟩

/-- Where the document's Normal stands: the tags so far, and the tags that come to be. -/
structure RN (w : World) (B : Nat) (vo : Value) (no : Nat) (o : List Tg) (vm : Value) (nm : Nat) (more : List Tg) (w' : World) : Prop where
  kept : Below w.heap.size w w'
  out : w'.ownsRow w.heap.size 47 2 vo no (flat o)
  lim : ∀ k, vo.ownBlock = some k → k < B
  low : w.heap.size ≤ B
  high : B ≤ w'.heap.size
  row : w'.ownsRow B 47 2 vm nm (flat more)
section
variable {w w1 w2 : World} {B no nm : Nat} {vo vm : Value} {o more : List Tg}
theorem RN.next (h : RN w B vo no o vm nm more w1) (k : Below w1.heap.size w1 w2) : RN w B vo no o vm nm more w2 :=
  ⟨below_then h.kept k, own_keep h.out k, h.lim, h.low, Nat.le_trans h.high k.size, own_keep h.row k⟩
theorem RN.alloc (h : RN w B vo no o vm nm more w1) (ob : Obj) : RN w B vo no o vm nm more (w1.alloc ob) := h.next ((Below.refl _ _).alloc (Nat.le_refl _) ob)
theorem RN.drewN (h : RN w B vo no o vm nm more w1) (n : Nat) : RN w B vo no o vm nm more (w1.drewN n) := h.next (Same.below (Same.drewN _ _))
theorem RN.push (h : RN w B vo no o vm nm more w1) {vm' : Value} {nm' : Nat} {more' : List Tg} (hg : w1.grownBy w2 vm.ownBlock) (ho : w2.ownsRow B 47 2 vm' nm' (flat more')) : RN w B vo no o vm' nm' more' w2 := by
  have hB : ∀ k, vm.ownBlock = some k → B ≤ k := by
    intro k hk
    rcases h.row.2 with ⟨rfl, _⟩ | ⟨g, cap, cur, rfl, hg, _⟩
    · cases hk
    · injection hk with hk; subst hk; exact hg
  have hb : Below B w1 w2 := (Below.refl B w1).grown hg h.high hB
  exact ⟨h.kept.trans (hb.mono h.low), own_below h.out hb h.lim, h.lim, h.low, Nat.le_trans h.high hb.size, ho⟩
end

/-- .. and these cells lie so. -/
structure RNS (w : World) (L : List (Addr × Value)) (B : Nat) (vo : Value) (no : Nat) (o : List Tg) (vm : Value) (nm : Nat) (more : List Tg) (w' : World) : Prop where
  cs : Cs w L w'
  rn : RN w B vo no o vm nm more w'
section
variable {w w1 w2 : World} {L : List (Addr × Value)} {B no nm : Nat} {vo vm : Value} {o more : List Tg}
theorem RNS.next (h : RNS w L B vo no o vm nm more w1) (k : Below w1.heap.size w1 w2) : RNS w L B vo no o vm nm more w2 := ⟨h.cs.next k, h.rn.next k⟩
theorem RNS.four {a b c d : Addr} {p q r s : Value} (h : RNS w [(a, p), (b, q), (c, r), (d, s)] B vo no o vm nm more w1) : w1.cell? a = some p ∧ w1.cell? b = some q ∧ w1.cell? c = some r ∧ w1.cell? d = some s ∧ RNS w [(a, p), (b, q), (c, r), (d, s)] B vo no o vm nm more w1 := by
  obtain ⟨h1, h2, h3, h4, _⟩ := h.cs.four
  exact ⟨h1, h2, h3, h4, h⟩
theorem RNS.of {P1 P2 P3 P4 : Prop} (h : P1 ∧ P2 ∧ P3 ∧ P4 ∧ RNS w L B vo no o vm nm more w1) : RNS w L B vo no o vm nm more w1 := h.2.2.2.2
end

/-- How far the insertion is. -/
def InsAt (t : Tg) (o : List Tg) (put : Bool) (more : List Tg) (k : Nat) : Prop :=
  (put = false ∧ more = o.take k ∧ o.take k ++ ins t (o.drop k) = ins t o) ∨ (put = true ∧ more ++ o.drop k = ins t o)
section
variable {t : Tg} {o more : List Tg} {k : Nat}
theorem InsAt.start : InsAt t o false [] 0 := .inl ⟨rfl, rfl, rfl⟩
theorem take_one {α : Type} {l : List α} {k : Nat} (h : k < l.length) : l.take (k + 1) = l.take k ++ [l[k]] := by rw [List.take_add_one, List.getElem?_eq_getElem h]; rfl
theorem InsAt.less (h : InsAt t o false more k) (hk : k < o.length) (hl : ltT o[k] t = true) : InsAt t o false (more ++ [o[k]]) (k + 1) := by
  rcases h with ⟨_, rfl, h⟩ | ⟨h, _⟩
  · refine .inl ⟨rfl, (take_one hk).symm, ?_⟩
    rw [← h, take_one hk, ← List.getElem_cons_drop hk, ins, if_pos hl, List.append_assoc]
    rfl
  · cases h
theorem InsAt.same (h : InsAt t o false more k) (hk : k < o.length) (hl : ltT o[k] t = false) (he : o[k] = t) : InsAt t o true (more ++ [o[k]]) (k + 1) := by
  rcases h with ⟨_, rfl, h⟩ | ⟨h, _⟩
  · refine .inr ⟨rfl, ?_⟩
    rw [← h, ← List.getElem_cons_drop hk, ins, if_neg (by rw [hl]; simp), if_pos he, List.append_assoc]
    rfl
  · cases h
theorem InsAt.both (h : InsAt t o false more k) (hk : k < o.length) (hl : ltT o[k] t = false) (he : o[k] ≠ t) : InsAt t o true (more ++ [t] ++ [o[k]]) (k + 1) := by
  rcases h with ⟨_, rfl, h⟩ | ⟨h, _⟩
  · refine .inr ⟨rfl, ?_⟩
    rw [← h, ← List.getElem_cons_drop hk, ins, if_neg (by rw [hl]; simp), if_neg he, List.append_assoc, List.append_assoc]
    rfl
  · cases h
theorem InsAt.go (h : InsAt t o true more k) (hk : k < o.length) : InsAt t o true (more ++ [o[k]]) (k + 1) := by
  rcases h with ⟨h, _⟩ | ⟨_, h⟩
  · cases h
  · refine .inr ⟨rfl, ?_⟩
    rw [← h, ← List.getElem_cons_drop hk, List.append_assoc]
    rfl
theorem InsAt.end_ (h : InsAt t o false more k) (hk : k = o.length) : more ++ [t] = ins t o := by
  subst hk
  rcases h with ⟨_, rfl, h⟩ | ⟨h, _⟩
  · rw [← h, List.drop_length]; rfl
  · cases h
theorem InsAt.end' (h : InsAt t o true more k) (hk : k = o.length) : more = ins t o := by
  subst hk
  rcases h with ⟨h, _⟩ | ⟨_, h⟩
  · cases h
  · rw [← h, List.drop_length, List.append_nil]
end

end Go.Proofs.Yteffankkelbhiaa
