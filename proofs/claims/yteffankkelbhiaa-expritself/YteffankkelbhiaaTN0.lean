/-
  TCompact, TNormal, TNormal2. No statement of the seat is proved here.
-/
import Derived.Test.YteffankkelbhiaaTGet
import Derived.Test.YteffankkelbhiaaTK0
/-
  slices.Compact at tags. No statement of the seat is proved here.
-/
namespace Go.Proofs.Yteffankkelbhiaa
open Go.RowKit

/-- Block g is a row of tags, with room for cap of them. -/
def RowT (w : World) (g cap : Nat) (ts : List Tg) : Prop :=
  ∃ cur, w.heap[g]? = some (.cells cur 47 (0, 0)) ∧ cur.size = cap * 2 ∧ cur.toList.take (ts.length * 2) = flat ts ∧ ts.length ≤ cap

section
variable {w w' : World} {g cap : Nat} {ts : List Tg}
theorem RowT.lt (h : RowT w g cap ts) : g < w.heap.size := by obtain ⟨cur, hh, _⟩ := h; exact own_lt hh
theorem RowT.tags (h : RowT w g cap ts) : Tags w (some ⟨g, 0, none⟩) ts := by
  obtain ⟨cur, hh, _, ht, _⟩ := h
  intro i u hu
  refine ⟨g, 0, rfl, ?_⟩
  rw [← ht, List.getElem?_take] at hu
  split at hu
  · simp only [World.cell?, hh, Nat.zero_add]; simpa using hu
  · cases hu
theorem RowT.get (h : RowT w g cap ts) {i : Nat} (hi : i < ts.length) : ∃ s t, w.cell? ⟨g, i * 2, none⟩ = some (.string s) ∧ w.cell? ⟨g, i * 2 + 1, none⟩ = some (.string t) ∧ Str s ts[i].1 ∧ Str t ts[i].2 := by
  obtain ⟨h0, h1⟩ := h.tags.cells hi
  rw [Nat.zero_add] at h0 h1
  exact ⟨_, _, h0, h1, Str.mk _, Str.mk _⟩
theorem RowT.frozen (h : RowT w g cap ts) (i : Nat) : w.frozen? ⟨g, i, none⟩ = false := by
  obtain ⟨cur, hh, _⟩ := h
  simp [World.frozen?, hh]
theorem RowT.some_ (h : RowT w g cap ts) {i : Nat} (hi : i < cap * 2) : (w.cell? ⟨g, i, none⟩).isSome = true := by
  obtain ⟨cur, hh, hs, _⟩ := h
  simp only [World.cell?, hh]
  simp [hs, hi]
theorem RowT.same (h : RowT w g cap ts) (hs : Same w w') : RowT w' g cap ts := by
  obtain ⟨cur, hh, r⟩ := h
  exact ⟨cur, by rw [hs.heap]; exact hh, r⟩
theorem flat_set : ∀ (ts : List Tg) (i : Nat) (x : Tg), ((flat ts).set (i * 2) (.string ⟨x.1.toArray⟩)).set (i * 2 + 1) (.string ⟨x.2.toArray⟩) = flat (ts.set i x)
  | [], i, x => by simp [flat_nil]
  | t :: ts, 0, x => rfl
  | t :: ts, i + 1, x => by
    rw [flat_cons, show (i + 1) * 2 = i * 2 + 1 + 1 by omega, List.set_cons_succ, List.set_cons_succ, List.set_cons_succ, List.set_cons_succ, flat_set ts i x]
    rfl
theorem RowT.set (h : RowT w g cap ts) {i : Nat} {s t : ByteArray} {x : Tg} (hs : Str s x.1) (ht : Str t x.2) : RowT ((w.setCell ⟨g, i * 2, none⟩ (.string s)).setCell ⟨g, i * 2 + 1, none⟩ (.string t)) g cap (ts.set i x) := by
  rw [hs.eq, ht.eq]
  obtain ⟨cur, hh, h1, h2, h3⟩ := h
  refine ⟨(cur.setIfInBounds (i * 2) (.string ⟨x.1.toArray⟩)).setIfInBounds (i * 2 + 1) (.string ⟨x.2.toArray⟩), ?_, by simpa using h1, ?_, by simpa using h3⟩
  · simp [World.setCell, Array.getElem?_modify, hh]
  · rw [Array.toList_setIfInBounds, Array.toList_setIfInBounds, List.length_set, List.take_set, List.take_set, h2, flat_set]
end

theorem setCells_but (g : Nat) : ∀ (zs : List Value) (o : Nat) (w : World), But g w (w.setCells g o zs)
  | [], _, w => But.refl g w
  | z :: zs, o, w => ((But.refl g w).set o z).trans (setCells_but g zs (o + 1) _)
theorem cell_set_other {w : World} {g o i : Nat} (h : i ≠ o) (z : Value) : (w.setCell ⟨g, o, none⟩ z).cell? ⟨g, i, none⟩ = w.cell? ⟨g, i, none⟩ := by
  unfold World.setCell World.cell?
  simp only [Array.getElem?_modify, if_true]
  cases w.heap[g]? with
  | none => rfl
  | some ob => cases ob <;> simp [Ne.symm h]
theorem setCells_low (g : Nat) : ∀ (zs : List Value) (o : Nat) (w : World) (i : Nat), i < o → (w.setCells g o zs).cell? ⟨g, i, none⟩ = w.cell? ⟨g, i, none⟩
  | [], _, w, i, _ => rfl
  | z :: zs, o, w, i, h => by
    rw [World.setCells, setCells_low g zs (o + 1) _ i (by omega), cell_set_other (by omega)]
theorem run_clear2 (w : World) (b o n c : Nat) (hn : 0 < n) (hc : ∀ j, j < n * 2 → (w.cell? ⟨b, o + j, none⟩).isSome = true) (hf : ∀ j, j < n * 2 → w.frozen? ⟨b, o + j, none⟩ = false) :
    ∃ zs : List Value, ∀ ty, (Builtin.clear_ #[23] ty #[.slice (some ⟨b, o, none⟩) n c]).run Try.prog w = .ok (.tuple #[]) (w.setCells b o zs) := by
  refine ⟨(Builtin.zeroCells (Value.agg #[.string ⟨#[]⟩, .string ⟨#[]⟩]).cells n).toList, ?_⟩
  have hlen : (Builtin.zeroCells (Value.agg #[.string ⟨#[]⟩, .string ⟨#[]⟩]).cells n).toList.length = n * 2 := by simp [Builtin.zeroCells, Value.cells]
  have hone : ∀ v ∈ (Builtin.zeroCells (Value.agg #[.string ⟨#[]⟩, .string ⟨#[]⟩]).cells n).toList, v.oneCell' = true := by
    intro v hv
    simp [Builtin.zeroCells, Value.cells] at hv
    obtain ⟨i, _, rfl⟩ := hv
    rcases Nat.mod_two_eq_zero_or_one i with h | h <;> simp [h, Value.oneCell']
  have hst := run_storeCells_cells (P := Try.prog) b o _ 0 w (by rw [hlen]; simpa using hc) (by rw [hlen]; simpa using hf) hone
  simp only [Nat.add_zero] at hst
  have hv := Try.zeroValue47
  obtain ⟨m, rfl⟩ : ∃ m, n = m + 1 := ⟨n - 1, by omega⟩
  intro ty
  simp [Builtin.clear_, run_underlying Try.underlying23, hv, hst]

theorem at_list {d : Array Tg} {i : Nat} (h : i < d.toList.length) : d[i]! = d.toList[i] := by
  have h' : i < d.size := by simpa using h
  rw [getElem!_pos d i h']; simp

theorem tags_setCells {w : World} {g o : Nat} {ts : List Tg} (h : Tags w (some ⟨g, 0, none⟩) ts) (ho : ts.length * 2 ≤ o) (zs : List Value) : Tags (w.setCells g o zs) (some ⟨g, 0, none⟩) ts := by
  intro i u hu
  obtain ⟨b, off, e, hc⟩ := h i u hu
  injection e with e
  injection e with e1 e2
  subst e1 e2
  have hi : i < (flat ts).length := (List.getElem?_eq_some_iff.1 hu).1
  rw [flat_length] at hi
  exact ⟨g, 0, rfl, by rw [setCells_low g zs o w _ (by omega)]; exact hc⟩
end Go.Proofs.Yteffankkelbhiaa

/-
  Package tag: Normal. No statement of the seat is proved here.
-/
namespace Go.Proofs.Yteffankkelbhiaa
open Go.RowKit
end Go.Proofs.Yteffankkelbhiaa

/-
  Package tag: Normal and Is. No statement of the seat is proved here.
-/
namespace Go.Proofs.Yteffankkelbhiaa
open Go.RowKit

theorem tags_nil_of {w : World} {ts : List Tg} (h : Tags w none ts) : ts = [] := by
  rcases ts with _ | ⟨t, ts⟩
  · rfl
  · obtain ⟨b, off, e, _⟩ := h 0 _ rfl
    cases e

theorem own_rowT {w : World} {base g n cap : Nat} {ts : List Tg} (h : w.ownsRow base 47 2 (.slice (some ⟨g, 0, none⟩) n cap) n (flat ts)) (hn : ts.length = n) : RowT w g cap ts ∧ base ≤ g := by
  rcases h.2 with ⟨e, _⟩ | ⟨g', cap', cur, e, hg, hh, h1, h2, h3, h4⟩
  · cases e
  · injection e with e1 _ e3
    injection e1 with e1
    injection e1 with e1
    subst e1 e3
    exact ⟨⟨cur, hh, h3, by rw [hn]; exact h4, by omega⟩, hg⟩

set_option maxRecDepth 100000 in
theorem clone_calls {w : World} {A : Option Addr} {n cap : Nat} {ts : List Tg} (hn : ts.length = n) (hA : Tags w A ts) (hz : n ≤ 1000) :
    Calls Try.prog 31 #[.slice A n cap] w fun e w' => Below w.heap.size w w' ∧ ((e = .returned (.slice none 0 0) ∧ ts = []) ∨ ∃ g cap', e = .returned (.slice (some ⟨g, 0, none⟩) n cap') ∧ RowT w' g cap' ts ∧ w.heap.size ≤ g) := by
  have hq := Lib.run_eql_slice_nil (P := Try.prog)
  rcases A with _ | ad
  · have h0 := tags_nil_of hA
    subst h0
    obtain rfl : 0 = n := hn
    clear hA
    go_enter Try.func31, Try.ntmps31
    go_wp2_with fail
    go_ret
    exact ⟨Below.refl _ _, .inl ⟨rfl, by trivial⟩⟩
  · have HA := Lib.hid (And.intro hn hA)
    clear hn hA
    go_enter Try.func31, Try.ntmps31
    go_wp2_with (first | (at_builtin; refine wpList_append_tags _ rfl (.tmp 5) (.tmp 6) rfl w.heap.size _ 0 [] rfl (own_empty w) (some ad) n cap ts rfl HA.out.1 (HA.out.2.keep ((Below.refl _ _).alloc (Nat.le_refl _) _)) (by omega) (by simp) ?_; intro v' w' hown hgr hob))
    go_ret
    have hb : Below w.heap.size w w' := ((Below.refl _ _).alloc (Nat.le_refl _) _).grown hgr (by simp) (by intro k hk; cases hk; exact Nat.le_refl _)
    refine ⟨hb, ?_⟩
    rw [Nat.zero_add, List.nil_append] at hown
    rcases hown.2 with ⟨rfl, h⟩ | ⟨g, cp, cur, rfl, hg, hh, h1, h2, h3, h4⟩
    · refine .inl ⟨rfl, List.eq_nil_of_length_eq_zero (by rw [HA.out.1]; exact h)⟩
    · exact .inr ⟨g, cp, rfl, (own_rowT hown HA.out.1).1, hg⟩

/-- What Normal tells. -/
def NormP (w : World) (r : List Tg) (e : Ending) (w' : World) : Prop := (∃ A cap, e = .returned (.slice A r.length cap) ∧ Tags w' A r) ∧ Below w.heap.size w w'
/-- A slice that lies in new memory, if it lies anywhere. -/
def Fresh (lo : Nat) (A : Option Addr) : Prop := ∀ a, A = some a → lo ≤ a.block
theorem Fresh.low {lo lo' : Nat} {A : Option Addr} (h : Fresh lo A) (hl : lo' ≤ lo) : Fresh lo' A := fun a ha => Nat.le_trans hl (h a ha)
theorem Fresh.none_ (lo : Nat) : Fresh lo none := fun a h => by cases h
theorem Fresh.own {w : World} {base size n cap : Nat} {el : TypeId} {A : Option Addr} {xs : List Value} (h : w.ownsRow base el size (.slice A n cap) n xs) : Fresh base A := fun a ha => by
  rcases h.2 with ⟨h1, _⟩ | ⟨g, c, cur, hv, hg, _⟩
  · injection h1 with h1; rw [h1] at ha; cases ha
  · injection hv with hv; rw [hv] at ha; injection ha with ha; subst ha; exact hg
/-- The same, in new memory. -/
def NormF (w : World) (r : List Tg) (e : Ending) (w' : World) : Prop := (∃ A cap, e = .returned (.slice A r.length cap) ∧ Tags w' A r ∧ Fresh w.heap.size A) ∧ Below w.heap.size w w'
theorem NormF.p {w w' : World} {r : List Tg} {e : Ending} (h : NormF w r e w') : NormP w r e w' := by obtain ⟨⟨A, cap, h1, h2, _⟩, hb⟩ := h; exact ⟨⟨A, cap, h1, h2⟩, hb⟩

/-- These cells lie so, and nothing old has changed. -/
structure Cs (w0 : World) (L : List (Addr × Value)) (w : World) : Prop where
  kept : Below w0.heap.size w0 w
  has : ∀ x ∈ L, w.cell? x.1 = some x.2
section
variable {w0 w w' : World} {L : List (Addr × Value)}
theorem Cs.next (h : Cs w0 L w) (k : Below w.heap.size w w') : Cs w0 L w' := ⟨below_then h.kept k, fun x hx => (k.cell (cell_lt (h.has x hx))).trans (h.has x hx)⟩
theorem Cs.drew (h : Cs w0 L w) : Cs w0 L w.drew := h.next (Same.below (Same.drewN w 1))
theorem Cs.four {a b c d : Addr} {p q r s : Value} (h : Cs w0 [(a, p), (b, q), (c, r), (d, s)] w) : w.cell? a = some p ∧ w.cell? b = some q ∧ w.cell? c = some r ∧ w.cell? d = some s ∧ Cs w0 [(a, p), (b, q), (c, r), (d, s)] w :=
  ⟨h.has (a, p) (by simp), h.has (b, q) (by simp), h.has (c, r) (by simp), h.has (d, s) (by simp), h⟩
theorem Cs.of4 {P1 P2 P3 P4 : Prop} (h : P1 ∧ P2 ∧ P3 ∧ P4 ∧ Cs w0 L w) : Cs w0 L w := h.2.2.2.2
theorem Cs.mk4 {a b c d : Addr} {p q r s : Value} (h : Below w0.heap.size w0 w) (h1 : w.cell? a = some p) (h2 : w.cell? b = some q) (h3 : w.cell? c = some r) (h4 : w.cell? d = some s) : Cs w0 [(a, p), (b, q), (c, r), (d, s)] w :=
  ⟨h, fun x hx => by simp at hx; rcases hx with rfl | rfl | rfl | rfl <;> assumption⟩
end

end Go.Proofs.Yteffankkelbhiaa
