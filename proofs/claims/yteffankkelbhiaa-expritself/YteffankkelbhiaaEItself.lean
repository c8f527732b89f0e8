/-
  What ExprItself leans on: what is cut is written into, metric by metric. No statement of the seat is proved here.
-/
import Derived.Test.YteffankkelbhiaaECut
import Derived.Test.YteffankkelbhiaaEBatch
import Derived.Test.YteffankkelbhiaaHeld
namespace Go.Proofs.Yteffankkelbhiaa
open Go.RowKit
open Dc (D D0)

theorem batchE_all {f : Int} (hk : known f = true) {ms : List Mt} (hl : ms.length ≤ 1000) (h1 : ∀ x ∈ ms, checkM x = 0) (h2 : ∀ x ∈ ms, saysM x f = true) : batchE ms f = (0, 0) := by
  have e1 : fwB checkM ms = (0, 0) := by unfold fwB; rw [if_neg (by omega)]; exact fw_all h1
  unfold batchE
  rw [hk, if_neg (by decide), e1, if_neg (by decide)]
  exact fw_all fun x hx => by unfold cannot; rw [h2 x hx]; rfl
theorem cutR_all {m : Mt} {f : Int} (hc : checkM m = 0) : ∀ x ∈ cutR m f, checkM x = 0 ∧ saysM x f = true ∧ x.name = m.name ∧ x.kind = m.kind ∧ x.rate = m.rate := by
  intro x hx
  unfold cutR at hx
  split at hx
  · exact ⟨cutL_check hc x hx, cutL_all x hx, cutL_same x hx⟩
  · cases hx

theorem lies_far {W : World} {A : Option Addr} {b i : Nat} {vs : List Value} (h : Lies W A vs) (hA : ∀ a, A = some a → a.block ≠ b) (u : Value) : Lies (W.setCell ⟨b, i, none⟩ u) A vs := fun j v hv => by
  obtain ⟨b', off', e, hc⟩ := h j v hv
  exact ⟨b', off', e, (World.cell?_setCell_far _ _ _ _ (fun e1 => hA _ e e1.symm)).trans hc⟩
theorem MIs.far {W : World} {s : ByteArray} {A B : Option Addr} {n k : Nat} {m : Mt} (h : MIs W s A n B k m) {b i : Nat} (hA : ∀ a, A = some a → a.block ≠ b) (hB : ∀ a, B = some a → a.block ≠ b) (u : Value) : MIs (W.setCell ⟨b, i, none⟩ u) s A n B k m :=
  ⟨h.name, h.vlen, lies_far h.vals hA u, h.tlen, lies_far h.tags hB u⟩

/-- No two of them share memory. -/
structure Sep (cs : List En) : Prop where
  two : ∀ (j j' : Nat) e e', cs[j]? = some e → cs[j']? = some e' → j ≠ j' → (∀ a a', e.A = some a → e'.A = some a' → a'.block ≠ a.block) ∧ (∀ a a', e.B = some a → e'.B = some a' → a'.block ≠ a.block)
  mix : ∀ e ∈ cs, ∀ e' ∈ cs, ∀ a a', e.A = some a → e'.B = some a' → a.block ≠ a'.block
/-- What was cut, whose first metrics are spoilt. W1: ahead of it. -/
structure ItI (W1 : World) (g : Nat) (cs : List En) (i : Nat) (W : World) : Prop where
  kept : Below W1.heap.size W1 W
  row : ∀ (j : Nat) u, (flatM cs)[j]? = some u → W.cell? ⟨g, j, none⟩ = some u
  rest : ∀ (j : Nat) e, cs[j]? = some e → i ≤ j → MIs W e.s e.A e.n e.B e.k e.m
  vals : ∀ e ∈ cs, ∀ a, e.A = some a → a = ⟨a.block, 0, none⟩ ∧ W1.heap.size ≤ a.block ∧ a.block ≠ g ∧ Held W a.block (e.ca * 3)
  tags : ∀ e ∈ cs, ∀ a, e.B = some a → a = ⟨a.block, 0, none⟩ ∧ W1.heap.size ≤ a.block ∧ a.block ≠ g ∧ Held W a.block (e.cb * 2)
  room : ∀ e ∈ cs, (e.A = none → e.n = 0) ∧ (e.B = none → e.k = 0) ∧ e.n ≤ e.ca ∧ e.k ≤ e.cb
  sep : Sep cs
section
variable {W1 W W' : World} {g n i : Nat} {cs : List En}
theorem Cuts.sep {base : Nat} {v : Value} (h : Cuts base W v n cs) : Sep cs := by
  refine ⟨fun j j' e e' he he' hj => ?_, fun e he e' he' a a' ha hb => ?_⟩
  · obtain ⟨l1, e1⟩ := List.getElem?_eq_some_iff.1 he
    obtain ⟨l2, e2⟩ := List.getElem?_eq_some_iff.1 he'
    rcases Nat.lt_or_gt_of_ne hj with hlt | hlt
    · have ap := (List.pairwise_iff_getElem.1 h.apart) j j' l1 l2 hlt
      rw [e1, e2] at ap
      refine ⟨fun a a' ha ha' e3 => ?_, fun a a' ha ha' e3 => ?_⟩
      · exact ap.1 a.block (by unfold blkA; rw [ha]; rfl) (by unfold blkA; rw [ha', ← e3]; rfl)
      · exact ap.2 a.block (by unfold blkB; rw [ha]; rfl) (by unfold blkB; rw [ha', ← e3]; rfl)
    · have ap := (List.pairwise_iff_getElem.1 h.apart) j' j l2 l1 hlt
      rw [e1, e2] at ap
      refine ⟨fun a a' ha ha' e3 => ?_, fun a a' ha ha' e3 => ?_⟩
      · exact ap.1 a.block (by unfold blkA; rw [ha', ← e3]; rfl) (by unfold blkA; rw [ha]; rfl)
      · exact ap.2 a.block (by unfold blkB; rw [ha', ← e3]; rfl) (by unfold blkB; rw [ha]; rfl)
  · have o1 := (h.owns.ent e he).vals
    have o2 := (h.owns.ent e' he').tags
    rw [ha] at o1
    rw [hb] at o2
    exact fun e3 => own_types2 o1 o2 (by decide) (g := a.block) rfl (by rw [e3]; rfl)
theorem ItI.mk_ {C : Option Addr} {c : Nat} (hc : Cuts W1.heap.size W (.slice C n c) n cs) (hb : Below W1.heap.size W1 W) : ∃ g, (cs ≠ [] → C = some ⟨g, 0, none⟩) ∧ ItI W1 g cs 0 W := by
  have ho := hc.owns
  have hroom : ∀ e ∈ cs, (e.A = none → e.n = 0) ∧ (e.B = none → e.k = 0) ∧ e.n ≤ e.ca ∧ e.k ≤ e.cb := fun e he => by
    refine ⟨fun hA => own_none (hA ▸ (ho.ent e he).vals), fun hB => own_none (hB ▸ (ho.ent e he).tags), ?_, ?_⟩
    · obtain ⟨_, _, e1, h1, _⟩ := own_slice (ho.ent e he).vals
      injection e1 with _ _ e1
      omega
    · obtain ⟨_, _, e1, h1, _⟩ := own_slice (ho.ent e he).tags
      injection e1 with _ _ e1
      omega
  have hrest : ∀ (j : Nat) e, cs[j]? = some e → 0 ≤ j → MIs W e.s e.A e.n e.B e.k e.m := fun j e he _ => (ho.ent e (List.mem_of_getElem? he)).mis
  cases C with
  | none =>
    have h0 : cs = [] := List.eq_nil_of_length_eq_zero (by rw [own_lenM ho.own]; exact own_none ho.own)
    subst h0
    exact ⟨0, fun h => absurd rfl h, hb, fun j u hu => by simp [flatM] at hu, hrest, by simp, by simp, hroom, hc.sep⟩
  | some ad =>
    obtain ⟨h1, h2, h3, _⟩ := held_of ho.own
    obtain ⟨g, off, sp⟩ := ad
    injection h1 with _ h1 h6
    subst h1 h6
    refine ⟨g, fun _ => rfl, hb, fun j u hu => ?_, hrest, fun e he a ha => ?_, fun e he a ha => ?_, hroom, hc.sep⟩
    · obtain ⟨b, off, e1, hcell⟩ := Lies.of_own ho.own j u hu
      injection e1 with e1
      injection e1 with e1 e2
      subst e1 e2
      rw [Nat.zero_add] at hcell
      exact hcell
    · have hv := (ho.ent e he).vals
      rw [ha] at hv
      obtain ⟨k1, k2, k3, _⟩ := held_of hv
      exact ⟨k1, k2, fun e' => own_types2 hv ho.own (by decide) (g := a.block) rfl (by rw [e']; rfl), k3⟩
    · have hv := (ho.ent e he).tags
      rw [ha] at hv
      obtain ⟨k1, k2, k3, _⟩ := held_of hv
      exact ⟨k1, k2, fun e' => own_types2 hv ho.own (by decide) (g := a.block) rfl (by rw [e']; rfl), k3⟩
theorem ItI.next (h : ItI W1 g cs i W) (b : Below W.heap.size W W') : ItI W1 g cs i W' :=
  ⟨h.kept.trans (b.mono h.kept.size), fun j u hu => (b.cell (cell_lt (h.row j u hu))).trans (h.row j u hu), fun j e he hj => (h.rest j e he hj).keep b,
    fun e he a ha => let ⟨x, y, z, u⟩ := h.vals e he a ha; ⟨x, y, z, u.keep b⟩, fun e he a ha => let ⟨x, y, z, u⟩ := h.tags e he a ha; ⟨x, y, z, u.keep b⟩, h.room, h.sep⟩
theorem ItI.step (h : ItI W1 g cs i W) : ItI W1 g cs (i + 1) W := ⟨h.kept, h.row, fun j e he hj => h.rest j e he (by omega), h.vals, h.tags, h.room, h.sep⟩
theorem ItI.put (h : ItI W1 g cs i W) {b o : Nat} (h1 : W1.heap.size ≤ b) (h2 : b ≠ g) (h3 : ∀ (j : Nat) e, cs[j]? = some e → i ≤ j → (∀ a, e.A = some a → a.block ≠ b) ∧ (∀ a, e.B = some a → a.block ≠ b)) (u : Value) : ItI W1 g cs i (W.setCell ⟨b, o, none⟩ u) :=
  ⟨h.kept.setCell (p := ⟨b, o, none⟩) h1 u, fun j v hv => (World.cell?_setCell_far _ _ _ _ h2).trans (h.row j v hv), fun j e he hj => (h.rest j e he hj).far (h3 j e he hj).1 (h3 j e he hj).2 u,
    fun e he a ha => let ⟨x, y, z, v⟩ := h.vals e he a ha; ⟨x, y, z, held_put v u⟩, fun e he a ha => let ⟨x, y, z, v⟩ := h.tags e he a ha; ⟨x, y, z, held_put v u⟩, h.room, h.sep⟩
/-- The blocks of a metric are none of those behind it. -/
theorem ItI.offA (h : ItI W1 g cs i W) {j : Nat} {x : En} (hx : cs[j]? = some x) {a : Addr} (ha : x.A = some a) : ∀ (j' : Nat) e, cs[j']? = some e → j + 1 ≤ j' → (∀ a', e.A = some a' → a'.block ≠ a.block) ∧ (∀ a', e.B = some a' → a'.block ≠ a.block) := fun j' e he hj =>
  ⟨fun a' ha' => (h.sep.two j j' x e hx he (by omega)).1 a a' ha ha', fun a' ha' e' => h.sep.mix x (List.mem_of_getElem? hx) e (List.mem_of_getElem? he) a a' ha ha' e'.symm⟩
theorem ItI.offB (h : ItI W1 g cs i W) {j : Nat} {x : En} (hx : cs[j]? = some x) {a : Addr} (ha : x.B = some a) : ∀ (j' : Nat) e, cs[j']? = some e → j + 1 ≤ j' → (∀ a', e.A = some a' → a'.block ≠ a.block) ∧ (∀ a', e.B = some a' → a'.block ≠ a.block) := fun j' e he hj =>
  ⟨fun a' ha' => h.sep.mix e (List.mem_of_getElem? he) x (List.mem_of_getElem? hx) a' a ha' ha, fun a' ha' => (h.sep.two j j' x e hx he (by omega)).2 a a' ha ha'⟩
/-- The cells of a metric in the row. -/
theorem ItI.six (h : ItI W1 g cs i W) {j : Nat} {x : En} (hx : cs[j]? = some x) : W.cell? ⟨g, j * 6, none⟩ = some (.string x.s) ∧ W.cell? ⟨g, j * 6 + 1, none⟩ = some (.int .i64 x.m.kind) ∧ W.cell? ⟨g, j * 6 + 2, none⟩ = some (.slice x.A x.n x.ca) ∧ W.cell? ⟨g, j * 6 + 3, none⟩ = some (.int .i64 x.m.rate) ∧ W.cell? ⟨g, j * 6 + 4, none⟩ = some (.slice x.B x.k x.cb) ∧ W.cell? ⟨g, j * 6 + 5, none⟩ = some (.int .i64 x.m.time) :=
  ⟨h.row (j * 6 + 0) _ ((flatM_get hx (by omega)).trans rfl), h.row (j * 6 + 1) _ ((flatM_get hx (by omega)).trans rfl), h.row (j * 6 + 2) _ ((flatM_get hx (by omega)).trans rfl), h.row (j * 6 + 3) _ ((flatM_get hx (by omega)).trans rfl), h.row (j * 6 + 4) _ ((flatM_get hx (by omega)).trans rfl), h.row (j * 6 + 5) _ ((flatM_get hx (by omega)).trans rfl)⟩
end
end Go.Proofs.Yteffankkelbhiaa
