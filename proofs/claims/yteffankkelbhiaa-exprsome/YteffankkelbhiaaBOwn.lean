/-
  Rows of metrics that are made by appends, while other calls go on. No statement of the seat is proved here.
-/
import Derived.Test.YteffankkelbhiaaBRows
import Derived.Test.YteffankkelbhiaaTN0
import Derived.RangeFuncBox
namespace Go.Proofs.Yteffankkelbhiaa
open Go.RowKit
open Dc (D D0)

/-- Cells lie as they lay, but for the blocks in X. -/
structure CKept (X : Nat → Prop) (W W' : World) : Prop where
  same : ∀ (b : Nat) (o : Obj), W.heap[b]? = some o → o.isCells = true → ¬ X b → W'.heap[b]? = some o
section
variable {X Y : Nat → Prop} {W W' W2 : World} {A : Option Addr} {vs : List Value}
theorem CKept.of_below (h : Below W.heap.size W W') : CKept X W W' := ⟨fun b _ hb _ _ => (h.block b (Array.getElem?_eq_some_iff.1 hb).1).trans hb⟩
theorem CKept.of_grown {row : Option Nat} (h : W.grownBy W' row) (hX : ∀ r, row = some r → X r ∨ ∃ o : Obj, W.heap[r]? = some o ∧ o.isCells = false) : CKept X W W' := ⟨fun b o hb hc hx => (h.block b (Array.getElem?_eq_some_iff.1 hb).1 fun e => by
  rcases hX b e.symm with h1 | ⟨o', h1, h2⟩
  · exact hx h1
  · rw [hb] at h1; injection h1 with h1; subst h1; rw [hc] at h2; cases h2).trans hb⟩
theorem CKept.of_own {row : Option Nat} (h : W.grownBy W' row) (hr : ∀ r, row = some r → ∃ o : Obj, W.heap[r]? = some o ∧ o.isCells = false) : CKept X W W' := CKept.of_grown h fun r e => .inr (hr r e)
theorem CKept.of_set (q : Addr) (u : Value) (hX : X q.block) : CKept X W (W.setCell q u) := ⟨fun b _ hb _ hx => (Below.heap_setCell W q u b (fun e => hx (e ▸ hX))).trans hb⟩
theorem CKept.trans (h : CKept X W W') (k : CKept X W' W2) : CKept X W W2 := ⟨fun b o hb hc hx => k.same b o (h.same b o hb hc hx) hc hx⟩
theorem isCells_of {a : Addr} {v : Value} (h : W.cell? a = some v) : ∃ o : Obj, W.heap[a.block]? = some o ∧ o.isCells = true := by
  unfold World.cell? at h
  cases ho : W.heap[a.block]? with
  | none => rw [ho] at h; cases h
  | some o =>
    cases o with
    | cells cs t f => exact ⟨_, rfl, rfl⟩
    | _ => rw [ho] at h; cases h
theorem CKept.cell (h : CKept X W W') {a : Addr} {v : Value} (hc : W.cell? a = some v) (hx : ¬ X a.block) : W'.cell? a = some v := by
  obtain ⟨o, ho, hk⟩ := isCells_of hc
  have := h.same a.block o ho hk hx
  unfold World.cell? at hc ⊢
  rw [this]
  rw [ho] at hc
  exact hc
theorem CKept.lies (h : CKept X W W') (hl : Lies W A vs) (hx : vs ≠ [] → ∀ a, A = some a → ¬ X a.block) : Lies W' A vs := fun i u hu => by
  obtain ⟨b, off, e, hc⟩ := hl i u hu
  exact ⟨b, off, e, h.cell hc (show ¬ X b from hx (by rintro rfl; simp at hu) _ e)⟩
theorem CKept.own (h : CKept X W W') {base size n : Nat} {el : TypeId} {v : Value} (ho : W.ownsRow base el size v n vs) (hx : ∀ g, v.ownBlock = some g → ¬ X g) : W'.ownsRow base el size v n vs := by
  refine ⟨ho.1, ?_⟩
  rcases ho.2 with h2 | ⟨g, cap, cur, hv, hg, hh, r⟩
  · exact .inl h2
  · exact .inr ⟨g, cap, cur, hv, hg, h.same g _ hh rfl (hx g (by rw [hv]; rfl)), r⟩
theorem CKept.boxed (h : CKept X W W') {b : Nat} {t : TypeId} {v : Value} (hb : Boxed W b t v) (hx : ¬ X b) : Boxed W' b t v := h.same b _ hb rfl hx
theorem CKept.box (h : CKept X W W') {b : Nat} {t : TypeId} {cs : List Value} (hb : Box W b t cs) (hx : ¬ X b) : Box W' b t cs := h.same b _ hb rfl hx
end

theorem flatD_ne {ds : List D} (h : flatD ds ≠ []) : ds ≠ [] := by rintro rfl; exact h rfl
theorem flat_ne {ts : List Tg} (h : flat ts ≠ []) : ts ≠ [] := by rintro rfl; exact h rfl

/-- A metric whose rows lie in no block of X. -/
structure Off (X : Nat → Prop) (e : En) : Prop where
  a : e.m.vals ≠ [] → ∀ a, e.A = some a → ¬ X a.block
  b : e.m.tags ≠ [] → ∀ a, e.B = some a → ¬ X a.block
section
variable {X Y : Nat → Prop} {W W' W2 W3 : World} {e : En}
theorem Off.mono (h : Off X e) (hy : ∀ b, Y b → X b) : Off Y e := ⟨fun h1 a h2 h3 => h.a h1 a h2 (hy _ h3), fun h1 a h2 h3 => h.b h1 a h2 (hy _ h3)⟩
theorem CKept.mis (h : CKept X W W') (hm : MIs W e.s e.A e.n e.B e.k e.m) (ho : Off X e) : MIs W' e.s e.A e.n e.B e.k e.m :=
  ⟨hm.name, hm.vlen, h.lies hm.vals fun hne => ho.a (flatD_ne hne), hm.tlen, h.lies hm.tags fun hne => ho.b (flat_ne hne)⟩
/-- What lies lies below the end of memory. -/
theorem MIs.below_ {s : ByteArray} {A B : Option Addr} {n k : Nat} {m : Mt} (hm : MIs W s A n B k m) : (m.vals ≠ [] → ∀ a, A = some a → a.block < W.heap.size) ∧ (m.tags ≠ [] → ∀ a, B = some a → a.block < W.heap.size) := by
  constructor
  · intro hne a ha
    obtain ⟨d, ds, hd⟩ := List.exists_cons_of_ne_nil hne
    obtain ⟨b, off, e, hc⟩ := hm.vals 0 (.bool d.neg) (by rw [hd]; rfl)
    rw [ha] at e
    injection e with e
    subst e
    exact cell_lt hc
  · intro hne a ha
    obtain ⟨t, ts, ht⟩ := List.exists_cons_of_ne_nil hne
    obtain ⟨b, off, e, hc⟩ := hm.tags 0 (.string ⟨t.1.toArray⟩) (by rw [ht]; rfl)
    rw [ha] at e
    injection e with e
    subst e
    exact cell_lt hc
theorem Off.high (hm : MIs W e.s e.A e.n e.B e.k e.m) (hX : ∀ b, X b → W.heap.size ≤ b) : Off X e :=
  ⟨fun hne a ha hx => by have := hm.below_.1 hne a ha; have := hX _ hx; omega, fun hne a ha hx => by have := hm.below_.2 hne a ha; have := hX _ hx; omega⟩
theorem Off.fresh {lo : Nat} (hA : Fresh lo e.A) (hB : Fresh lo e.B) (hX : ∀ b, X b → b < lo) : Off X e :=
  ⟨fun _ a ha hx => by have := hA a ha; have := hX _ hx; omega, fun _ a ha hx => by have := hB a ha; have := hX _ hx; omega⟩
theorem Off.or (h : Off X e) (k : Off Y e) : Off (fun b => X b ∨ Y b) e := ⟨fun h1 a h2 h3 => h3.elim (h.a h1 a h2) (k.a h1 a h2), fun h1 a h2 h3 => h3.elim (h.b h1 a h2) (k.b h1 a h2)⟩

/-- A row of metrics of our own. X: blocks that it has nothing to do with. -/
structure RowM (X : Nat → Prop) (W : World) (base : Nat) (v : Value) (n : Nat) (fs : List En) : Prop where
  own : W.ownsRow base 25 6 v n (flatM fs)
  met : ∀ e ∈ fs, MIs W e.s e.A e.n e.B e.k e.m
  off : ∀ e ∈ fs, Off (fun b => X b ∨ v.ownBlock = some b) e
  blk : ∀ g, v.ownBlock = some g → ¬ X g
section
variable {base n : Nat} {v v' : Value} {fs gs : List En}
theorem RowM.kept (h : RowM X W base v n fs) (k : CKept X W W') : RowM X W' base v n fs :=
  ⟨k.own h.own h.blk, fun e he => k.mis (h.met e he) ((h.off e he).mono fun _ => .inl), h.off, h.blk⟩
theorem RowM.keep (h : RowM X W base v n fs) (hb : Below W.heap.size W W') : RowM X W' base v n fs := h.kept (CKept.of_below hb)
theorem RowM.mets {A : Option Addr} {cap : Nat} (h : RowM X W base (.slice A n cap) n fs) : Mets W A fs := Mets.of_own h.own h.met
theorem RowM.len (h : RowM X W base v n fs) : fs.length = n := own_lenM h.own
theorem RowM.lt (h : RowM X W base v n fs) : ∀ g, v.ownBlock = some g → base ≤ g ∧ g < W.heap.size := h.own.lt
theorem RowM.nil (base : Nat) : RowM X W base (.slice none 0 0) 0 [] := ⟨⟨rfl, .inl ⟨rfl, rfl⟩⟩, by simp, by simp, fun g h => by cases h⟩
theorem RowM.empty {cap : Nat} (hX : ¬ X W.heap.size) (hcap : cap = 0) : RowM X (W.alloc (.cells #[] 25)) W.heap.size (.slice (some ⟨W.heap.size, 0, none⟩) 0 cap) 0 [] := by
  subst hcap
  exact ⟨⟨rfl, .inr ⟨W.heap.size, 0, #[], rfl, Nat.le_refl _, Box.new W 25 [], by omega, by unfold maxLen; omega, rfl, rfl⟩⟩, by simp, by simp, fun g h => by injection h with h; subst h; exact hX⟩
theorem RowM.sl (h : RowM X W base v n fs) : ∃ A cap, v = .slice A n cap ∧ n ≤ cap ∧ cap ≤ maxLen := by
  obtain ⟨A, cap, e, h1, h2, _⟩ := own_slice h.own
  exact ⟨A, cap, e, h1, h2⟩
/-- Metrics are appended. -/
theorem RowM.push {m : Nat} (h : RowM X W base v n fs) (hk : CKept (fun b => X b ∨ v.ownBlock = some b) W W2)
    (he : ∀ e ∈ gs, MIs W2 e.s e.A e.n e.B e.k e.m) (ho : ∀ e ∈ gs, Off (fun b => X b ∨ v.ownBlock = some b) e)
    (hg : W2.grownBy W3 v.ownBlock) (hob : v'.ownBlock = v.ownBlock ∨ v'.ownBlock = some W2.heap.size) (hX : ∀ b, X b → b < W2.heap.size)
    (hown : W3.ownsRow base 25 6 v' (n + m) (flatM fs ++ flatM gs)) : RowM X W3 base v' (n + m) (fs ++ gs) := by
  have all2 : ∀ e ∈ fs ++ gs, MIs W2 e.s e.A e.n e.B e.k e.m ∧ Off (fun b => X b ∨ v.ownBlock = some b) e := by
    intro e hm
    rcases List.mem_append.1 hm with hm | hm
    · exact ⟨hk.mis (h.met e hm) (h.off e hm), h.off e hm⟩
    · exact ⟨he e hm, ho e hm⟩
  have k3 : CKept (fun b => X b ∨ v.ownBlock = some b) W2 W3 := CKept.of_grown hg fun r e => .inl (.inr e)
  refine ⟨by rw [flatM_append]; exact hown, fun e hm => k3.mis (all2 e hm).1 (all2 e hm).2, fun e hm => ?_, fun g hg' hx => ?_⟩
  · rcases hob with hob | hob
    · rw [hob]; exact (all2 e hm).2
    · rw [hob]
      exact ((all2 e hm).2.mono fun b hb => .inl hb).or (Off.high (all2 e hm).1 fun b hb => by injection hb with hb; omega)
  · rcases hob with hob | hob
    · exact h.blk g (hob ▸ hg') hx
    · rw [hob] at hg'
      injection hg' with hg'
      have := hX g hx
      omega
end
end
/-- A metric that was laid in a block of its own. -/
theorem lies_at {w : World} {n : Nat} (hn : w.heap.size = n) (e : En) : Lies (w.alloc (.cells #[.string e.s, .int .i64 e.m.kind, .slice e.A e.n e.ca, .int .i64 e.m.rate, .slice e.B e.k e.cb, .int .i64 e.m.time] 25)) (some ⟨n, 0, none⟩) (encM e) := by
  subst hn
  intro i u hu
  have := (Box.new w 25 (encM e)).cell i
  exact ⟨w.heap.size, 0, rfl, by rw [Nat.zero_add]; exact this.trans hu⟩
end Go.Proofs.Yteffankkelbhiaa
