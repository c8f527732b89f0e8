/-
  batch.Clone: a batch whose rows are its own. No statement of the seat is proved here.
-/
import Derived.Test.YteffankkelbhiaaBNm0
import Derived.Test.YteffankkelbhiaaMClone
import Derived.OwnWalk
namespace Go.Proofs.Yteffankkelbhiaa
open Go.RowKit Go.Shelf
open Dc (D D0)

attribute [local go_sem] Oper.semAt_some

theorem own_types2 {W : World} {el el' : TypeId} {n' size' base' n size base g : Nat} {v v' : Value} {xs xs' : List Value} (h : W.ownsRow base el size v n xs) (h' : W.ownsRow base' el' size' v' n' xs') (hne : el ≠ el') (hg : v.ownBlock = some g) : v'.ownBlock ≠ some g := fun hg' => by
  rcases h.2 with ⟨rfl, _⟩ | ⟨g1, c, cur, rfl, _, hh, _⟩
  · cases hg
  rcases h'.2 with ⟨rfl, _⟩ | ⟨g2, c', cur', rfl, _, hh', _⟩
  · cases hg'
  injection hg with hg
  injection hg' with hg'
  have e1 : g1 = g := hg
  have e2 : g2 = g := hg'
  subst e1
  subst e2
  rw [hh] at hh'
  injection hh' with hh'
  injection hh' with _ h3
  exact hne h3

/-- Metrics whose rows are new. -/
structure Owns (base : Nat) (W : World) (v : Value) (n : Nat) (cs : List En) : Prop where
  own : W.ownsRow base 25 6 v n (flatM cs)
  ent : ∀ e ∈ cs, OwnM base W e.s e.A e.n e.ca e.B e.k e.cb e.m
section
variable {base n : Nat} {W W' W2 W3 : World} {v v' : Value} {cs : List En} {e : En}
theorem Owns.kept (h : Owns base W v n cs) (hk : CKept (fun _ => False) W W') : Owns base W' v n cs :=
  ⟨hk.own h.own fun _ _ => id, fun e he => ⟨(h.ent e he).name, hk.own (h.ent e he).vals fun _ _ => id, hk.own (h.ent e he).tags fun _ _ => id⟩⟩
theorem Owns.keep (h : Owns base W v n cs) (hb : Below W.heap.size W W') : Owns base W' v n cs := h.kept (CKept.of_below hb)
theorem Owns.mets {A : Option Addr} {cap : Nat} (h : Owns base W (.slice A n cap) n cs) : Mets W A cs := Mets.of_own h.own fun e he => (h.ent e he).mis
/-- Writing into a block that is of no row's kind. -/
theorem Owns.put (h : Owns base W v n cs) {b : Nat} {t : TypeId} {u : Value} (hb : Boxed W b t u) (h1 : t ≠ 25) (h2 : t ≠ 45) (h3 : t ≠ 47) (x : Value) : Owns base (W.setCell ⟨b, 0, none⟩ x) v n cs := by
  have hk : CKept (fun y => y = b) W (W.setCell ⟨b, 0, none⟩ x) := CKept.of_set _ _ rfl
  exact ⟨hk.own h.own fun g hg e => Boxed.not_row hb h1 h.own (by rw [hg, e]), fun y hy => ⟨(h.ent y hy).name, hk.own (h.ent y hy).vals fun g hg e => Boxed.not_row hb h2 (h.ent y hy).vals (by rw [hg, e]), hk.own (h.ent y hy).tags fun g hg e => Boxed.not_row hb h3 (h.ent y hy).tags (by rw [hg, e])⟩⟩
/-- A metric is appended. -/
theorem Owns.push (h : Owns base W2 v n cs) (he : OwnM base W2 e.s e.A e.n e.ca e.B e.k e.cb e.m) (hg : W2.grownBy W3 v.ownBlock) (ho : W3.ownsRow base 25 6 v' (n + 1) (flatM cs ++ encM e)) : Owns base W3 v' (n + 1) (cs ++ [e]) := by
  have hk : CKept (fun b => v.ownBlock = some b) W2 W3 := CKept.of_grown hg fun r e => .inl e
  have old : ∀ x : En, OwnM base W2 x.s x.A x.n x.ca x.B x.k x.cb x.m → OwnM base W3 x.s x.A x.n x.ca x.B x.k x.cb x.m := fun x hx =>
    ⟨hx.name, hk.own hx.vals fun g hg' hv => own_types2 h.own hx.vals (by decide) hv hg', hk.own hx.tags fun g hg' hv => own_types2 h.own hx.tags (by decide) hv hg'⟩
  refine ⟨by rw [flatM_append, flatM_one]; exact ho, fun x hx => ?_⟩
  rcases List.mem_append.1 hx with hx | hx
  · exact old x (h.ent x hx)
  · rcases List.mem_singleton.1 hx with rfl
    exact old _ he
end

/-- What a round of Clone may know. -/
structure ClI (es : List En) (n0 bx : Nat) (pre : List (It es)) (W : World) : Prop where
  row : ∃ v cs, Boxed W bx 33 v ∧ Owns n0 W v pre.length cs ∧ datM cs = pre.map fun y => y.1.2.m
  size : bx + 2 ≤ W.heap.size
theorem clI_own {es : List En} {n0 bx B : Nat} : OwnFrom B (ClI es n0 bx) := fun s W W' row hs hg hr => by
  obtain ⟨⟨v, cs, h1, h2, h3⟩, h4⟩ := hs
  have hk : CKept (fun _ => False) W W' := CKept.of_own hg fun r e => (hr r e).2
  exact ⟨⟨v, cs, hk.boxed h1 id, h2.kept hk, h3⟩, Nat.le_trans h4 hg.size⟩

/-- An append as a step of a region that draws its order, inside a fence. -/
theorem stepIn_append_rows {F : Fence} {nF : Nat} (w : World) {sl el : TypeId} {z : Value} {size bytes : Nat} (T : RowTy sl el z size bytes) {ops : Array Oper} {o : Oper} {a : Act} {K : Act → World → Prop} {Q : Exit → Act → World → Prop} {E : Prop} (hgd : o.guard = none) (s x : Operand)
    (ho : o.op = .call { callee := .builtin .append, args := #[s, x], argTypes := #[sl, sl] })
    (base : Nat) (v : Value) (n : Nat) (xs : List Value) (hs : a.eval s = v) (hown : w.ownsRow base el size v n xs)
    (A : Option Addr) (m c : Nat) (ys : List Value) (hx : a.eval x = .slice A m c) (hl : ys.length = m * size) (hv : Lies w A ys) (h1 : ∀ u ∈ ys, u.oneCell' = true)
    (hfit : n + m ≤ 1000000) (hbase : base ≤ w.heap.size)
    (h : ∀ v' w', w'.ownsRow base el size v' (n + m) (xs ++ ys) → w.grownBy w' v.ownBlock → (v'.ownBlock = v.ownBlock ∨ v'.ownBlock = some w.heap.size) → K (a.put o.dst v') w') :
    if Region.wanted o (yielded ops a.tmps) = true then Oper.wpIn F nF Try.prog o a w K Q else E := by
  have hw : Region.wanted o (yielded ops a.tmps) = true := by simp [Region.wanted, hgd]
  rw [if_pos hw]
  obtain ⟨v', w', hr, h2, h3, h4⟩ := run_append_rows w T base o.type v n xs hown A m c ys hl hv h1 hfit hbase
  unfold Oper.wpIn
  refine ⟨by simp [Oper.about, ho, resolve, Target.leads, Sem.run_pure], ?_⟩
  rw [Oper.semAt_plain F _ _ (by rw [ho]; intro c hc'; cases hc')]
  simp [execOp, ho, resolve, invoke, builtin, hs, hx, hr, Result.andThen]
  exact h v' w' h2 h3 h4

/-- A round's end. -/
theorem clone_end {es : List En} {w W W0 w2 w3 : World} {bx : Nat} {pre : List (It es)} {x : It es} {Av A1 B1 A3 : Option Addr} {cv ca1 cb1 c3 : Nat} {cs : List En} {a : Act} (hsz : W0.heap.size = bx + 2) (hlo : w.heap.size ≤ bx)
    (k1 : Boxed W bx 33 (.slice Av pre.length cv)) (k2 : Owns w.heap.size W (.slice Av pre.length cv) pre.length cs) (k3 : datM cs = pre.map fun y => y.1.2.m) (k4 : bx + 2 ≤ W.heap.size) (hB : Below w.heap.size w W)
    (ho : OwnM W.drew.heap.size w2 x.1.2.s A1 x.1.2.n ca1 B1 x.1.2.k cb1 x.1.2.m) (hb : Below W.heap.size W w2)
    (hown : w3.ownsRow w.heap.size 25 6 (.slice A3 (pre.length + 1) c3) (pre.length + 1) (flatM cs ++ encM ⟨x.1.2.s, A1, x.1.2.n, ca1, B1, x.1.2.k, cb1, x.1.2.m⟩))
    (hgr : (w2.alloc (.cells #[.string x.1.2.s, .int .i64 x.1.2.m.kind, .slice A1 x.1.2.n ca1, .int .i64 x.1.2.m.rate, .slice B1 x.1.2.k cb1, .int .i64 x.1.2.m.time] 25)).grownBy w3 (Value.slice Av pre.length cv).ownBlock) (hx3 : Boxed w3 bx 33 (.slice Av pre.length cv)) :
    ownPostG W0.heap.size (Below w.heap.size) (fun pre W => ClI es w.heap.size bx pre W ∧ Below w.heap.size w W) (fun _ _ _ => False) (pre ++ [x]) W .normal a (w3.setCell ⟨bx, 0, none⟩ (.slice A3 (pre.length + 1) c3)) := by
  have hB2 := hb.mono hB.size
  have hrow := own_keep k2.own (below_then hb (m_below w2 (.cells #[.string x.1.2.s, .int .i64 x.1.2.m.kind, .slice A1 x.1.2.n ca1, .int .i64 x.1.2.m.rate, .slice B1 x.1.2.k cb1, .int .i64 x.1.2.m.time] 25)))
  have BL : Below w.heap.size W (w3.setCell ⟨bx, 0, none⟩ (.slice A3 (pre.length + 1) c3)) :=
    ((hB2.alloc (Nat.le_trans hB.size hb.size) _).grown hgr (by rw [World.size_alloc]; have := hB.size; have := hb.size; omega) (fun k e => (hrow.lt k e).1)).setCell (p := ⟨bx, 0, none⟩) hlo _
  have hO2 : Owns w.heap.size (w2.alloc (.cells #[.string x.1.2.s, .int .i64 x.1.2.m.kind, .slice A1 x.1.2.n ca1, .int .i64 x.1.2.m.rate, .slice B1 x.1.2.k cb1, .int .i64 x.1.2.m.time] 25)) (.slice Av pre.length cv) pre.length cs := k2.keep (below_then hb (m_below _ _))
  have hp := hO2.push (e := ⟨x.1.2.s, A1, x.1.2.n, ca1, B1, x.1.2.k, cb1, x.1.2.m⟩) ((ho.keep (m_below _ _)).low (by show w.heap.size ≤ W.heap.size; exact hB.size)) hgr hown
  refine ⟨(((KeepsX.of_below (B := 0) hb).from (Nat.zero_le _)).trans (((KeepsOthers.alloc _ _).trans (KeepsOthers.of_grownBy hgr (fun j o e ho' => ?_))).from _)).trans ((KeepsOthers.setCell _ _ _).from _), BL, ⟨⟨_, cs ++ [⟨x.1.2.s, A1, x.1.2.n, ca1, B1, x.1.2.k, cb1, x.1.2.m⟩], hx3.set _, ?_, ?_⟩, Nat.le_trans k4 BL.size⟩, hB.trans BL⟩
  · rcases hrow.2 with ⟨e1, _⟩ | ⟨g', cap, cur, e1, _, hh, _⟩
    · rw [e1] at e; cases e
    · rw [e1] at e
      injection e with e
      have e : g' = j := e
      subst e
      rw [hh] at ho'
      injection ho' with ho'
      subst ho'
      rfl
  · rw [List.length_append]
    exact hp.put hx3 (by decide) (by decide) (by decide) _
  · unfold datM at k3 ⊢
    rw [List.map_append, k3, List.map_append]; rfl

end Go.Proofs.Yteffankkelbhiaa
