/-
  What MetricTags leans on: tags and values in another order; rows that are written into. No statement of the seat is proved here.
-/
import Derived.Test.YtikdolgcdkmmaaaMOwn
import Derived.Still
namespace Go.Proofs.Ytikdolgcdkmmaaa
open Go.RowKit
open Dc (D D0)

/-- Two places of a list changed for one another. -/
def swp {α : Type} (l : List α) (a b : Nat) (x y : α) : List α := (l.set a y).set b x
theorem swp_length {α : Type} (l : List α) (a b : Nat) (x y : α) : (swp l a b x y).length = l.length := by simp [swp]
theorem swp_mem {α : Type} {l : List α} {a b : Nat} (ha : a < l.length) (hb : b < l.length) (z : α) : z ∈ swp l a b l[a] l[b] ↔ z ∈ l := by
  unfold swp
  constructor
  · intro h
    rcases List.mem_or_eq_of_mem_set h with h | rfl
    · rcases List.mem_or_eq_of_mem_set h with h | rfl
      · exact h
      · exact List.getElem_mem _
    · exact List.getElem_mem _
  · intro h
    obtain ⟨i, hi, rfl⟩ := List.mem_iff_getElem.1 h
    refine List.mem_iff_getElem.2 ?_
    by_cases e1 : i = a
    · subst e1
      exact ⟨b, by simpa using hb, by simp⟩
    · by_cases e2 : i = b
      · subst e2
        refine ⟨a, by simpa using ha, ?_⟩
        rw [List.getElem_set_ne (by omega), List.getElem_set_self]
      · refine ⟨i, by simpa using hi, ?_⟩
        rw [List.getElem_set_ne (by omega), List.getElem_set_ne (by omega)]
theorem swp_map {α β : Type} (f : α → β) (l : List α) (a b : Nat) (x y : α) : (swp l a b x y).map f = swp (l.map f) a b (f x) (f y) := by
  unfold swp; rw [List.map_set, List.map_set]
theorem swp_eq {α : Type} {l : List α} {a b : Nat} (ha : a < l.length) (hb : b < l.length) : swp l a b l[a] l[b] = l ↔ l[a] = l[b] := by
  unfold swp
  constructor
  · intro h
    have h1 : ((l.set a l[b]).set b l[a])[b]? = l[b]? := by rw [h]
    rw [List.getElem?_set_self (by simpa using hb), List.getElem?_eq_getElem hb] at h1
    injection h1
  · intro h
    rw [← h, List.set_getElem_self, h, List.set_getElem_self]

theorem tags_code {m : Mt} {ts : List Tg} (hm : ∀ t, t ∈ ts ↔ t ∈ m.tags) (hl : ts.length ≤ 32 ∨ ts.length ≤ m.tags.length) (vs : List D) (hv : hasN vs = hasN m.vals) (hvl : vs.length = m.vals.length) (hc : codeM m = 0) : codeM { m with vals := vs, tags := ts } = 0 := by
  have := restM_zero.1 hc
  refine restM_zero.2 ⟨this.1, this.2.1, by show valsR (hasN vs) vs.length = true; rw [hv, hvl]; exact this.2.2.1, this.2.2.2.1, ?_, this.2.2.2.2.2⟩
  have ht := this.2.2.2.2.1
  unfold tagsR at ht ⊢
  rw [Bool.and_eq_true, decide_eq_true_eq] at ht ⊢
  refine ⟨by show ts.length ≤ 32; omega, ?_⟩
  rw [List.all_eq_true]
  intro t h
  exact List.all_eq_true.1 ht.2 t ((hm t).1 h)
/-- In which order tags come, and how often, is nothing to what is the same. -/
theorem same_tags {m : Mt} {ts : List Tg} (hm : ∀ t, t ∈ ts ↔ t ∈ m.tags) (hl : ts.length ≤ 32 ∨ ts.length ≤ m.tags.length) : sameM m { m with tags := ts } = decide (codeM m = 0) := by
  by_cases hc : codeM m = 0
  · have hc' : codeM { m with tags := ts } = 0 := tags_code hm hl m.vals rfl rfl hc
    unfold sameM
    rw [decide_eq_true hc, decide_eq_true hc', nM_ok hc, nM_ok hc']
    have : formM { m with tags := ts } = formM m := by unfold formM; simp only [norm_same hm]
    rw [this]; simp
  · rw [decide_eq_false hc]; exact sameM_no hc
theorem hasN_one {m : Mt} (h : hasN m.vals = true) {d : D} (hd : d ∈ m.vals) : hasN [d] = true := by
  unfold hasN at *
  simp only [List.all_cons, List.all_nil, Bool.and_true]
  exact List.all_eq_true.1 h d hd
theorem code_one {m : Mt} (h : codeM m = 0) {d : D} (hd : d ∈ m.vals) : codeM (oneM m d) = 0 := by
  have := restM_zero.1 h
  refine restM_zero.2 ⟨this.1, this.2.1, ?_, this.2.2.2⟩
  show valsR (hasN [d]) 1 = true
  rw [hasN_one (valsR_ok this.2.2.1).1 hd]; decide
theorem hasN_swp {vs : List D} {a b : Nat} (ha : a < vs.length) (hb : b < vs.length) : hasN (swp vs a b vs[a] vs[b]) = hasN vs := by
  unfold hasN
  rw [Bool.eq_iff_iff, List.all_eq_true, List.all_eq_true]
  exact ⟨fun h d hd => h d ((swp_mem ha hb d).2 hd), fun h d hd => h d ((swp_mem ha hb d).1 hd)⟩
/-- Values in another order are something, but if these are the same. -/
theorem same_vals {m : Mt} (hc : codeM m = 0) {ts : List Tg} (hm : ∀ t, t ∈ ts ↔ t ∈ m.tags) (hl : ts.length ≤ 32 ∨ ts.length ≤ m.tags.length) {a b : Nat} (ha : a < m.vals.length) (hb : b < m.vals.length) :
    sameM m { m with vals := swp m.vals a b m.vals[a] m.vals[b], tags := ts } = sameM (oneM m m.vals[a]) (oneM m m.vals[b]) := by
  have hc' : codeM { m with vals := swp m.vals a b m.vals[a] m.vals[b], tags := ts } = 0 := tags_code hm hl _ (hasN_swp ha hb) (swp_length _ _ _ _ _) hc
  have ca := code_one hc (List.getElem_mem ha)
  have cb := code_one hc (List.getElem_mem hb)
  unfold sameM
  rw [decide_eq_true hc, decide_eq_true hc', decide_eq_true ca, decide_eq_true cb, nM_ok hc, nM_ok hc', nM_ok ca, nM_ok cb]
  simp only [Bool.true_and, decide_eq_decide]
  unfold formM oneM
  simp only [Mt.mk.injEq, true_and, and_true, norm_same hm, List.map_cons, List.map_nil, List.cons.injEq]
  have la : a < (m.vals.map form).length := by simpa using ha
  have lb : b < (m.vals.map form).length := by simpa using hb
  have := swp_eq la lb
  rw [List.getElem_map, List.getElem_map] at this
  rw [swp_map]
  exact ⟨fun h => this.1 h.symm, fun h => (this.2 h).symm⟩

theorem Small.part {m : Mt} (h : Small m) {ts : List Tg} {vs : List D} (hm : ∀ t, t ∈ ts ↔ t ∈ m.tags) (hl : ts.length ≤ 200) (hv : ∀ d ∈ vs, d ∈ m.vals) (hvl : vs.length = m.vals.length) : Small { m with vals := vs, tags := ts } :=
  ⟨h.name, by show vs.length ≤ 1000; rw [hvl]; exact h.vals, fun d hd => h.fits d (hv d hd), hl, fun t ht => h.lens t ((hm t).1 ht)⟩

/-! Rows that are written into. -/
section
variable {W W' : World} {base g n cap size : Nat} {el : TypeId} {xs : List Value}
theorem own_in (h : W.ownsRow base el size (.slice (some ⟨g, 0, none⟩) n cap) n xs) (i : Nat) (u : Value) : (W.setCell ⟨g, i, none⟩ u).ownsRow base el size (.slice (some ⟨g, 0, none⟩) n cap) n (xs.set i u) := by
  refine ⟨by rw [List.length_set]; exact h.1, ?_⟩
  rcases h.2 with ⟨h1, _⟩ | ⟨g', c, cur, hv, hg, hh, h1, h2, h3, h4⟩
  · cases h1
  · injection hv with e1 _ e3
    injection e1 with e1
    injection e1 with e1
    subst e1 e3
    refine .inr ⟨g, cap, cur.setIfInBounds i u, rfl, hg, ?_, h1, h2, by simpa using h3, ?_⟩
    · simp [World.setCell, Array.getElem?_modify, hh]
    · rw [Array.toList_setIfInBounds, List.take_set, h4]
theorem own_cell (h : W.ownsRow base el size (.slice (some ⟨g, 0, none⟩) n cap) n xs) {i : Nat} {u : Value} (hu : xs[i]? = some u) : W.cell? ⟨g, i, none⟩ = some u := by
  obtain ⟨b, off, e1, h2⟩ := Lies.of_own h i u hu
  injection e1 with e1
  injection e1 with e1 e2
  subst e1 e2
  rw [Nat.zero_add] at h2
  exact h2
theorem own_frozen (h : W.ownsRow base el size (.slice (some ⟨g, 0, none⟩) n cap) n xs) (i : Nat) : W.frozen? ⟨g, i, none⟩ = false := (held_of h).2.2.1.frozen i
theorem own_types {el' : TypeId} {n' cap' size' base' : Nat} {g' : Nat} {xs' : List Value} (h : W.ownsRow base el size (.slice (some ⟨g, 0, none⟩) n cap) n xs) (h' : W.ownsRow base' el' size' (.slice (some ⟨g', 0, none⟩) n' cap') n' xs') (hne : el ≠ el') : g ≠ g' := by
  rintro rfl
  rcases h.2 with ⟨h1, _⟩ | ⟨g1, c, cur, hv, _, hh, _⟩
  · cases h1
  rcases h'.2 with ⟨h1, _⟩ | ⟨g2, c', cur', hv', _, hh', _⟩
  · cases h1
  injection hv with e1
  injection e1 with e1
  injection e1 with e1
  injection hv' with e2
  injection e2 with e2
  injection e2 with e2
  subst e1 e2
  rw [hh] at hh'
  injection hh' with hh'
  injection hh' with _ h3
  exact hne h3
end
theorem flatD_set : ∀ (ds : List D) (i : Nat) (x : D), (((flatD ds).set (i * 3) (.bool x.neg)).set (i * 3 + 1) (.int .u64 x.c)).set (i * 3 + 2) (.int .i64 x.e) = flatD (ds.set i x)
  | [], i, x => by simp [flatD_nil]
  | t :: ts, 0, x => rfl
  | t :: ts, i + 1, x => by
    rw [flatD_cons, show (i + 1) * 3 = i * 3 + 1 + 1 + 1 by omega]
    simp only [List.set_cons_succ]
    rw [show i * 3 + 1 + 1 = i * 3 + 1 + 1 from rfl, flatD_set ts i x]
    rfl

/-- The law's own metric: its block, its rows, what they hold. -/
structure NSt (W1 : World) (gn : Nat) (s : ByteArray) (m : Mt) (A : Option Addr) (n ca : Nat) (xd : List Value) (B : Option Addr) (k cb : Nat) (xt : List Value) (W : World) : Prop where
  kept : Below W1.heap.size W1 W
  box : Box W gn 25 [.string s, .int .i64 m.kind, .slice A n ca, .int .i64 m.rate, .slice B k cb, .int .i64 m.time]
  low : W1.heap.size ≤ gn
  name : Str s m.name
  vals : W.ownsRow W1.heap.size 39 3 (.slice A n ca) n xd
  tags : W.ownsRow W1.heap.size 33 2 (.slice B k cb) k xt
section
variable {W1 W W' : World} {gn n ca k cb : Nat} {s : ByteArray} {m : Mt} {A B : Option Addr} {vs : List D} {ts : List Tg} {xd xt : List Value}
theorem NSt.next (h : NSt W1 gn s m A n ca xd B k cb xt W) (b : Below W.heap.size W W') : NSt W1 gn s m A n ca xd B k cb xt W' :=
  ⟨h.kept.trans (b.mono h.kept.size), h.box.keep b, h.low, h.name, own_keep h.vals b, own_keep h.tags b⟩
theorem NSt.drew (h : NSt W1 gn s m A n ca xd B k cb xt W) : NSt W1 gn s m A n ca xd B k cb xt W.drew := h.next (Same.below (Same.drewN W 1))
theorem NSt.mis (h : NSt W1 gn s m A n ca (flatD vs) B k cb (flat ts) W) : MIs W s A n B k { m with vals := vs, tags := ts } := ⟨h.name, own_lenD h.vals, Decs.of_own h.vals, own_lenT h.tags, Tags.of_own h.tags⟩
theorem own_box {g : Nat} {cs : List Value} {base size : Nat} {el : TypeId} {xs : List Value} (h : W.ownsRow base el size (.slice A n ca) n xs) (hb : Box W g 25 cs) (hne : el ≠ 25) : ∀ b, (Value.slice A n ca).ownBlock = some b → g ≠ b := by
  intro b hv
  rintro rfl
  rcases h.2 with ⟨h1, _⟩ | ⟨g', c, cur, hv', _, hh, _⟩
  · rw [h1] at hv; cases hv
  · rw [hv'] at hv
    injection hv with hv
    have hv : g' = g := hv
    subst hv
    unfold Box at hb
    rw [hb] at hh
    injection hh with hh
    injection hh with _ h3
    exact hne h3.symm
theorem own_other {g base base' size size' n' ca' : Nat} {el el' : TypeId} {xs xs' : List Value} (h : W.ownsRow base el size (.slice A n ca) n xs) (ho : W.ownsRow base' el' size' (.slice (some ⟨g, 0, none⟩) n' ca') n' xs') (hne : el ≠ el') (i : Nat) (u : Value) : (W.setCell ⟨g, i, none⟩ u).ownsRow base el size (.slice A n ca) n xs := by
  refine own_apart h fun b _ _ hb => Below.heap_setCell _ _ _ b ?_
  show b ≠ g
  intro e
  subst e
  rcases h.2 with ⟨h1, _⟩ | ⟨g', c, cur, hv', _⟩
  · rw [h1] at hb; cases hb
  · have e := hv'
    injection e with e1
    subst e1
    have hb : g' = b := by injection hb
    subst hb
    exact own_types h ho hne rfl
/-- A cell of the tags' row is written. -/
theorem NSt.putT {g : Nat} (h : NSt W1 gn s m A n ca xd (some ⟨g, 0, none⟩) k cb xt W) (i : Nat) (u : Value) : NSt W1 gn s m A n ca xd (some ⟨g, 0, none⟩) k cb (xt.set i u) (W.setCell ⟨g, i, none⟩ u) :=
  ⟨h.kept.setCell (p := ⟨g, i, none⟩) (held_of h.tags).2.1 u, h.box.far (q := ⟨g, i, none⟩) (own_box h.tags h.box (by decide) g rfl) u, h.low, h.name, own_other h.vals h.tags (by decide) i u, own_in h.tags i u⟩
/-- A cell of the values' row is written. -/
theorem NSt.putV {g : Nat} (h : NSt W1 gn s m (some ⟨g, 0, none⟩) n ca xd B k cb xt W) (i : Nat) (u : Value) : NSt W1 gn s m (some ⟨g, 0, none⟩) n ca (xd.set i u) B k cb xt (W.setCell ⟨g, i, none⟩ u) :=
  ⟨h.kept.setCell (p := ⟨g, i, none⟩) (held_of h.vals).2.1 u, h.box.far (q := ⟨g, i, none⟩) (own_box h.vals h.box (by decide) g rfl) u, h.low, h.name, own_in h.vals i u, own_other h.tags h.vals (by decide) i u⟩
theorem NSt.swapT {g a b : Nat} (h : NSt W1 gn s m A n ca xd (some ⟨g, 0, none⟩) k cb (flat ts) W) (ha : a < ts.length) (hb : b < ts.length) {s1 t1 s2 t2 : ByteArray} (h1 : Str s1 ts[a].1) (h2 : Str t1 ts[a].2) (h3 : Str s2 ts[b].1) (h4 : Str t2 ts[b].2) :
    NSt W1 gn s m A n ca xd (some ⟨g, 0, none⟩) k cb (flat (swp ts a b ts[a] ts[b])) ((((W.setCell ⟨g, a * 2, none⟩ (.string s2)).setCell ⟨g, a * 2 + 1, none⟩ (.string t2)).setCell ⟨g, b * 2, none⟩ (.string s1)).setCell ⟨g, b * 2 + 1, none⟩ (.string t1)) := by
  have := (((h.putT (a * 2) (.string s2)).putT (a * 2 + 1) (.string t2)).putT (b * 2) (.string s1)).putT (b * 2 + 1) (.string t1)
  unfold swp
  rw [← flat_set, ← flat_set, ← h1.eq, ← h2.eq, ← h3.eq, ← h4.eq]
  exact this
theorem NSt.swapV {g a b : Nat} (h : NSt W1 gn s m (some ⟨g, 0, none⟩) n ca (flatD vs) B k cb xt W) (ha : a < vs.length) (hb : b < vs.length) {p1 p2 : Bool} {x1 y1 x2 y2 : Int} (h1 : Dl p1 x1 y1 vs[a]) (h2 : Dl p2 x2 y2 vs[b]) :
    NSt W1 gn s m (some ⟨g, 0, none⟩) n ca (flatD (swp vs a b vs[a] vs[b])) B k cb xt ((((((W.setCell ⟨g, a * 3, none⟩ (.bool p2)).setCell ⟨g, a * 3 + 1, none⟩ (.int .u64 x2)).setCell ⟨g, a * 3 + 2, none⟩ (.int .i64 y2)).setCell ⟨g, b * 3, none⟩ (.bool p1)).setCell ⟨g, b * 3 + 1, none⟩ (.int .u64 x1)).setCell ⟨g, b * 3 + 2, none⟩ (.int .i64 y1)) := by
  have := (((((h.putV (a * 3) (.bool p2)).putV (a * 3 + 1) (.int .u64 x2)).putV (a * 3 + 2) (.int .i64 y2)).putV (b * 3) (.bool p1)).putV (b * 3 + 1) (.int .u64 x1)).putV (b * 3 + 2) (.int .i64 y1)
  unfold swp
  rw [← flatD_set, ← flatD_set, ← h1.neg, ← h1.c, ← h1.e, ← h2.neg, ← h2.c, ← h2.e]
  exact this
/-- Its tags are another row. -/
theorem NSt.grow4 {k' cb' : Nat} {B' : Option Addr} {xs : List Value} (h : NSt W1 gn s m A n ca xd B k cb xt W) (hg : W.grownBy W' (Value.slice B k cb).ownBlock) (ho : W'.ownsRow W1.heap.size 33 2 (.slice B' k' cb') k' xs) :
    NSt W1 gn s m A n ca xd B' k' cb' xs (W'.setCell ⟨gn, 4, none⟩ (.slice B' k' cb')) := by
  have hb1 : Below W1.heap.size W1 W' := h.kept.grown hg h.kept.size fun x hx => (own_block_lt h.tags x hx).1
  have hbox : Box W' gn 25 [.string s, .int .i64 m.kind, .slice A n ca, .int .i64 m.rate, .slice B k cb, .int .i64 m.time] := (hg.block _ h.box.lt fun hc => own_box h.tags h.box (by decide) _ hc.symm rfl).trans h.box
  have hv : W'.ownsRow W1.heap.size 39 3 (.slice A n ca) n xd := own_apart h.vals fun b _ hb2 hb3 => hg.block b hb2 fun hc => by
    rcases h.vals.2 with ⟨h1, _⟩ | ⟨g1, c1, cur1, hv1, _⟩
    · rw [h1] at hb3; cases hb3
    rcases h.tags.2 with ⟨h2, _⟩ | ⟨g2, c2, cur2, hv2, _⟩
    · rw [h2] at hc; cases hc
    have e1 := hv1
    injection e1 with e1
    have e2 := hv2
    injection e2 with e2
    subst e1 e2
    injection hb3 with hb3
    injection hc with hc
    have hb3 : g1 = b := hb3
    have hc : b = g2 := hc
    exact own_types h.vals h.tags (by decide) (hb3.trans hc)
  exact ⟨hb1.setCell (p := ⟨gn, 4, none⟩) h.low _, hbox.set 4 _, h.low, h.name, own_apart hv fun b _ _ hb => Below.heap_setCell _ _ _ b fun e => own_box hv hbox (by decide) _ hb e.symm, own_apart ho fun b _ _ hb => Below.heap_setCell _ _ _ b fun e => own_box ho hbox (by decide) _ hb e.symm⟩
end
theorem Kb.same1q {w W : World} {L : List (Nat × TypeId × List Value)} {M : List (ByteArray × Option Addr × Nat × Option Addr × Nat × Mt)} {s s' : ByteArray} {A B A' B' : Option Addr} {n k n' k' : Nat} {m : Mt} {d d' : D} {x : Bool} (h : Kb w L M W) (hm : (s, A, n, B, k, oneM m d) ∈ M) (hm' : (s', A', n', B', k', oneM m d') ∈ M) (z : Small (oneM m d)) (z' : Small (oneM m d')) (hx : sameM (oneM m d) (oneM m d') = x) (ca cb ca' cb' : Nat) :
    Qt W 14 #[.agg #[.string s, .int .i64 m.kind, .slice A n ca, .int .i64 m.rate, .slice B k cb, .int .i64 m.time], .agg #[.string s', .int .i64 m.kind, .slice A' n' ca', .int .i64 m.rate, .slice B' k' cb', .int .i64 m.time]] (.bool x) := h.sameq hm hm' z z' hx ca cb ca' cb'
/-- A quiet walk in one world (under whatever names) is a still one. -/
theorem still_of_quiet {P : Program} {ops : Array Oper} {w : World} {f : Nat → World} (hf : ∀ n, f n = w) {Q : Act → Prop} : ∀ (l : List Oper) (a : Act), wpQuiet P ops (fun w' => ∃ n, w' = f n) Q l a → wpStill P ops w Q l a
  | [], _, h => h
  | o :: rest, a, h => by
    unfold wpQuiet at h
    unfold wpStill
    split at h
    · rename_i hw
      rw [if_pos hw]
      obtain ⟨v, h1, h2⟩ := h
      have h3 := h1 w ⟨0, (hf 0).symm⟩
      unfold Oper.quietAt at h3
      unfold Oper.still
      generalize (execOp a.eval o).run P w = r at h3 ⊢
      cases r with
      | ok n w' =>
        cases n
        case value u => exact ⟨h3.1, by rw [h3.2]; exact still_of_quiet hf rest _ h2⟩
        case skip => exact ⟨h3.1, by rw [← h3.2]; exact still_of_quiet hf rest _ h2⟩
        case enter f' args => exact ⟨h3.1, v, h3.2.mono fun _ _ ⟨he, n, hn⟩ => ⟨he, hn.trans (hf n)⟩, still_of_quiet hf rest _ h2⟩
        all_goals exact False.elim h3
      | halt x w' => exact h3.elim
    · rename_i hw
      rw [if_neg hw]
      exact still_of_quiet hf rest _ h
theorem flat_cell0 {ps : List Tg} {p : Nat} (h : p < ps.length) : (flat ps)[p * 2]? = some (.string ⟨ps[p].1.toArray⟩) := by rw [flat_get0, List.getElem?_eq_getElem h]; rfl
theorem flat_cell1 {ps : List Tg} {p : Nat} (h : p < ps.length) : (flat ps)[p * 2 + 1]? = some (.string ⟨ps[p].2.toArray⟩) := by rw [flat_get1, List.getElem?_eq_getElem h]; rfl
end Go.Proofs.Ytikdolgcdkmmaaa
