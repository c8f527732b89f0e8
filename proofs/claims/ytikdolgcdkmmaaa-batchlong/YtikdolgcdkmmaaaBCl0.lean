/-
  BClone, Held, BLong. No statement of the seat is proved here.
-/
import Derived.Test.YtikdolgcdkmmaaaBTxt0
import Derived.Test.YtikdolgcdkmmaaaMClone
import Derived.OwnWalk
import Derived.Test.YtikdolgcdkmmaaaMRows
import Derived.Test.YtikdolgcdkmmaaaBOnce
/-
  batch.Clone: a batch whose rows are its own. No statement of the seat is proved here.
-/
namespace Go.Proofs.Ytikdolgcdkmmaaa
open Go.RowKit Go.Shelf
open Dc (D D0)

attribute [local go_sem] Oper.semAt_some

theorem own_types2 {W : World} {el el' : TypeId} {n' size' base' n size base g : Nat} {v v' : Value} {xs xs' : List Value} (h : W.ownsRow base el size v n xs) (h' : W.ownsRow base' el' size' v' n' xs') (hne : el ≠ el') (hg : v.ownBlock = some g) : v'.ownBlock ≠ some g := fun hg' => by
  rcases h.2 with ⟨rfl, _⟩ | ⟨g1, c, cur, rfl, _, hh, _⟩
  · cases hg
  rcases h'.2 with ⟨rfl, _⟩ | ⟨g2, c', cur', rfl, _, hh', _⟩
  · cases hg'
  injection hg with hg
  injection hg' with hg'
  have e1 : g1 = g := hg
  have e2 : g2 = g := hg'
  subst e1
  subst e2
  rw [hh] at hh'
  injection hh' with hh'
  injection hh' with _ h3
  exact hne h3

/-- Metrics whose rows are new. -/
structure Owns (base : Nat) (W : World) (v : Value) (n : Nat) (cs : List En) : Prop where
  own : W.ownsRow base 25 6 v n (flatM cs)
  ent : ∀ e ∈ cs, OwnM base W e.s e.A e.n e.ca e.B e.k e.cb e.m
section
variable {base n : Nat} {W W' W2 W3 : World} {v v' : Value} {cs : List En} {e : En}
theorem Owns.kept (h : Owns base W v n cs) (hk : CKept (fun _ => False) W W') : Owns base W' v n cs :=
  ⟨hk.own h.own fun _ _ => id, fun e he => ⟨(h.ent e he).name, hk.own (h.ent e he).vals fun _ _ => id, hk.own (h.ent e he).tags fun _ _ => id⟩⟩
theorem Owns.keep (h : Owns base W v n cs) (hb : Below W.heap.size W W') : Owns base W' v n cs := h.kept (CKept.of_below hb)
theorem Owns.mets {A : Option Addr} {cap : Nat} (h : Owns base W (.slice A n cap) n cs) : Mets W A cs := Mets.of_own h.own fun e he => (h.ent e he).mis
/-- Writing into a block that is of no row's kind. -/
theorem Owns.put (h : Owns base W v n cs) {b : Nat} {t : TypeId} {u : Value} (hb : Boxed W b t u) (h1 : t ≠ 25) (h2 : t ≠ 39) (h3 : t ≠ 33) (x : Value) : Owns base (W.setCell ⟨b, 0, none⟩ x) v n cs := by
  have hk : CKept (fun y => y = b) W (W.setCell ⟨b, 0, none⟩ x) := CKept.of_set _ _ rfl
  exact ⟨hk.own h.own fun g hg e => Boxed.not_row hb h1 h.own (by rw [hg, e]), fun y hy => ⟨(h.ent y hy).name, hk.own (h.ent y hy).vals fun g hg e => Boxed.not_row hb h2 (h.ent y hy).vals (by rw [hg, e]), hk.own (h.ent y hy).tags fun g hg e => Boxed.not_row hb h3 (h.ent y hy).tags (by rw [hg, e])⟩⟩
/-- A metric is appended. -/
theorem Owns.push (h : Owns base W2 v n cs) (he : OwnM base W2 e.s e.A e.n e.ca e.B e.k e.cb e.m) (hg : W2.grownBy W3 v.ownBlock) (ho : W3.ownsRow base 25 6 v' (n + 1) (flatM cs ++ encM e)) : Owns base W3 v' (n + 1) (cs ++ [e]) := by
  have hk : CKept (fun b => v.ownBlock = some b) W2 W3 := CKept.of_grown hg fun r e => .inl e
  have old : ∀ x : En, OwnM base W2 x.s x.A x.n x.ca x.B x.k x.cb x.m → OwnM base W3 x.s x.A x.n x.ca x.B x.k x.cb x.m := fun x hx =>
    ⟨hx.name, hk.own hx.vals fun g hg' hv => own_types2 h.own hx.vals (by decide) hv hg', hk.own hx.tags fun g hg' hv => own_types2 h.own hx.tags (by decide) hv hg'⟩
  refine ⟨by rw [flatM_append, flatM_one]; exact ho, fun x hx => ?_⟩
  rcases List.mem_append.1 hx with hx | hx
  · exact old x (h.ent x hx)
  · rcases List.mem_singleton.1 hx with rfl
    exact old _ he
end

/-- What a round of Clone may know. -/
structure ClI (es : List En) (n0 bx : Nat) (pre : List (It es)) (W : World) : Prop where
  row : ∃ v cs, Boxed W bx 41 v ∧ Owns n0 W v pre.length cs ∧ datM cs = pre.map fun y => y.1.2.m
  size : bx + 2 ≤ W.heap.size
theorem clI_own {es : List En} {n0 bx B : Nat} : OwnFrom B (ClI es n0 bx) := fun s W W' row hs hg hr => by
  obtain ⟨⟨v, cs, h1, h2, h3⟩, h4⟩ := hs
  have hk : CKept (fun _ => False) W W' := CKept.of_own hg fun r e => (hr r e).2
  exact ⟨⟨v, cs, hk.boxed h1 id, h2.kept hk, h3⟩, Nat.le_trans h4 hg.size⟩

/-- An append as a step of a region that draws its order, inside a fence. -/
theorem stepIn_append_rows {F : Fence} {nF : Nat} (w : World) {sl el : TypeId} {z : Value} {size bytes : Nat} (T : RowTy sl el z size bytes) {ops : Array Oper} {o : Oper} {a : Act} {K : Act → World → Prop} {Q : Exit → Act → World → Prop} {E : Prop} (hgd : o.guard = none) (s x : Operand)
    (ho : o.op = .call { callee := .builtin .append, args := #[s, x], argTypes := #[sl, sl] })
    (base : Nat) (v : Value) (n : Nat) (xs : List Value) (hs : a.eval s = v) (hown : w.ownsRow base el size v n xs)
    (A : Option Addr) (m c : Nat) (ys : List Value) (hx : a.eval x = .slice A m c) (hl : ys.length = m * size) (hv : Lies w A ys) (h1 : ∀ u ∈ ys, u.oneCell' = true)
    (hfit : n + m ≤ 1000000) (hbase : base ≤ w.heap.size)
    (h : ∀ v' w', w'.ownsRow base el size v' (n + m) (xs ++ ys) → w.grownBy w' v.ownBlock → (v'.ownBlock = v.ownBlock ∨ v'.ownBlock = some w.heap.size) → K (a.put o.dst v') w') :
    if Region.wanted o (yielded ops a.tmps) = true then Oper.wpIn F nF Try.prog o a w K Q else E := by
  have hw : Region.wanted o (yielded ops a.tmps) = true := by simp [Region.wanted, hgd]
  rw [if_pos hw]
  obtain ⟨v', w', hr, h2, h3, h4⟩ := run_append_rows w T base o.type v n xs hown A m c ys hl hv h1 hfit hbase
  unfold Oper.wpIn
  refine ⟨by simp [Oper.about, ho, resolve, Target.leads, Sem.run_pure], ?_⟩
  rw [Oper.semAt_plain F _ _ (by rw [ho]; intro c hc'; cases hc')]
  simp [execOp, ho, resolve, invoke, builtin, hs, hx, hr, Result.andThen]
  exact h v' w' h2 h3 h4

/-- A round's end. -/
theorem clone_end {es : List En} {w W W0 w2 w3 : World} {bx : Nat} {pre : List (It es)} {x : It es} {Av A1 B1 A3 : Option Addr} {cv ca1 cb1 c3 : Nat} {cs : List En} {a : Act} (hsz : W0.heap.size = bx + 2) (hlo : w.heap.size ≤ bx)
    (k1 : Boxed W bx 41 (.slice Av pre.length cv)) (k2 : Owns w.heap.size W (.slice Av pre.length cv) pre.length cs) (k3 : datM cs = pre.map fun y => y.1.2.m) (k4 : bx + 2 ≤ W.heap.size) (hB : Below w.heap.size w W)
    (ho : OwnM W.drew.heap.size w2 x.1.2.s A1 x.1.2.n ca1 B1 x.1.2.k cb1 x.1.2.m) (hb : Below W.heap.size W w2)
    (hown : w3.ownsRow w.heap.size 25 6 (.slice A3 (pre.length + 1) c3) (pre.length + 1) (flatM cs ++ encM ⟨x.1.2.s, A1, x.1.2.n, ca1, B1, x.1.2.k, cb1, x.1.2.m⟩))
    (hgr : (w2.alloc (.cells #[.string x.1.2.s, .int .i64 x.1.2.m.kind, .slice A1 x.1.2.n ca1, .int .i64 x.1.2.m.rate, .slice B1 x.1.2.k cb1, .int .i64 x.1.2.m.time] 25)).grownBy w3 (Value.slice Av pre.length cv).ownBlock) (hx3 : Boxed w3 bx 41 (.slice Av pre.length cv)) :
    ownPostG W0.heap.size (Below w.heap.size) (fun pre W => ClI es w.heap.size bx pre W ∧ Below w.heap.size w W) (fun _ _ _ => False) (pre ++ [x]) W .normal a (w3.setCell ⟨bx, 0, none⟩ (.slice A3 (pre.length + 1) c3)) := by
  have hB2 := hb.mono hB.size
  have hrow := own_keep k2.own (below_then hb (m_below w2 (.cells #[.string x.1.2.s, .int .i64 x.1.2.m.kind, .slice A1 x.1.2.n ca1, .int .i64 x.1.2.m.rate, .slice B1 x.1.2.k cb1, .int .i64 x.1.2.m.time] 25)))
  have BL : Below w.heap.size W (w3.setCell ⟨bx, 0, none⟩ (.slice A3 (pre.length + 1) c3)) :=
    ((hB2.alloc (Nat.le_trans hB.size hb.size) _).grown hgr (by rw [World.size_alloc]; have := hB.size; have := hb.size; omega) (fun k e => (hrow.lt k e).1)).setCell (p := ⟨bx, 0, none⟩) hlo _
  have hO2 : Owns w.heap.size (w2.alloc (.cells #[.string x.1.2.s, .int .i64 x.1.2.m.kind, .slice A1 x.1.2.n ca1, .int .i64 x.1.2.m.rate, .slice B1 x.1.2.k cb1, .int .i64 x.1.2.m.time] 25)) (.slice Av pre.length cv) pre.length cs := k2.keep (below_then hb (m_below _ _))
  have hp := hO2.push (e := ⟨x.1.2.s, A1, x.1.2.n, ca1, B1, x.1.2.k, cb1, x.1.2.m⟩) ((ho.keep (m_below _ _)).low (by show w.heap.size ≤ W.heap.size; exact hB.size)) hgr hown
  refine ⟨(((KeepsX.of_below (B := 0) hb).from (Nat.zero_le _)).trans (((KeepsOthers.alloc _ _).trans (KeepsOthers.of_grownBy hgr (fun j o e ho' => ?_))).from _)).trans ((KeepsOthers.setCell _ _ _).from _), BL, ⟨⟨_, cs ++ [⟨x.1.2.s, A1, x.1.2.n, ca1, B1, x.1.2.k, cb1, x.1.2.m⟩], hx3.set _, ?_, ?_⟩, Nat.le_trans k4 BL.size⟩, hB.trans BL⟩
  · rcases hrow.2 with ⟨e1, _⟩ | ⟨g', cap, cur, e1, _, hh, _⟩
    · rw [e1] at e; cases e
    · rw [e1] at e
      injection e with e
      have e : g' = j := e
      subst e
      rw [hh] at ho'
      injection ho' with ho'
      subst ho'
      rfl
  · rw [List.length_append]
    exact hp.put hx3 (by decide) (by decide) (by decide) _
  · unfold datM at k3 ⊢
    rw [List.map_append, k3, List.map_append]; rfl

set_option maxRecDepth 100000 in
set_option maxHeartbeats 8000000 in
theorem bclone_calls {w : World} {A : Option Addr} {len cap : Nat} {es : List En} (hlen : es.length = len) (hz : len ≤ 100000) (hM : Mets w A es) (hs : Smalls es) :
    Calls Try.prog 28 #[.slice A len cap] w fun e W' => (∃ A' c' cs, e = .returned (.slice A' len c') ∧ Owns w.heap.size W' (.slice A' len c') len cs ∧ datM cs = datM es) ∧ Below w.heap.size w W' := by
  have HP := Lib.hid (And.intro hlen (And.intro hM hs))
  obtain ⟨ti, hi, hz0, hz1, hz2⟩ := info_parts (rowMet).info
  obtain ⟨wm, hmk, hown, hgr⟩ := run_make_own (P := Try.prog) w w.heap.size 41 25 ti _ 6 Try.underlying41 hi hz0 hz1 .i64 .i64 len (by rw [hz2]; omega) (by unfold maxLen; omega) (Nat.le_refl _)
  have hbm : Below w.heap.size w wm := (Below.refl w.heap.size w).grown hgr (Nat.le_refl _) (by intro k hk; cases hk)
  obtain ⟨A0, c0, e0, -⟩ := own_slice hown
  rw [e0] at hmk hown
  have HM := Lib.hid (And.intro hown hbm)
  have hmx : Try.prog.follows .mixedOrders = true := by kernel_rfl
  clear hi hz0 hz1 hz2 hown hgr e0 hbm
  refine (callsIn_wide (n := 9)).1 ?_
  refine callsIn_of_wp_marks Try.func28 rfl trivial ?_ rfl
  simp only [Try.ntmps28, List.size_toArray, List.length_cons, List.length_nil, Nat.reduceAdd, Nat.reduceSub, Array.replicate_succ, Array.replicate_zero, List.push_toArray, List.append_toArray, List.nil_append, List.cons_append]
  gi_wp2_with (refine ⟨trivial, ?_⟩; gi_at_call 38; refine (places_in Fence.wide _ trivial rfl _ _ _ _).mono ?_; rintro e w' ⟨rfl, rfl⟩)
  have hb1 := Boxed.new wm 41 (.slice A0 0 c0)
  have hb2 := Boxed.new (wm.alloc (.cells #[.slice A0 0 c0] 41)) 41 (.slice A len cap)
  rw [World.size_alloc] at hb2
  replace hb1 := hb1.alloc (.cells #[.slice A len cap] 41)
  have hO : Owns w.heap.size ((wm.alloc (.cells #[.slice A0 0 c0] 41)).alloc (.cells #[.slice A len cap] 41)) (.slice A0 0 c0) 0 [] := ⟨own_keep HM.out.1 (below_then (m_below _ _) (m_below _ _)), by simp⟩
  have hb0 : Below w.heap.size w ((wm.alloc (.cells #[.slice A0 0 c0] 41)).alloc (.cells #[.slice A len cap] 41)) := below_then (below_then HM.out.2 (m_below _ _)) (m_below _ _)
  have hsz : ((wm.alloc (.cells #[.slice A0 0 c0] 41)).alloc (.cells #[.slice A len cap] 41)).heap.size = wm.heap.size + 2 := by simp
  have hmsz := HM.out.2.size
  clear hmk
  obtain ⟨W0, hW0⟩ : ∃ W0, (wm.alloc (.cells #[.slice A0 0 c0] 41)).alloc (.cells #[.slice A len cap] 41) = W0 := ⟨_, rfl⟩
  rw [hW0] at hb0 hb1 hb2 hO hsz ⊢
  clear hW0
  refine wpIn_rangeFunc_ownH rfl (by omega) (gf := 55) (lb := #[.pointer (some ⟨wm.heap.size + 1, 0, none⟩)]) rfl trivial (enters_of Try.func55 (by kernel_rfl) rfl)
    (places_stops Fence.wide _ trivial rfl (by omega) (wm.heap.size + 1) A len cap hlen hz hM W0 hb0 (by omega) hb2.cell) belowK_t (belowK_b hb0.size) (Below.refl _ _) (fun _ => rfl)
    (fun pre W => ClI es w.heap.size wm.heap.size pre W ∧ Below w.heap.size w W)
    (fun _ _ _ => False)
    (OwnFrom.and clI_own (ownFrom_below (Nat.le_refl _) hb0.size))
    (fun _ _ _ _ _ hs _ _ => hs)
    ⟨⟨⟨_, [], hb1, hO, rfl⟩, by omega⟩, hb0⟩
    (fun x a' W => ∃ Bx, wm.heap.size + 2 ≤ Bx ∧ Box W Bx 25 [.string x.1.2.s, .int .i64 x.1.2.m.kind, .slice x.1.2.A x.1.2.n x.1.2.ca, .int .i64 x.1.2.m.rate, .slice x.1.2.B x.1.2.k x.1.2.cb, .int .i64 x.1.2.m.time] ∧
      a' = { tmps := #[.slice A len cap, undef, .slice none 0 0, .pointer (some ⟨wm.heap.size, 0, none⟩), undef, .pointer (some ⟨Bx, 0, none⟩), .slice A len cap, .int .i64 len, .slice A0 0 c0, .slice A len cap, .func (.func 55) #[] #[.pointer (some ⟨wm.heap.size + 1, 0, none⟩)], .int .i64 (x.1.1 : Int), .agg #[.string x.1.2.s, .int .i64 x.1.2.m.kind, .slice x.1.2.A x.1.2.n x.1.2.ca, .int .i64 x.1.2.m.rate, .slice x.1.2.B x.1.2.k x.1.2.cb, .int .i64 x.1.2.m.time], undef, undef, undef, undef, undef, undef], defers := [] })
    (fun x a' _ X Y row hs hg hr => by obtain ⟨Bx, h1, h2, h3⟩ := hs; exact ⟨Bx, h1, box_own h2 hg (fun r e => (hr r e).2), h3⟩)
    ?assign ?body ?done ?stop
  case assign =>
    rintro l pre x W K ⟨hi, hB⟩ hK
    have hsW := hB.size
    unfold encI
    gi_wp2
    refine hK _ _ ((KeepsOthers.alloc _ _).from _) ((Below.refl _ W).alloc hsW _) ⟨?_, hB.alloc hsW _⟩ ⟨W.heap.size, hi.size, Box.new W 25 _, rfl⟩
    obtain ⟨v, cs, h1, h2, h3⟩ := hi.row
    exact ⟨⟨v, cs, h1.alloc _, h2.keep (m_below _ _), h3⟩, by have := hi.size; rw [World.size_alloc]; omega⟩
  case body =>
    rintro l pre x a' W hl ⟨r, hr⟩ ⟨hi, hB⟩ ⟨Bx, hBx, bX, rfl⟩ hlt
    obtain ⟨⟨v, cs, k1, k2, k3⟩, k4⟩ := hi
    obtain ⟨Av, cv, rfl, -⟩ := own_slice k2.own
    have hpl : pre.length ≤ 100000 := by omega
    have hC := fun W' (hb : Below W.heap.size W W') => clone_calls7 (ca := x.1.2.ca) (cb := x.1.2.cb) ((hM.keep (below_then hB hb)).one x.2) (hs _ (List.mem_of_getElem? x.2))
    unfold CloneP mV at hC
    obtain ⟨m, hm⟩ : ∃ m, x.1.2.m = m := ⟨_, rfl⟩
    have HC := Lib.hid hC
    have c0 := bX.cell 0
    have c1 := bX.cell 1
    have c2 := bX.cell 2
    have c3 := bX.cell 3
    have c4 := bX.cell 4
    have c5 := bX.cell 5
    simp only [List.getElem?_cons_zero, List.getElem?_cons_succ] at c0 c1 c2 c3 c4 c5
    have cb := k1.cell
    have HI := Lib.hid (And.intro k1 (And.intro k2 (And.intro k3 (And.intro k4 hB))))
    clear k1 k2 k3 k4 hB hC bX hr hm
    gi_wp2
    refine wpIn_region_any (by assumption) ?_
    change wpAnyIn _ _ _ _ _ _ _ _ _ (World.drew _)
    refine wpAnyIn_ready (rs := [0, 1]) (by kernel_rfl) (by simp) ?_
    refine AllReadyIn.cons rfl (fun K hK => ?_) ?_
    · go_simp
      (refine hK _ _ ?_; clear hK K)
      refine wpAnyIn_ready (rs := [1]) (by kernel_rfl) (by simp) ?_
      refine AllReadyIn.cons rfl (fun K hK => ?_) ?_
      · go_simp
        (refine hK _ _ ?_; clear hK K)
        refine wpAnyIn_ready (rs := [2]) (by kernel_rfl) (by simp) ?_
        refine AllReadyIn.cons rfl (fun K hK => ?_) ?_
        · go_simp
          gi_wp2_with (refine ⟨trivial, ?_⟩; gi_at_call 11; refine (CallsIn.inRound l (callsIn_wide.2 (HC.out _ (Same.below (Same.drewN W 1))))).mono ?_; rintro e w2 ⟨⟨A1, ca1, B1, cb1, rfl, ho⟩, hb⟩; have hb' := below_then (Same.below (Same.drewN W 1)) hb; have hx2 := (CKept.of_below (X := fun _ => False) hb').boxed HI.out.1 id; have cb2 := hx2.cell; have nb2 := hx2.lt; have HE := Lib.hid (And.intro ho (And.intro hb' hx2)); clear ho hb hb' hx2 cb c0 c1 c2 c3 c4 c5)
          try (refine hK _ _ ?_; clear hK K)
          refine wpAnyIn_ready (rs := [3]) (by kernel_rfl) (by simp) ?_
          refine AllReadyIn.cons rfl (fun K hK => ?_) ?_
          · go_simp
            (refine hK _ _ ?_; clear hK K)
            refine wpAnyIn_ready (rs := [4]) (by kernel_rfl) (by simp) ?_
            refine AllReadyIn.cons rfl (fun K hK => ?_) ?_
            · (refine stepIn_append_rows _ rowMet rfl _ _ rfl w.heap.size (.slice Av pre.length cv) pre.length (flatM cs) rfl (own_keep HI.out.2.1.own (below_then HE.out.2.1 (m_below _ _))) (some ⟨w2.heap.size, 0, none⟩) 1 1 (encM ⟨x.1.2.s, A1, x.1.2.n, ca1, B1, x.1.2.k, cb1, x.1.2.m⟩) rfl rfl (lies_at (w := w2) rfl ⟨x.1.2.s, A1, x.1.2.n, ca1, B1, x.1.2.k, cb1, x.1.2.m⟩) encM_cells (by omega) (by have := HI.out.2.2.2.2.size; have := HE.out.2.1.size; rw [World.size_alloc]; omega) ?_; intro v3 w3 hown3 hgr3 hob3; obtain ⟨A3, c3', e3, -⟩ := own_slice hown3; subst e3; have hx3 := (HE.out.2.2.alloc (.cells #[.string x.1.2.s, .int .i64 x.1.2.m.kind, .slice A1 x.1.2.n ca1, .int .i64 x.1.2.m.rate, .slice B1 x.1.2.k cb1, .int .i64 x.1.2.m.time] 25)).kept hgr3 (Boxed.not_row HE.out.2.2 (by decide) (own_keep HI.out.2.1.own HE.out.2.1)); have cb3 := hx3.cell; have fb3 := hx3.frozen; have HG := Lib.hid (And.intro hown3 (And.intro hgr3 hx3)); clear hown3 hgr3 hob3 hx3)
              (refine hK _ _ ?_; clear hK K)
              refine wpAnyIn_ready (rs := [5]) (by kernel_rfl) (by simp) ?_
              refine AllReadyIn.cons rfl (fun K hK => ?_) ?_
              · go_simp
                (refine hK _ _ ?_; clear hK K)
                refine wpAnyIn_done (by kernel_rfl) ?_ _
                gi_wp2
                exact clone_end hsz (by omega) HI.out.1 HI.out.2.1 HI.out.2.2.1 HI.out.2.2.2.1 HI.out.2.2.2.2 HE.out.1 HE.out.2.1 HG.out.1 HG.out.2.1 HG.out.2.2
              exact AllReadyIn.nil
            exact AllReadyIn.nil
          exact AllReadyIn.nil
        exact AllReadyIn.nil
      exact AllReadyIn.nil
    refine AllReadyIn.cons rfl (fun K hK => ?_) ?_
    · go_simp
      (refine hK _ _ ?_; clear hK K)
      refine wpAnyIn_ready (rs := [0, 2]) (by kernel_rfl) (by simp) ?_
      refine AllReadyIn.cons rfl (fun K hK => ?_) ?_
      · go_simp
        (refine hK _ _ ?_; clear hK K)
        refine wpAnyIn_ready (rs := [2]) (by kernel_rfl) (by simp) ?_
        refine AllReadyIn.cons rfl (fun K hK => ?_) ?_
        · go_simp
          gi_wp2_with (refine ⟨trivial, ?_⟩; gi_at_call 11; refine (CallsIn.inRound l (callsIn_wide.2 (HC.out _ (Same.below (Same.drewN W 1))))).mono ?_; rintro e w2 ⟨⟨A1, ca1, B1, cb1, rfl, ho⟩, hb⟩; have hb' := below_then (Same.below (Same.drewN W 1)) hb; have hx2 := (CKept.of_below (X := fun _ => False) hb').boxed HI.out.1 id; have cb2 := hx2.cell; have nb2 := hx2.lt; have HE := Lib.hid (And.intro ho (And.intro hb' hx2)); clear ho hb hb' hx2 cb c0 c1 c2 c3 c4 c5)
          try (refine hK _ _ ?_; clear hK K)
          refine wpAnyIn_ready (rs := [3]) (by kernel_rfl) (by simp) ?_
          refine AllReadyIn.cons rfl (fun K hK => ?_) ?_
          · go_simp
            (refine hK _ _ ?_; clear hK K)
            refine wpAnyIn_ready (rs := [4]) (by kernel_rfl) (by simp) ?_
            refine AllReadyIn.cons rfl (fun K hK => ?_) ?_
            · (refine stepIn_append_rows _ rowMet rfl _ _ rfl w.heap.size (.slice Av pre.length cv) pre.length (flatM cs) rfl (own_keep HI.out.2.1.own (below_then HE.out.2.1 (m_below _ _))) (some ⟨w2.heap.size, 0, none⟩) 1 1 (encM ⟨x.1.2.s, A1, x.1.2.n, ca1, B1, x.1.2.k, cb1, x.1.2.m⟩) rfl rfl (lies_at (w := w2) rfl ⟨x.1.2.s, A1, x.1.2.n, ca1, B1, x.1.2.k, cb1, x.1.2.m⟩) encM_cells (by omega) (by have := HI.out.2.2.2.2.size; have := HE.out.2.1.size; rw [World.size_alloc]; omega) ?_; intro v3 w3 hown3 hgr3 hob3; obtain ⟨A3, c3', e3, -⟩ := own_slice hown3; subst e3; have hx3 := (HE.out.2.2.alloc (.cells #[.string x.1.2.s, .int .i64 x.1.2.m.kind, .slice A1 x.1.2.n ca1, .int .i64 x.1.2.m.rate, .slice B1 x.1.2.k cb1, .int .i64 x.1.2.m.time] 25)).kept hgr3 (Boxed.not_row HE.out.2.2 (by decide) (own_keep HI.out.2.1.own HE.out.2.1)); have cb3 := hx3.cell; have fb3 := hx3.frozen; have HG := Lib.hid (And.intro hown3 (And.intro hgr3 hx3)); clear hown3 hgr3 hob3 hx3)
              (refine hK _ _ ?_; clear hK K)
              refine wpAnyIn_ready (rs := [5]) (by kernel_rfl) (by simp) ?_
              refine AllReadyIn.cons rfl (fun K hK => ?_) ?_
              · go_simp
                (refine hK _ _ ?_; clear hK K)
                refine wpAnyIn_done (by kernel_rfl) ?_ _
                gi_wp2
                exact clone_end hsz (by omega) HI.out.1 HI.out.2.1 HI.out.2.2.1 HI.out.2.2.2.1 HI.out.2.2.2.2 HE.out.1 HE.out.2.1 HG.out.1 HG.out.2.1 HG.out.2.2
              exact AllReadyIn.nil
            exact AllReadyIn.nil
          exact AllReadyIn.nil
        exact AllReadyIn.nil
      refine AllReadyIn.cons rfl (fun K hK => ?_) ?_
      · go_simp
        gi_wp2_with (refine ⟨trivial, ?_⟩; gi_at_call 11; refine (CallsIn.inRound l (callsIn_wide.2 (HC.out _ (Same.below (Same.drewN W 1))))).mono ?_; rintro e w2 ⟨⟨A1, ca1, B1, cb1, rfl, ho⟩, hb⟩; have hb' := below_then (Same.below (Same.drewN W 1)) hb; have hx2 := (CKept.of_below (X := fun _ => False) hb').boxed HI.out.1 id; have cb2 := hx2.cell; have nb2 := hx2.lt; have HE := Lib.hid (And.intro ho (And.intro hb' hx2)); clear ho hb hb' hx2 cb c0 c1 c2 c3 c4 c5)
        try (refine hK _ _ ?_; clear hK K)
        refine wpAnyIn_ready (rs := [0, 3]) (by kernel_rfl) (by simp) ?_
        refine AllReadyIn.cons rfl (fun K hK => ?_) ?_
        · go_simp
          (refine hK _ _ ?_; clear hK K)
          refine wpAnyIn_ready (rs := [3]) (by kernel_rfl) (by simp) ?_
          refine AllReadyIn.cons rfl (fun K hK => ?_) ?_
          · go_simp
            (refine hK _ _ ?_; clear hK K)
            refine wpAnyIn_ready (rs := [4]) (by kernel_rfl) (by simp) ?_
            refine AllReadyIn.cons rfl (fun K hK => ?_) ?_
            · (refine stepIn_append_rows _ rowMet rfl _ _ rfl w.heap.size (.slice Av pre.length cv) pre.length (flatM cs) rfl (own_keep HI.out.2.1.own (below_then HE.out.2.1 (m_below _ _))) (some ⟨w2.heap.size, 0, none⟩) 1 1 (encM ⟨x.1.2.s, A1, x.1.2.n, ca1, B1, x.1.2.k, cb1, x.1.2.m⟩) rfl rfl (lies_at (w := w2) rfl ⟨x.1.2.s, A1, x.1.2.n, ca1, B1, x.1.2.k, cb1, x.1.2.m⟩) encM_cells (by omega) (by have := HI.out.2.2.2.2.size; have := HE.out.2.1.size; rw [World.size_alloc]; omega) ?_; intro v3 w3 hown3 hgr3 hob3; obtain ⟨A3, c3', e3, -⟩ := own_slice hown3; subst e3; have hx3 := (HE.out.2.2.alloc (.cells #[.string x.1.2.s, .int .i64 x.1.2.m.kind, .slice A1 x.1.2.n ca1, .int .i64 x.1.2.m.rate, .slice B1 x.1.2.k cb1, .int .i64 x.1.2.m.time] 25)).kept hgr3 (Boxed.not_row HE.out.2.2 (by decide) (own_keep HI.out.2.1.own HE.out.2.1)); have cb3 := hx3.cell; have fb3 := hx3.frozen; have HG := Lib.hid (And.intro hown3 (And.intro hgr3 hx3)); clear hown3 hgr3 hob3 hx3)
              (refine hK _ _ ?_; clear hK K)
              refine wpAnyIn_ready (rs := [5]) (by kernel_rfl) (by simp) ?_
              refine AllReadyIn.cons rfl (fun K hK => ?_) ?_
              · go_simp
                (refine hK _ _ ?_; clear hK K)
                refine wpAnyIn_done (by kernel_rfl) ?_ _
                gi_wp2
                exact clone_end hsz (by omega) HI.out.1 HI.out.2.1 HI.out.2.2.1 HI.out.2.2.2.1 HI.out.2.2.2.2 HE.out.1 HE.out.2.1 HG.out.1 HG.out.2.1 HG.out.2.2
              exact AllReadyIn.nil
            exact AllReadyIn.nil
          exact AllReadyIn.nil
        refine AllReadyIn.cons rfl (fun K hK => ?_) ?_
        · go_simp
          (refine hK _ _ ?_; clear hK K)
          refine wpAnyIn_ready (rs := [0]) (by kernel_rfl) (by simp) ?_
          refine AllReadyIn.cons rfl (fun K hK => ?_) ?_
          · go_simp
            (refine hK _ _ ?_; clear hK K)
            refine wpAnyIn_ready (rs := [4]) (by kernel_rfl) (by simp) ?_
            refine AllReadyIn.cons rfl (fun K hK => ?_) ?_
            · (refine stepIn_append_rows _ rowMet rfl _ _ rfl w.heap.size (.slice Av pre.length cv) pre.length (flatM cs) rfl (own_keep HI.out.2.1.own (below_then HE.out.2.1 (m_below _ _))) (some ⟨w2.heap.size, 0, none⟩) 1 1 (encM ⟨x.1.2.s, A1, x.1.2.n, ca1, B1, x.1.2.k, cb1, x.1.2.m⟩) rfl rfl (lies_at (w := w2) rfl ⟨x.1.2.s, A1, x.1.2.n, ca1, B1, x.1.2.k, cb1, x.1.2.m⟩) encM_cells (by omega) (by have := HI.out.2.2.2.2.size; have := HE.out.2.1.size; rw [World.size_alloc]; omega) ?_; intro v3 w3 hown3 hgr3 hob3; obtain ⟨A3, c3', e3, -⟩ := own_slice hown3; subst e3; have hx3 := (HE.out.2.2.alloc (.cells #[.string x.1.2.s, .int .i64 x.1.2.m.kind, .slice A1 x.1.2.n ca1, .int .i64 x.1.2.m.rate, .slice B1 x.1.2.k cb1, .int .i64 x.1.2.m.time] 25)).kept hgr3 (Boxed.not_row HE.out.2.2 (by decide) (own_keep HI.out.2.1.own HE.out.2.1)); have cb3 := hx3.cell; have fb3 := hx3.frozen; have HG := Lib.hid (And.intro hown3 (And.intro hgr3 hx3)); clear hown3 hgr3 hob3 hx3)
              (refine hK _ _ ?_; clear hK K)
              refine wpAnyIn_ready (rs := [5]) (by kernel_rfl) (by simp) ?_
              refine AllReadyIn.cons rfl (fun K hK => ?_) ?_
              · go_simp
                (refine hK _ _ ?_; clear hK K)
                refine wpAnyIn_done (by kernel_rfl) ?_ _
                gi_wp2
                exact clone_end hsz (by omega) HI.out.1 HI.out.2.1 HI.out.2.2.1 HI.out.2.2.2.1 HI.out.2.2.2.2 HE.out.1 HE.out.2.1 HG.out.1 HG.out.2.1 HG.out.2.2
              exact AllReadyIn.nil
            exact AllReadyIn.nil
          exact AllReadyIn.nil
        exact AllReadyIn.nil
      exact AllReadyIn.nil
    exact AllReadyIn.nil
  case done =>
    rintro D ys W hD ⟨hF, hl⟩ ⟨hi, hB⟩ hK
    obtain ⟨⟨v, cs, k1, k2, k3⟩, k4⟩ := hi
    have hdat : (ys.map fun y => y.1.2.m) = datM es := by
      unfold datM
      conv => rhs; rw [← hF.all hl]
      rw [List.map_map]; rfl
    rw [hdat] at k3
    have hyl : ys.length = len := by omega
    rw [hyl] at k2
    obtain ⟨Av, cv, rfl, -⟩ := own_slice k2.own
    have d1 := k1.cell
    have HI := Lib.hid (And.intro k2 (And.intro k3 hB))
    clear k1 k2 k3 k4 hB
    gi_wp2
    refine ⟨by simp, .inl ⟨_, _, rfl, run_takeDeferred hK, ?_⟩⟩
    have hk : CKept (fun _ => False) W (W.putObj D (.deferred none)) := CKept.of_own (grownBy_putObj' _ D _) (fun r e => by cases e; exact ⟨_, hK, rfl⟩)
    exact ⟨_, results_tmp rfl _ _ _, ⟨Av, cv, cs, rfl, HI.out.1.kept hk, HI.out.2.1⟩, HI.out.2.2.trans (belowK_b (w := W0) hb0.size _ D _ _ hD hK rfl rfl)⟩
  case stop =>
    rintro D c pre W _ _ h _
    exact h.elim
end Go.Proofs.Ytikdolgcdkmmaaa

/-
  Blocks that are written into, whatever they hold. No statement of the seat is proved here.
-/
namespace Go.Proofs.Ytikdolgcdkmmaaa
open Go.RowKit

/-- A block of so many cells, whatever they are. -/
def Held (W : World) (g N : Nat) : Prop := ∃ cur t, W.heap[g]? = some (.cells cur t (0, 0)) ∧ cur.size = N
section
variable {W W' : World} {g N : Nat}
theorem Held.lt (h : Held W g N) : g < W.heap.size := by
  obtain ⟨cur, t, hh, _⟩ := h
  rcases Nat.lt_or_ge g W.heap.size with h | h
  · exact h
  · rw [Array.getElem?_eq_none h] at hh; cases hh
theorem Held.get (h : Held W g N) {i : Nat} (hi : i < N) : ∃ v, W.cell? ⟨g, i, none⟩ = some v := by
  obtain ⟨cur, t, hh, hs⟩ := h
  exact ⟨cur[i]'(by omega), by simp [World.cell?, hh, hs, hi]⟩
theorem Held.frozen (h : Held W g N) (i : Nat) : W.frozen? ⟨g, i, none⟩ = false := by
  obtain ⟨cur, t, hh, _⟩ := h
  simp [World.frozen?, hh]
theorem Held.same (h : Held W g N) (e : W'.heap[g]? = W.heap[g]?) : Held W' g N := by
  obtain ⟨cur, t, hh, hs⟩ := h
  exact ⟨cur, t, e.trans hh, hs⟩
theorem Held.set (h : Held W g N) (i : Nat) (u : Value) : Held (W.setCell ⟨g, i, none⟩ u) g N := by
  obtain ⟨cur, t, hh, hs⟩ := h
  refine ⟨cur.setIfInBounds i u, t, ?_, by simpa using hs⟩
  simp [World.setCell, Array.getElem?_modify, hh]
theorem Held.far (h : Held W g N) {q : Addr} (hp : g ≠ q.block) (u : Value) : Held (W.setCell q u) g N := h.same (Below.heap_setCell W q u g hp)
theorem Held.keep (h : Held W g N) (hb : Below W.heap.size W W') : Held W' g N := h.same (hb.block g h.lt)
theorem held_of {base n size cap : Nat} {el : TypeId} {a : Addr} {xs : List Value} (h : W.ownsRow base el size (.slice (some a) n cap) n xs) : a = ⟨a.block, 0, none⟩ ∧ base ≤ a.block ∧ Held W a.block (cap * size) ∧ n ≤ cap := by
  rcases h.2 with ⟨h1, _⟩ | ⟨g, c, cur, hv, hg, hh, hn, _, hs, _⟩
  · cases h1
  · injection hv with e1 e2 e3
    injection e1 with e1
    subst e1 e3
    exact ⟨rfl, hg, ⟨cur, el, hh, hs⟩, hn⟩
theorem own_none {base n size cap : Nat} {el : TypeId} {xs : List Value} (h : W.ownsRow base el size (.slice none n cap) n xs) : n = 0 := by
  rcases h.2 with ⟨_, h1⟩ | ⟨g, c, cur, hv, _⟩
  · exact h1
  · cases hv
end

section
variable {W : World}
theorem held_put {b i g' N : Nat} (h : Held W g' N) (u : Value) : Held (W.setCell ⟨b, i, none⟩ u) g' N := by
  by_cases e : g' = b
  · subst e; exact h.set i u
  · exact h.far e u
end
end Go.Proofs.Ytikdolgcdkmmaaa

/-
  What BatchLong leans on: one metric many times, and a clone that is written into. No statement of the seat is proved here.
-/
namespace Go.Proofs.Ytikdolgcdkmmaaa
open Go.RowKit
open Dc (D D0)

theorem fw_rep {C : Mt → Int} {m : Mt} {n : Nat} (hn : 0 < n) : fw C (List.replicate n m) = (0, C m) := by
  by_cases h : C m = 0
  · rw [fw_all fun x hx => by rw [(List.mem_replicate.1 hx).2]; exact h, h]
  · obtain ⟨k, rfl⟩ : ∃ k, n = k + 1 := ⟨n - 1, by omega⟩
    rw [List.replicate_succ]
    exact fw_first (a := []) (by simp) h
theorem fwB_rep {C : Mt → Int} {m : Mt} {n : Nat} (hn : 0 < n) (hl : n ≤ 1000) : fwB C (List.replicate n m) = (0, C m) := by
  unfold fwB
  rw [if_neg (by rw [List.length_replicate]; omega), fw_rep hn]
theorem fwB_rep0 {C : Mt → Int} {m : Mt} : fwB C (List.replicate 0 m) = (0, 0) := rfl
theorem fwB_many {C : Mt → Int} {m : Mt} {n : Nat} (hl : 1000 < n) : fwB C (List.replicate n m) = (1000, 12) := by
  unfold fwB
  rw [if_pos (by rw [List.length_replicate]; omega)]
theorem datM_rep (n : Nat) (e : En) : datM (List.replicate n e) = List.replicate n e.m := by unfold datM; rw [List.map_replicate]

/-- A clone's rows, whatever is written into them. W1: ahead of it. -/
structure WrI (W1 : World) (g c : Nat) (cs : List En) (W : World) : Prop where
  kept : Below W1.heap.size W1 W
  held : cs ≠ [] → Held W g (c * 6)
  low : cs ≠ [] → W1.heap.size ≤ g
  hd2 : ∀ (i : Nat) e, cs[i]? = some e → W.cell? ⟨g, i * 6 + 2, none⟩ = some (.slice e.A e.n e.ca)
  hd4 : ∀ (i : Nat) e, cs[i]? = some e → W.cell? ⟨g, i * 6 + 4, none⟩ = some (.slice e.B e.k e.cb)
  vals : ∀ e ∈ cs, ∀ a, e.A = some a → a = ⟨a.block, 0, none⟩ ∧ W1.heap.size ≤ a.block ∧ a.block ≠ g ∧ Held W a.block (e.ca * 3)
  tags : ∀ e ∈ cs, ∀ a, e.B = some a → a = ⟨a.block, 0, none⟩ ∧ W1.heap.size ≤ a.block ∧ a.block ≠ g ∧ Held W a.block (e.cb * 2)
  room : ∀ e ∈ cs, (e.A = none → e.n = 0) ∧ (e.B = none → e.k = 0) ∧ e.n ≤ e.ca ∧ e.k ≤ e.cb
section
variable {W1 W W' : World} {g c n : Nat} {cs : List En}
theorem WrI.mk_ {C : Option Addr} (ho : Owns W1.heap.size W (.slice C n c) n cs) (hb : Below W1.heap.size W1 W) : ∃ g, (cs ≠ [] → C = some ⟨g, 0, none⟩) ∧ WrI W1 g c cs W := by
  have hroom : ∀ e ∈ cs, (e.A = none → e.n = 0) ∧ (e.B = none → e.k = 0) ∧ e.n ≤ e.ca ∧ e.k ≤ e.cb := fun e he => by
    refine ⟨fun hA => own_none (hA ▸ (ho.ent e he).vals), fun hB => own_none (hB ▸ (ho.ent e he).tags), ?_, ?_⟩
    · obtain ⟨_, _, e1, h1, _⟩ := own_slice (ho.ent e he).vals
      injection e1 with _ _ e1
      omega
    · obtain ⟨_, _, e1, h1, _⟩ := own_slice (ho.ent e he).tags
      injection e1 with _ _ e1
      omega
  cases C with
  | none =>
    have h0 : cs = [] := List.eq_nil_of_length_eq_zero (by rw [own_lenM ho.own]; exact own_none ho.own)
    subst h0
    exact ⟨0, fun h => absurd rfl h, hb, fun h => absurd rfl h, fun h => absurd rfl h, fun i e he => by simp at he, fun i e he => by simp at he, by simp, by simp, hroom⟩
  | some ad =>
    obtain ⟨h1, h2, h3, _⟩ := held_of ho.own
    obtain ⟨g, off, sp⟩ := ad
    injection h1 with _ h1 h6
    subst h1 h6
    have hc : ∀ (i j : Nat) e u, cs[i]? = some e → j < 6 → (encM e)[j]? = some u → W.cell? ⟨g, i * 6 + j, none⟩ = some u := fun i j e u he hj hu => by
      obtain ⟨b, off, e1, hcell⟩ := Lies.of_own ho.own (i * 6 + j) u (by rw [flatM_get he hj]; exact hu)
      injection e1 with e1
      injection e1 with e1 e2
      subst e1 e2
      rw [Nat.zero_add] at hcell
      exact hcell
    refine ⟨g, fun _ => rfl, hb, fun _ => h3, fun _ => h2, fun i e he => hc i 2 e _ he (by omega) rfl, fun i e he => hc i 4 e _ he (by omega) rfl, fun e he a ha => ?_, fun e he a ha => ?_, hroom⟩
    · have hv := (ho.ent e he).vals
      rw [ha] at hv
      obtain ⟨k1, k2, k3, _⟩ := held_of hv
      exact ⟨k1, k2, fun e' => own_types2 hv ho.own (by decide) (g := a.block) rfl (by rw [e']; rfl), k3⟩
    · have hv := (ho.ent e he).tags
      rw [ha] at hv
      obtain ⟨k1, k2, k3, _⟩ := held_of hv
      exact ⟨k1, k2, fun e' => own_types2 hv ho.own (by decide) (g := a.block) rfl (by rw [e']; rfl), k3⟩
theorem WrI.next (h : WrI W1 g c cs W) (b : Below W.heap.size W W') : WrI W1 g c cs W' :=
  ⟨h.kept.trans (b.mono h.kept.size), fun hne => (h.held hne).keep b, h.low, fun i e he => (b.cell (cell_lt (h.hd2 i e he))).trans (h.hd2 i e he), fun i e he => (b.cell (cell_lt (h.hd4 i e he))).trans (h.hd4 i e he),
    fun e he a ha => let ⟨x, y, z, u⟩ := h.vals e he a ha; ⟨x, y, z, u.keep b⟩, fun e he a ha => let ⟨x, y, z, u⟩ := h.tags e he a ha; ⟨x, y, z, u.keep b⟩, h.room⟩
theorem WrI.put (h : WrI W1 g c cs W) {b i : Nat} (h1 : W1.heap.size ≤ b) (h2 : b ≠ g) (u : Value) : WrI W1 g c cs (W.setCell ⟨b, i, none⟩ u) :=
  ⟨h.kept.setCell (p := ⟨b, i, none⟩) h1 u, fun hne => held_put (h.held hne) u, h.low, fun j e he => (World.cell?_setCell_far _ _ _ _ h2).trans (h.hd2 j e he), fun j e he => (World.cell?_setCell_far _ _ _ _ h2).trans (h.hd4 j e he),
    fun e he a ha => let ⟨x, y, z, v⟩ := h.vals e he a ha; ⟨x, y, z, held_put v u⟩, fun e he a ha => let ⟨x, y, z, v⟩ := h.tags e he a ha; ⟨x, y, z, held_put v u⟩, h.room⟩
theorem WrI.name (h : WrI W1 g c cs W) (hne : cs ≠ []) (i : Nat) (u : Value) : WrI W1 g c cs (W.setCell ⟨g, i * 6, none⟩ u) :=
  ⟨h.kept.setCell (p := ⟨g, i * 6, none⟩) (h.low hne) u, fun hne => held_put (h.held hne) u, h.low, fun j e he => (World.cell?_setCell_other _ _ _ _ (by intro e; injection e with _ e; omega)).trans (h.hd2 j e he), fun j e he => (World.cell?_setCell_other _ _ _ _ (by intro e; injection e with _ e; omega)).trans (h.hd4 j e he),
    fun e he a ha => let ⟨x, y, z, v⟩ := h.vals e he a ha; ⟨x, y, z, held_put v u⟩, fun e he a ha => let ⟨x, y, z, v⟩ := h.tags e he a ha; ⟨x, y, z, held_put v u⟩, h.room⟩
end
end Go.Proofs.Ytikdolgcdkmmaaa
