/-
  The document's Copy. No statement of the seat is proved here.
-/
import Derived.Test.YteffankkelbhiaaMClone
namespace Go.Proofs.Yteffankkelbhiaa
open Go.RowKit
open Dc (D D0)

theorem own_apart {W W' : World} {base size n : Nat} {el : TypeId} {v : Value} {xs : List Value} (h : W.ownsRow base el size v n xs) (same : ∀ b, base ≤ b → b < W.heap.size → v.ownBlock = some b → W'.heap[b]? = W.heap[b]?) : W'.ownsRow base el size v n xs := by
  refine ⟨h.1, ?_⟩
  rcases h.2 with h2 | ⟨g, cap, cur, hv, hg, hh, r⟩
  · exact .inl h2
  · have hlt : g < W.heap.size := by
      rcases Nat.lt_or_ge g W.heap.size with h | h
      · exact h
      · rw [Array.getElem?_eq_none h] at hh; cases hh
    exact .inr ⟨g, cap, cur, hv, hg, (same g hg hlt (by rw [hv]; rfl)).trans hh, r⟩
theorem size_setCell (w : World) (q : Addr) (u : Value) : (w.setCell q u).heap.size = w.heap.size := by simp [World.setCell]

section
variable {w W W' : World} {s : ByteArray} {A B A' B' : Option Addr} {n k ca cb n' k' ca' cb' : Nat} {m : Mt} {kd rt tm : Int}
/-- The metric that is copied, and the result's block. -/
structure CpSt (w : World) (s : ByteArray) (kd : Int) (A : Option Addr) (n ca : Nat) (rt : Int) (B : Option Addr) (k cb : Nat) (tm : Int) (W : World) : Prop where
  kept : Below w.heap.size w W
  one : Box W w.heap.size 25 (mC s kd A n ca rt B k cb tm)
  two : Box W (w.heap.size + 1) 25 (mC ⟨#[]⟩ 0 none 0 0 0 none 0 0 0)
theorem CpSt.start (w : World) (s : ByteArray) (kd : Int) (A : Option Addr) (n ca : Nat) (rt : Int) (B : Option Addr) (k cb : Nat) (tm : Int) :
    CpSt w s kd A n ca rt B k cb tm ((w.alloc (.cells #[.string s, .int .i64 kd, .slice A n ca, .int .i64 rt, .slice B k cb, .int .i64 tm] 25)).alloc (.cells #[.string ⟨#[]⟩, .int .i64 0, .slice none 0 0, .int .i64 0, .slice none 0 0, .int .i64 0] 25)) := by
  refine ⟨below_then (m_below _ _) (m_below _ _), (Box.new _ _ (mC s kd A n ca rt B k cb tm)).alloc _, ?_⟩
  have := Box.new (w.alloc (.cells #[.string s, .int .i64 kd, .slice A n ca, .int .i64 rt, .slice B k cb, .int .i64 tm] 25)) 25 (mC ⟨#[]⟩ 0 none 0 0 0 none 0 0 0)
  rw [size_alloc] at this
  exact this
theorem CpSt.alloc (h : CpSt w s kd A n ca rt B k cb tm W) (o : Obj) : CpSt w s kd A n ca rt B k cb tm (W.alloc o) := ⟨below_then h.kept (m_below _ _), h.one.alloc _, h.two.alloc _⟩
theorem CpSt.size (h : CpSt w s kd A n ca rt B k cb tm W) : w.heap.size + 1 + 1 ≤ W.heap.size := h.two.lt
theorem CpSt.grown (h : CpSt w s kd A n ca rt B k cb tm W) {g : Nat} (hg : W.grownBy W' (some g)) (hlt : w.heap.size + 1 + 1 ≤ g) : CpSt w s kd A n ca rt B k cb tm W' := by
  refine ⟨h.kept.grown hg h.kept.size fun k hk => ?_, (hg.block _ h.one.lt fun hc => ?_).trans h.one, (hg.block _ h.two.lt fun hc => ?_).trans h.two⟩
  · injection hk with hk; omega
  · injection hc with hc; omega
  · injection hc with hc; omega
theorem CpSt.set2 (h : CpSt w s kd A n ca rt B k cb tm W) (A' : Option Addr) (n' ca' : Nat) : CpSt w s kd A' n' ca' rt B k cb tm (W.setCell ⟨w.heap.size, 2, none⟩ (.slice A' n' ca')) :=
  ⟨below_set h.kept (Nat.le_refl _) 2 _, h.one.set 2 _, h.two.far (by show w.heap.size + 1 ≠ w.heap.size; omega) _⟩
theorem CpSt.set4 (h : CpSt w s kd A n ca rt B k cb tm W) (B' : Option Addr) (k' cb' : Nat) : CpSt w s kd A n ca rt B' k' cb' tm (W.setCell ⟨w.heap.size, 4, none⟩ (.slice B' k' cb')) :=
  ⟨below_set h.kept (Nat.le_refl _) 4 _, h.one.set 4 _, h.two.far (by show w.heap.size + 1 ≠ w.heap.size; omega) _⟩
theorem own_sl {base : Nat} {el : TypeId} {size : Nat} {v : Value} {xs : List Value} (h : W.ownsRow base el size v n xs) : ∃ A cap, v = .slice A n cap := by
  obtain ⟨A, cap, e, _⟩ := own_slice h
  exact ⟨A, cap, e⟩

theorem CpSt.emptyT (h : CpSt w s kd A n ca rt B k cb tm W) (A' : Option Addr) (n' ca' : Nat) : ((W.setCell ⟨w.heap.size, 2, none⟩ (.slice A' n' ca')).alloc (.cells #[] 47)).ownsRow (w.heap.size + 1 + 1) 47 2 (.slice (some ⟨W.heap.size, 0, none⟩) 0 0) 0 (flat []) := by
  have := own_empty (W.setCell ⟨w.heap.size, 2, none⟩ (.slice A' n' ca'))
  rw [size_setCell] at this
  exact own_base this h.size
theorem CpSt.ownD (_h : CpSt w s kd A n ca rt B k cb tm W) {ds : List D} (ho : W.ownsRow (w.heap.size + 1 + 1) 45 3 (.slice A' n' ca') n' (flatD ds)) {o : Obj} (hg : ((W.setCell ⟨w.heap.size, 2, none⟩ (.slice A' n' ca')).alloc o).grownBy W' (some W.heap.size)) : W'.ownsRow (w.heap.size + 1 + 1) 45 3 (.slice A' n' ca') n' (flatD ds) := by
  refine own_apart ho fun b hb1 hb2 _ => ?_
  rw [hg.block b (by rw [size_alloc, size_setCell]; omega) (fun hc => by injection hc with hc; omega), Below.heap_alloc _ _ b (by rw [size_setCell]; exact hb2), Below.heap_setCell _ _ _ b (by show b ≠ w.heap.size; omega)]

set_option maxRecDepth 100000 in
set_option maxHeartbeats 4000000 in
theorem copy_calls7 (h : MIs w s A n B k m) (hz : Small m) : Calls Try.prog 28 #[mV s m.kind A n ca m.rate B k cb m.time] w (CloneP w s n k m) := by
  have hnz : n ≤ 1000 := by have := h.vlen; have := hz.vals; omega
  have hkz : k ≤ 1000 := by have := h.tlen; have := hz.tags; omega
  obtain ⟨kd, hkd⟩ : ∃ x, x = m.kind := ⟨_, rfl⟩
  obtain ⟨rt, hrt⟩ : ∃ x, x = m.rate := ⟨_, rfl⟩
  obtain ⟨tm, htm⟩ : ∃ x, x = m.time := ⟨_, rfl⟩
  rw [← hkd, ← hrt, ← htm]
  have HH := Lib.hid (And.intro h (And.intro hkd (And.intro hrt htm)))
  have HS0 := Lib.hid ((CpSt.start w s kd A n ca rt B k cb tm).alloc (.cells #[] 45))
  have hoe := own_emptyD ((w.alloc (.cells #[.string s, .int .i64 kd, .slice A n ca, .int .i64 rt, .slice B k cb, .int .i64 tm] 25)).alloc (.cells #[.string ⟨#[]⟩, .int .i64 0, .slice none 0 0, .int .i64 0, .slice none 0 0, .int .i64 0] 25))
  rw [size_alloc, size_alloc] at hoe
  have HO := Lib.hid hoe
  have HD := Lib.hid (h.vals.keep HS0.out.kept)
  have HL := Lib.hid (show (flatD m.vals).length = n * 3 by rw [flatD_length, h.vlen])
  have HL2 := Lib.hid (show (flat m.tags).length = k * 2 by rw [flat_length, h.tlen])
  unfold mV
  clear h hz hkd hrt htm hoe
  go_enter Try.func28, Try.ntmps28
  go_wp2_with (first
    | (at_builtin; refine wpList_append_rows _ rowDec rfl (.tmp 3) (.tmp 5) rfl (w.heap.size + 1 + 1) _ 0 (flatD []) rfl HO.out A n ca (flatD m.vals) rfl HL.out HD.out flatD_cells (by omega) HS0.out.size ?_; intro v1 w1 hown hgr hob; rw [Nat.zero_add, flatD_nil, List.nil_append] at hown; obtain ⟨A', ca', e0⟩ := own_sl hown; subst e0; have HS1 := Lib.hid (HS0.out.grown hgr (Nat.le_refl _)); have HO1 := Lib.hid hown; clear hown hgr hob HO HD HS0; have a2 : w1.cell? ⟨w.heap.size, 2, none⟩ = some (.slice A n ca) := HS1.out.one.cell 2; have f2 := HS1.out.one.frozen 2; have e4 : ∀ o, ((w1.setCell ⟨w.heap.size, 2, none⟩ (.slice A' n ca')).alloc o).cell? ⟨w.heap.size, 4, none⟩ = some (.slice B k cb) := fun o => ((HS1.out.set2 A' n ca').alloc o).one.cell 4)
    | (at_builtin; refine wpList_append_rows _ rowTag rfl (.tmp 8) (.tmp 10) rfl (w.heap.size + 1 + 1) _ 0 (flat []) rfl (CpSt.emptyT HS1.out A' n ca') B k cb (flat m.tags) rfl HL2.out (HH.out.1.tags.keep ((HS1.out.set2 A' n ca').alloc _).kept) flat_cells (by omega) ((HS1.out.set2 A' n ca').alloc _).size ?_; intro v2 w2 hown hgr hob; rw [Nat.zero_add, flat_nil, List.nil_append] at hown; obtain ⟨B', cb', e0⟩ := own_sl hown; subst e0; have HS2 := Lib.hid (((HS1.out.set2 A' n ca').alloc _).grown hgr HS1.out.size); have HO2 := Lib.hid (And.intro (CpSt.ownD HS1.out HO1.out hgr) hown); clear hown hgr hob HO1 HS1 a2 f2 e4; have x3 := HS2.out.one; have y3 := HS2.out.two; have c0 : w2.cell? ⟨w.heap.size, 0, none⟩ = some (.string s) := x3.cell 0; have c1 : w2.cell? ⟨w.heap.size, 1, none⟩ = some (.int .i64 kd) := x3.cell 1; have c2 : w2.cell? ⟨w.heap.size, 2, none⟩ = some (.slice A' n ca') := x3.cell 2; have c3 : w2.cell? ⟨w.heap.size, 3, none⟩ = some (.int .i64 rt) := x3.cell 3; have c4 : w2.cell? ⟨w.heap.size, 4, none⟩ = some (.slice B k cb) := x3.cell 4; have c5 : w2.cell? ⟨w.heap.size, 5, none⟩ = some (.int .i64 tm) := x3.cell 5; have f4 := x3.frozen 4; have r0 : w2.cell? ⟨w.heap.size + 1, 0, none⟩ = some (.string ⟨#[]⟩) := y3.cell 0; have r1 : w2.cell? ⟨w.heap.size + 1, 1, none⟩ = some (.int .i64 0) := y3.cell 1; have r2 : w2.cell? ⟨w.heap.size + 1, 2, none⟩ = some (.slice none 0 0) := y3.cell 2; have r3 : w2.cell? ⟨w.heap.size + 1, 3, none⟩ = some (.int .i64 0) := y3.cell 3; have r4 : w2.cell? ⟨w.heap.size + 1, 4, none⟩ = some (.slice none 0 0) := y3.cell 4; have r5 : w2.cell? ⟨w.heap.size + 1, 5, none⟩ = some (.int .i64 0) := y3.cell 5; have g0 := y3.frozen 0; have g1 := y3.frozen 1; have g2 := y3.frozen 2; have g3 := y3.frozen 3; have g4 := y3.frozen 4; have g5 := y3.frozen 5; clear x3 y3))
  have HX4 := HS2.out.set4 B' k cb'
  have hom : OwnM (w.heap.size + 1 + 1) (w2.setCell ⟨w.heap.size, 4, none⟩ (.slice B' k cb')) s A' n ca' B' k cb' m := OwnM.put ⟨HH.out.1.name, HO2.out.1, HO2.out.2⟩ (q := ⟨w.heap.size, 4, none⟩) (by show w.heap.size < _; omega) (.slice B' k cb')
  refine ret_met1 rfl rfl rfl (putM_is HX4.two) ⟨⟨A', ca', B', cb', ?_, ?_⟩, putM_below HX4.kept (by omega)⟩
  · obtain ⟨_, h1, h2, h3⟩ := HH.out
    rw [h1, h2, h3]; rfl
  · exact ((((((hom.put (q := ⟨w.heap.size + 1, 0, none⟩) (Nat.lt_succ_self _) _).put (q := ⟨w.heap.size + 1, 1, none⟩) (Nat.lt_succ_self _) _).put (q := ⟨w.heap.size + 1, 2, none⟩) (Nat.lt_succ_self _) _).put (q := ⟨w.heap.size + 1, 3, none⟩) (Nat.lt_succ_self _) _).put (q := ⟨w.heap.size + 1, 4, none⟩) (Nat.lt_succ_self _) _).put (q := ⟨w.heap.size + 1, 5, none⟩) (Nat.lt_succ_self _) _).low (by omega)
end
end Go.Proofs.Yteffankkelbhiaa
