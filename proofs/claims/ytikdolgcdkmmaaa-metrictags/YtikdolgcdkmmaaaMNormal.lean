/-
  Package metric: Normal, Is and Same. No statement of the seat is proved here.
-/
import Derived.Test.YtikdolgcdkmmaaaMForms
import Derived.Test.YtikdolgcdkmmaaaMEqual
import Derived.Test.YtikdolgcdkmmaaaTN0
namespace Go.Proofs.Ytikdolgcdkmmaaa
open Go.RowKit
open Dc (D D0)

theorem load_met {w : World} {g : Nat} {a b c d e f : Value} (h : Box w g 25 [a, b, c, d, e, f]) : (loadVar 25 ⟨g, 0, none⟩).run Try.prog w = .ok (.agg #[a, b, c, d, e, f]) w := by
  have c0 : w.cell? ⟨g, 0, none⟩ = some a := h.cell 0
  have c1 : w.cell? ⟨g, 1, none⟩ = some b := h.cell 1
  have c2 : w.cell? ⟨g, 2, none⟩ = some c := h.cell 2
  have c3 : w.cell? ⟨g, 3, none⟩ = some d := h.cell 3
  have c4 : w.cell? ⟨g, 4, none⟩ = some e := h.cell 4
  have c5 : w.cell? ⟨g, 5, none⟩ = some f := h.cell 5
  simp [go_sem, c0, c1, c2, c3, c4, c5]
/-- A metric and a number are returned. -/
theorem ret_met {fn : Func} {p u : Tmp} (hres : fn.results = #[.cell p 25, .tmp u]) {R : Ending → World → Prop} {A : Act} {w : World} {g : Nat} {a b c d e f v : Value} (hp : A.tmps.getD p undef = .pointer (some ⟨g, 0, none⟩)) (hu : A.tmps.getD u undef = v) (hd : A.defers = [])
    (hb : Box w g 25 [a, b, c, d, e, f]) (hR : R (.returned (.tuple #[.agg #[a, b, c, d, e, f], v])) w) : bodyPost Try.prog fn R .ret A w := by
  refine bodyPost_ret ?_ hd hR
  rw [results_cell_tmp hres, hp, hu, addr_is]
  simp only [Result.andThen]
  rw [load_met hb]
/-- A metric is returned. -/
theorem ret_met1 {fn : Func} {p : Tmp} (hres : fn.results = #[.cell p 25]) {R : Ending → World → Prop} {A : Act} {w : World} {g : Nat} {a b c d e f : Value} (hp : A.tmps.getD p undef = .pointer (some ⟨g, 0, none⟩)) (hd : A.defers = [])
    (hb : Box w g 25 [a, b, c, d, e, f]) (hR : R (.returned (.agg #[a, b, c, d, e, f])) w) : bodyPost Try.prog fn R .ret A w := by
  refine bodyPost_ret ?_ hd hR
  rw [results_cell1 hres, hp, addr_is]
  simp only [Result.andThen]
  rw [load_met hb]

/-! A store into a metric's own block leaves rows of Decs, and of tags, alone. -/
section
variable {w : World} {g : Nat} {t : TypeId} {s : ByteArray} {kd rt tm : Int} {A0 B0 : Option Addr} {n0 ca0 k0 cb0 : Nat}
theorem mC_str {j : Nat} {u : ByteArray} (h : (mC s kd A0 n0 ca0 rt B0 k0 cb0 tm)[j]? = some (.string u)) : j = 0 := by
  unfold mC at h
  match j, h with
  | 0, _ => rfl
  | 1, h => simp at h
  | 2, h => simp at h
  | 3, h => simp at h
  | 4, h => simp at h
  | 5, h => simp at h
  | j + 6, h => simp at h
theorem mC_bool {j : Nat} {u : Bool} (h : (mC s kd A0 n0 ca0 rt B0 k0 cb0 tm)[j]? = some (.bool u)) : False := by
  unfold mC at h
  match j, h with
  | 0, h => simp at h
  | 1, h => simp at h
  | 2, h => simp at h
  | 3, h => simp at h
  | 4, h => simp at h
  | 5, h => simp at h
  | j + 6, h => simp at h
theorem cell_far {w : World} {q a : Addr} (h : a.block ≠ q.block) (u : Value) : (w.setCell q u).cell? a = w.cell? a := by unfold World.cell?; rw [Below.heap_setCell w q u a.block h]
theorem Tags.set_met {B : Option Addr} {ts : List Tg} (h : Tags w B ts) (hb : Box w g t (mC s kd A0 n0 ca0 rt B0 k0 cb0 tm)) (i : Nat) (u : Value) : Tags (w.setCell ⟨g, i, none⟩ u) B ts := by
  intro j v hv
  obtain ⟨b, off, e, hc⟩ := h j v hv
  have hne : b ≠ g := by
    rintro rfl
    have hj : j / 2 < ts.length := by
      have := (List.getElem?_eq_some_iff.1 hv).1
      rw [flat_length] at this
      omega
    obtain ⟨b', off', e', k0, k1⟩ := h.at_ hj
    rw [e] at e'
    injection e' with e'
    injection e' with e1 e2
    subst e1 e2
    rw [hb.cell] at k0 k1
    have := mC_str k0
    have := mC_str k1
    omega
  exact ⟨b, off, e, (cell_far (q := ⟨g, i, none⟩) (a := ⟨b, off + j, none⟩) hne u).trans hc⟩
theorem Decs.set_met {A : Option Addr} {ds : List D} (h : Decs w A ds) (hb : Box w g t (mC s kd A0 n0 ca0 rt B0 k0 cb0 tm)) (i : Nat) (u : Value) : Decs (w.setCell ⟨g, i, none⟩ u) A ds := by
  intro j v hv
  obtain ⟨b, off, e, hc⟩ := h j v hv
  have hne : b ≠ g := by
    rintro rfl
    have hj : j / 3 < ds.length := by
      have := (List.getElem?_eq_some_iff.1 hv).1
      rw [flatD_length] at this
      omega
    obtain ⟨b', off', p, x, y, e', k0, k1, k2, _⟩ := h.get hj
    rw [e] at e'
    injection e' with e'
    injection e' with e1 e2
    subst e1 e2
    rw [hb.cell] at k0
    exact mC_bool k0
  exact ⟨b, off, e, (cell_far (q := ⟨g, i, none⟩) (a := ⟨b, off + j, none⟩) hne u).trans hc⟩
theorem MIs.set_met {s' : ByteArray} {A B : Option Addr} {n k : Nat} {m : Mt} (h : MIs w s' A n B k m) (hb : Box w g t (mC s kd A0 n0 ca0 rt B0 k0 cb0 tm)) (i : Nat) (u : Value) : MIs (w.setCell ⟨g, i, none⟩ u) s' A n B k m :=
  ⟨h.name, h.vlen, h.vals.set_met hb i u, h.tlen, h.tags.set_met hb i u⟩
/-- A whole metric is stored. -/
def putM (w : World) (g : Nat) (s : ByteArray) (kd : Int) (A0 : Option Addr) (n0 ca0 : Nat) (rt : Int) (B0 : Option Addr) (k0 cb0 : Nat) (tm : Int) : World :=
  (((((w.setCell ⟨g, 0, none⟩ (.string s)).setCell ⟨g, 1, none⟩ (.int .i64 kd)).setCell ⟨g, 2, none⟩ (.slice A0 n0 ca0)).setCell ⟨g, 3, none⟩ (.int .i64 rt)).setCell ⟨g, 4, none⟩ (.slice B0 k0 cb0)).setCell ⟨g, 5, none⟩ (.int .i64 tm)
theorem putM_is {s' : ByteArray} {kd' rt' tm' : Int} {A1 B1 : Option Addr} {n1 ca1 k1 cb1 : Nat} (hb : Box w g t (mC s kd A0 n0 ca0 rt B0 k0 cb0 tm)) : Box (putM w g s' kd' A1 n1 ca1 rt' B1 k1 cb1 tm') g t (mC s' kd' A1 n1 ca1 rt' B1 k1 cb1 tm') :=
  ((((((hb.set 0 _).set 1 _).set 2 _).set 3 _).set 4 _).set 5 _)
theorem putM_below {w0 : World} {s' : ByteArray} {kd' rt' tm' : Int} {A1 B1 : Option Addr} {n1 ca1 k1 cb1 : Nat} (h : Below w0.heap.size w0 w) (hg : w0.heap.size ≤ g) : Below w0.heap.size w0 (putM w g s' kd' A1 n1 ca1 rt' B1 k1 cb1 tm') :=
  below_set (below_set (below_set (below_set (below_set (below_set h hg _ _) hg _ _) hg _ _) hg _ _) hg _ _) hg _ _
theorem putM_mis {s' s2 : ByteArray} {kd' rt' tm' : Int} {A B A1 B1 : Option Addr} {n k n1 ca1 k1 cb1 : Nat} {m : Mt} (h : MIs w s2 A n B k m) (hb : Box w g t (mC s kd A0 n0 ca0 rt B0 k0 cb0 tm)) : MIs (putM w g s' kd' A1 n1 ca1 rt' B1 k1 cb1 tm') s2 A n B k m := by
  have b0 : Box (w.setCell ⟨g, 0, none⟩ (.string s')) g t (mC s' kd A0 n0 ca0 rt B0 k0 cb0 tm) := hb.set 0 _
  have b1 : Box ((w.setCell ⟨g, 0, none⟩ (.string s')).setCell ⟨g, 1, none⟩ (.int .i64 kd')) g t (mC s' kd' A0 n0 ca0 rt B0 k0 cb0 tm) := b0.set 1 _
  have b2 : Box (((w.setCell ⟨g, 0, none⟩ (.string s')).setCell ⟨g, 1, none⟩ (.int .i64 kd')).setCell ⟨g, 2, none⟩ (.slice A1 n1 ca1)) g t (mC s' kd' A1 n1 ca1 rt B0 k0 cb0 tm) := b1.set 2 _
  have b3 : Box ((((w.setCell ⟨g, 0, none⟩ (.string s')).setCell ⟨g, 1, none⟩ (.int .i64 kd')).setCell ⟨g, 2, none⟩ (.slice A1 n1 ca1)).setCell ⟨g, 3, none⟩ (.int .i64 rt')) g t (mC s' kd' A1 n1 ca1 rt' B0 k0 cb0 tm) := b2.set 3 _
  have b4 : Box (((((w.setCell ⟨g, 0, none⟩ (.string s')).setCell ⟨g, 1, none⟩ (.int .i64 kd')).setCell ⟨g, 2, none⟩ (.slice A1 n1 ca1)).setCell ⟨g, 3, none⟩ (.int .i64 rt')).setCell ⟨g, 4, none⟩ (.slice B1 k1 cb1)) g t (mC s' kd' A1 n1 ca1 rt' B1 k1 cb1 tm) := b3.set 4 _
  exact (((((h.set_met hb 0 _).set_met b0 1 _).set_met b1 2 _).set_met b2 3 _).set_met b3 4 _).set_met b4 5 _
end

/-- What Normal tells. -/
def NormMP (w : World) (m : Mt) (e : Ending) (w' : World) : Prop :=
  (∃ s A n ca B k cb, e = .returned (.tuple #[mV s (nM m).kind A n ca (nM m).rate B k cb (nM m).time, .int .i64 (codeM m)]) ∧ MIs w' s A n B k (nM m)) ∧ Below w.heap.size w w'
/-- The same, its rows in new memory. -/
def NormMF (w : World) (m : Mt) (e : Ending) (w' : World) : Prop :=
  (∃ s A n ca B k cb, e = .returned (.tuple #[mV s (nM m).kind A n ca (nM m).rate B k cb (nM m).time, .int .i64 (codeM m)]) ∧ MIs w' s A n B k (nM m) ∧ Fresh w.heap.size A ∧ Fresh w.heap.size B) ∧ Below w.heap.size w w'
theorem NormMF.p {w w' : World} {m : Mt} {e : Ending} (h : NormMF w m e w') : NormMP w m e w' := by obtain ⟨⟨s, A, n, ca, B, k, cb, h1, h2, _⟩, hb⟩ := h; exact ⟨⟨s, A, n, ca, B, k, cb, h1, h2⟩, hb⟩
theorem mis0 (w : World) (A B : Option Addr) : MIs w ⟨#[]⟩ A 0 B 0 M0 := ⟨rfl, rfl, Decs.nil, rfl, Tags.nil⟩

section
variable {w : World} {s : ByteArray} {A B : Option Addr} {n k ca cb : Nat} {m : Mt}

set_option maxRecDepth 100000 in
set_option maxHeartbeats 4000000 in
theorem mnormal_fresh (h : MIs w s A n B k m) (hz : Small m) : Calls Try.prog 13 #[mV s m.kind A n ca m.rate B k cb m.time] w (NormMF w m) := by
  have hF := fun W (b : Below w.heap.size w W) => forms_calls (cap := ca) h.vlen (h.vals.keep b) (by have := h.vlen; have := hz.vals; omega) hz.fits
  have hT := fun W (b : Below w.heap.size w W) => normal_fresh (cap := cb) h.tlen (h.tags.keep b) (by have := h.tlen; have := hz.tags; omega)
  have hC := fun W (b : Below w.heap.size w W) A' ca' (hd : Decs W A' (valM m).vals) => mcheck_calls (w := W) (s := s) (A := A') (B := B) (n := n) (k := k) (ca := ca') (cb := cb) (m := valM m) ⟨h.name, by show (m.vals.map form).length = n; rw [List.length_map]; exact h.vlen, hd, h.tlen, h.tags.keep b⟩ hz.val
  obtain ⟨q, hq⟩ : ∃ q, codeM m = q := ⟨_, rfl⟩
  simp only [checkM_val, hq] at hC
  obtain ⟨kd, hkd⟩ : ∃ x, x = m.kind := ⟨_, rfl⟩
  obtain ⟨rt, hrt⟩ : ∃ x, x = m.rate := ⟨_, rfl⟩
  obtain ⟨tm, htm⟩ : ∃ x, x = m.time := ⟨_, rfl⟩
  simp only [show (valM m).kind = m.kind from rfl, show (valM m).rate = m.rate from rfl, show (valM m).time = m.time from rfl] at hC
  rw [← hkd, ← hrt, ← htm] at hC ⊢
  have HF := Lib.hid hF
  have HT := Lib.hid hT
  have HH := Lib.hid (And.intro h (And.intro hq (And.intro hkd (And.intro hrt htm))))
  have b0 := ((Kb.start w).push 25 (mC s kd A n ca rt B k cb tm)).push 25 (mC ⟨#[]⟩ 0 none 0 0 0 none 0 0 0)
  rw [size_alloc] at b0
  unfold mC at b0
  have HB := Lib.hid b0
  unfold mV at hC ⊢
  have HC := Lib.hid hC
  clear hF hT hC h hz hq hkd hrt htm b0
  go_enter Try.func13, Try.ntmps13
  go_wp2_with fail
  refine (HF.out _ HB.out.kept).mono ?_
  rintro e w1 ⟨⟨v, rfl, hown⟩, hb⟩
  obtain ⟨A', ca', rfl, _⟩ := own_slice_at hown
  have HFA := Lib.hid ((Fresh.own hown).low (show w.heap.size ≤ _ from HB.out.kept.size))
  have x0 : Box w1 w.heap.size 25 (mC s kd A n ca rt B k cb tm) := (HB.out.next hb).box _ (.tail _ (.head _))
  have y0 : Box w1 (w.heap.size + 1) 25 (mC ⟨#[]⟩ 0 none 0 0 0 none 0 0 0) := (HB.out.next hb).box _ (.head _)
  have hbel := (HB.out.next hb).kept
  have hd1 : Decs (w1.setCell ⟨w.heap.size, 2, none⟩ (.slice A' n ca')) A' (valM m).vals := (Decs.of_own hown).set_met x0 2 _
  have a2 : w1.cell? ⟨w.heap.size, 2, none⟩ = some (.slice A n ca) := x0.cell 2
  have f2 := x0.frozen 2
  have x1 : Box (w1.setCell ⟨w.heap.size, 2, none⟩ (.slice A' n ca')) w.heap.size 25 (mC s kd A' n ca' rt B k cb tm) := x0.set 2 _
  have y1 := y0.far (q := ⟨w.heap.size, 2, none⟩) (by show w.heap.size + 1 ≠ w.heap.size; omega) (.slice A' n ca')
  have hbel1 := below_set hbel (Nat.le_refl _) 2 (.slice A' n ca')
  have HX := Lib.hid (And.intro hd1 (And.intro x1 (And.intro y1 hbel1)))
  have a0 : w1.cell? ⟨w.heap.size, 0, none⟩ = some (.string s) := x0.cell 0
  have a1 : w1.cell? ⟨w.heap.size, 1, none⟩ = some (.int .i64 kd) := x0.cell 1
  have a3 : w1.cell? ⟨w.heap.size, 3, none⟩ = some (.int .i64 rt) := x0.cell 3
  have a4 : w1.cell? ⟨w.heap.size, 4, none⟩ = some (.slice B k cb) := x0.cell 4
  have a5 : w1.cell? ⟨w.heap.size, 5, none⟩ = some (.int .i64 tm) := x0.cell 5
  clear hb hown x0 y0 hbel hd1 x1 y1 hbel1 HB HF
  go_wp2_with fail
  refine (HC.out _ HX.out.2.2.2 A' ca' HX.out.1).mono ?_
  rintro e w2 ⟨rfl, hb⟩
  clear a0 a1 a2 a3 a4 a5 f2
  have x2 := HX.out.2.1.keep hb
  have y2 := HX.out.2.2.1.keep hb
  have HX2 := Lib.hid (And.intro (HX.out.1.keep hb) (And.intro x2 (And.intro y2 (below_then HX.out.2.2.2 hb))))
  have r0 : w2.cell? ⟨w.heap.size + 1, 0, none⟩ = some (.string ⟨#[]⟩) := y2.cell 0
  have r1 : w2.cell? ⟨w.heap.size + 1, 1, none⟩ = some (.int .i64 0) := y2.cell 1
  have r2 : w2.cell? ⟨w.heap.size + 1, 2, none⟩ = some (.slice none 0 0) := y2.cell 2
  have r3 : w2.cell? ⟨w.heap.size + 1, 3, none⟩ = some (.int .i64 0) := y2.cell 3
  have r4 : w2.cell? ⟨w.heap.size + 1, 4, none⟩ = some (.slice none 0 0) := y2.cell 4
  have r5 : w2.cell? ⟨w.heap.size + 1, 5, none⟩ = some (.int .i64 0) := y2.cell 5
  have g0 := y2.frozen 0
  have g1 := y2.frozen 1
  have g2 := y2.frozen 2
  have g3 := y2.frozen 3
  have g4 := y2.frozen 4
  have g5 := y2.frozen 5
  clear hb HX HC
  by_cases hq0 : q = 0
  · subst hq0
    clear r0 r1 r2 r3 r4 r5 g0 g1 g2 g3 g4 g5
    have a4 : w2.cell? ⟨w.heap.size, 4, none⟩ = some (.slice B k cb) := x2.cell 4
    clear x2 y2
    go_wp2_with fail
    refine (HT.out _ HX2.out.2.2.2).mono ?_
    rintro e w3 ⟨⟨B', cb', rfl, ht, hfr⟩, hb⟩
    have HFB := Lib.hid (hfr.low (show w.heap.size ≤ _ from HX2.out.2.2.2.size))
    clear hfr
    clear a4
    have x3 := HX2.out.2.1.keep hb
    have y3 := HX2.out.2.2.1.keep hb
    have hbel3 := below_then HX2.out.2.2.2 hb
    have hm3 : MIs w3 s A' n B' (norm m.tags).length (formM m) := ⟨HH.out.1.name, by show (m.vals.map form).length = n; rw [List.length_map]; exact HH.out.1.vlen, HX2.out.1.keep hb, rfl, ht⟩
    have x4 : Box (w3.setCell ⟨w.heap.size, 4, none⟩ (.slice B' (norm m.tags).length cb')) w.heap.size 25 (mC s kd A' n ca' rt B' (norm m.tags).length cb' tm) := x3.set 4 _
    have y4 := y3.far (q := ⟨w.heap.size, 4, none⟩) (by show w.heap.size + 1 ≠ w.heap.size; omega) (.slice B' (norm m.tags).length cb')
    have hm4 := hm3.set_met x3 4 (.slice B' (norm m.tags).length cb')
    have hbel4 := below_set hbel3 (Nat.le_refl _) 4 (.slice B' (norm m.tags).length cb')
    have HX4 := Lib.hid (And.intro hm4 (And.intro y4 hbel4))
    have c0 : w3.cell? ⟨w.heap.size, 0, none⟩ = some (.string s) := x3.cell 0
    have c1 : w3.cell? ⟨w.heap.size, 1, none⟩ = some (.int .i64 kd) := x3.cell 1
    have c2 : w3.cell? ⟨w.heap.size, 2, none⟩ = some (.slice A' n ca') := x3.cell 2
    have c3 : w3.cell? ⟨w.heap.size, 3, none⟩ = some (.int .i64 rt) := x3.cell 3
    have c4 : w3.cell? ⟨w.heap.size, 4, none⟩ = some (.slice B k cb) := x3.cell 4
    have c5 : w3.cell? ⟨w.heap.size, 5, none⟩ = some (.int .i64 tm) := x3.cell 5
    have f4 := x3.frozen 4
    have r0 : w3.cell? ⟨w.heap.size + 1, 0, none⟩ = some (.string ⟨#[]⟩) := y3.cell 0
    have r1 : w3.cell? ⟨w.heap.size + 1, 1, none⟩ = some (.int .i64 0) := y3.cell 1
    have r2 : w3.cell? ⟨w.heap.size + 1, 2, none⟩ = some (.slice none 0 0) := y3.cell 2
    have r3 : w3.cell? ⟨w.heap.size + 1, 3, none⟩ = some (.int .i64 0) := y3.cell 3
    have r4 : w3.cell? ⟨w.heap.size + 1, 4, none⟩ = some (.slice none 0 0) := y3.cell 4
    have r5 : w3.cell? ⟨w.heap.size + 1, 5, none⟩ = some (.int .i64 0) := y3.cell 5
    have g0 := y3.frozen 0
    have g1 := y3.frozen 1
    have g2 := y3.frozen 2
    have g3 := y3.frozen 3
    have g4 := y3.frozen 4
    have g5 := y3.frozen 5
    clear x3 y3 hbel3 hm3 x4 y4 hm4 hbel4 ht hb HX2 HT
    generalize (norm m.tags).length = kk at *
    go_wp2_with fail
    refine ret_met rfl rfl rfl rfl (putM_is HX4.out.2.1) ⟨⟨s, A', n, ca', B', kk, cb', ?_, ?_, HFA.out, HFB.out⟩, putM_below HX4.out.2.2 (by omega)⟩
    · obtain ⟨_, h1, h2, h3, h4⟩ := HH.out
      rw [nM_ok h1, h1, h2, h3, h4]; rfl
    · rw [nM_ok HH.out.2.1]; exact putM_mis HX4.out.1 HX4.out.2.1
  · clear x2 y2 HT
    go_wp2_with fail
    refine ret_met rfl rfl rfl rfl (putM_is HX2.out.2.2.1) ⟨⟨⟨#[]⟩, none, 0, 0, none, 0, 0, ?_, ?_, Fresh.none_ _, Fresh.none_ _⟩, putM_below HX2.out.2.2.2 (by omega)⟩
    · rw [nM_no (by rw [HH.out.2.1]; exact hq0), HH.out.2.1]; rfl
    · rw [nM_no (by rw [HH.out.2.1]; exact hq0)]; exact mis0 _ _ _
theorem mnormal_calls (h : MIs w s A n B k m) (hz : Small m) : Calls Try.prog 13 #[mV s m.kind A n ca m.rate B k cb m.time] w (NormMP w m) := (mnormal_fresh h hz).mono fun _ _ k => k.p
end
end Go.Proofs.Ytikdolgcdkmmaaa
