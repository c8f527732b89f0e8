/-
  MNormal, MClone, MSame, MRefEq, MAwake. No statement of the seat is proved here.
-/
import Derived.Test.YtbcmchkgamkceaaGreatDoorGrMRows
import Derived.Test.YtbcmchkgamkceaaGreatDoorGrTNormal
/-
  Package metric: Normal, Is and Same. No statement of the seat is proved here.
-/
namespace Go.Proofs.YtbcmchkgamkceaaGreatDoor
open Go.RowKit
open Dc (D D0)

theorem load_met {w : World} {g : Nat} {a b c d e f : Value} (h : Box w g 35 [a, b, c, d, e, f]) : (loadVar 35 ⟨g, 0, none⟩).run Tryz.prog w = .ok (.agg #[a, b, c, d, e, f]) w := by
  have c0 : w.cell? ⟨g, 0, none⟩ = some a := h.cell 0
  have c1 : w.cell? ⟨g, 1, none⟩ = some b := h.cell 1
  have c2 : w.cell? ⟨g, 2, none⟩ = some c := h.cell 2
  have c3 : w.cell? ⟨g, 3, none⟩ = some d := h.cell 3
  have c4 : w.cell? ⟨g, 4, none⟩ = some e := h.cell 4
  have c5 : w.cell? ⟨g, 5, none⟩ = some f := h.cell 5
  simp [go_sem, c0, c1, c2, c3, c4, c5]
/-- A metric and a number are returned. -/
theorem ret_met {fn : Func} {p u : Tmp} (hres : fn.results = #[.cell p 35, .tmp u]) {R : Ending → World → Prop} {A : Act} {w : World} {g : Nat} {a b c d e f v : Value} (hp : A.tmps.getD p undef = .pointer (some ⟨g, 0, none⟩)) (hu : A.tmps.getD u undef = v) (hd : A.defers = [])
    (hb : Box w g 35 [a, b, c, d, e, f]) (hR : R (.returned (.tuple #[.agg #[a, b, c, d, e, f], v])) w) : bodyPost Tryz.prog fn R .ret A w := by
  refine bodyPost_ret ?_ hd hR
  rw [results_cell_tmp hres, hp, hu, addr_is]
  simp only [Result.andThen]
  rw [load_met hb]
/-- A metric is returned. -/
theorem ret_met1 {fn : Func} {p : Tmp} (hres : fn.results = #[.cell p 35]) {R : Ending → World → Prop} {A : Act} {w : World} {g : Nat} {a b c d e f : Value} (hp : A.tmps.getD p undef = .pointer (some ⟨g, 0, none⟩)) (hd : A.defers = [])
    (hb : Box w g 35 [a, b, c, d, e, f]) (hR : R (.returned (.agg #[a, b, c, d, e, f])) w) : bodyPost Tryz.prog fn R .ret A w := by
  refine bodyPost_ret ?_ hd hR
  rw [results_cell1 hres, hp, addr_is]
  simp only [Result.andThen]
  rw [load_met hb]

/-! A store into a metric's own block leaves rows of Decs, and of tags, alone. -/
section
variable {w : World} {g : Nat} {t : TypeId} {s : ByteArray} {kd rt tm : Int} {A0 B0 : Option Addr} {n0 ca0 k0 cb0 : Nat}
theorem mC_str {j : Nat} {u : ByteArray} (h : (mC s kd A0 n0 ca0 rt B0 k0 cb0 tm)[j]? = some (.string u)) : j = 0 := by
  unfold mC at h
  match j, h with
  | 0, _ => rfl
  | 1, h => simp at h
  | 2, h => simp at h
  | 3, h => simp at h
  | 4, h => simp at h
  | 5, h => simp at h
  | j + 6, h => simp at h
theorem mC_bool {j : Nat} {u : Bool} (h : (mC s kd A0 n0 ca0 rt B0 k0 cb0 tm)[j]? = some (.bool u)) : False := by
  unfold mC at h
  match j, h with
  | 0, h => simp at h
  | 1, h => simp at h
  | 2, h => simp at h
  | 3, h => simp at h
  | 4, h => simp at h
  | 5, h => simp at h
  | j + 6, h => simp at h
theorem cell_far {w : World} {q a : Addr} (h : a.block ≠ q.block) (u : Value) : (w.setCell q u).cell? a = w.cell? a := by unfold World.cell?; rw [Below.heap_setCell w q u a.block h]
theorem Tags.set_met {B : Option Addr} {ts : List Tg} (h : Tags w B ts) (hb : Box w g t (mC s kd A0 n0 ca0 rt B0 k0 cb0 tm)) (i : Nat) (u : Value) : Tags (w.setCell ⟨g, i, none⟩ u) B ts := by
  intro j v hv
  obtain ⟨b, off, e, hc⟩ := h j v hv
  have hne : b ≠ g := by
    rintro rfl
    have hj : j / 2 < ts.length := by
      have := (List.getElem?_eq_some_iff.1 hv).1
      rw [flat_length] at this
      omega
    obtain ⟨b', off', e', k0, k1⟩ := h.at_ hj
    rw [e] at e'
    injection e' with e'
    injection e' with e1 e2
    subst e1 e2
    rw [hb.cell] at k0 k1
    have := mC_str k0
    have := mC_str k1
    omega
  exact ⟨b, off, e, (cell_far (q := ⟨g, i, none⟩) (a := ⟨b, off + j, none⟩) hne u).trans hc⟩
theorem Decs.set_met {A : Option Addr} {ds : List D} (h : Decs w A ds) (hb : Box w g t (mC s kd A0 n0 ca0 rt B0 k0 cb0 tm)) (i : Nat) (u : Value) : Decs (w.setCell ⟨g, i, none⟩ u) A ds := by
  intro j v hv
  obtain ⟨b, off, e, hc⟩ := h j v hv
  have hne : b ≠ g := by
    rintro rfl
    have hj : j / 3 < ds.length := by
      have := (List.getElem?_eq_some_iff.1 hv).1
      rw [flatD_length] at this
      omega
    obtain ⟨b', off', p, x, y, e', k0, k1, k2, _⟩ := h.get hj
    rw [e] at e'
    injection e' with e'
    injection e' with e1 e2
    subst e1 e2
    rw [hb.cell] at k0
    exact mC_bool k0
  exact ⟨b, off, e, (cell_far (q := ⟨g, i, none⟩) (a := ⟨b, off + j, none⟩) hne u).trans hc⟩
theorem MIs.set_met {s' : ByteArray} {A B : Option Addr} {n k : Nat} {m : Mt} (h : MIs w s' A n B k m) (hb : Box w g t (mC s kd A0 n0 ca0 rt B0 k0 cb0 tm)) (i : Nat) (u : Value) : MIs (w.setCell ⟨g, i, none⟩ u) s' A n B k m :=
  ⟨h.name, h.vlen, h.vals.set_met hb i u, h.tlen, h.tags.set_met hb i u⟩
/-- A whole metric is stored. -/
def putM (w : World) (g : Nat) (s : ByteArray) (kd : Int) (A0 : Option Addr) (n0 ca0 : Nat) (rt : Int) (B0 : Option Addr) (k0 cb0 : Nat) (tm : Int) : World :=
  (((((w.setCell ⟨g, 0, none⟩ (.string s)).setCell ⟨g, 1, none⟩ (.int .i64 kd)).setCell ⟨g, 2, none⟩ (.slice A0 n0 ca0)).setCell ⟨g, 3, none⟩ (.int .i64 rt)).setCell ⟨g, 4, none⟩ (.slice B0 k0 cb0)).setCell ⟨g, 5, none⟩ (.int .i64 tm)
theorem putM_is {s' : ByteArray} {kd' rt' tm' : Int} {A1 B1 : Option Addr} {n1 ca1 k1 cb1 : Nat} (hb : Box w g t (mC s kd A0 n0 ca0 rt B0 k0 cb0 tm)) : Box (putM w g s' kd' A1 n1 ca1 rt' B1 k1 cb1 tm') g t (mC s' kd' A1 n1 ca1 rt' B1 k1 cb1 tm') :=
  ((((((hb.set 0 _).set 1 _).set 2 _).set 3 _).set 4 _).set 5 _)
theorem putM_below {w0 : World} {s' : ByteArray} {kd' rt' tm' : Int} {A1 B1 : Option Addr} {n1 ca1 k1 cb1 : Nat} (h : Below w0.heap.size w0 w) (hg : w0.heap.size ≤ g) : Below w0.heap.size w0 (putM w g s' kd' A1 n1 ca1 rt' B1 k1 cb1 tm') :=
  below_set (below_set (below_set (below_set (below_set (below_set h hg _ _) hg _ _) hg _ _) hg _ _) hg _ _) hg _ _
theorem putM_mis {s' s2 : ByteArray} {kd' rt' tm' : Int} {A B A1 B1 : Option Addr} {n k n1 ca1 k1 cb1 : Nat} {m : Mt} (h : MIs w s2 A n B k m) (hb : Box w g t (mC s kd A0 n0 ca0 rt B0 k0 cb0 tm)) : MIs (putM w g s' kd' A1 n1 ca1 rt' B1 k1 cb1 tm') s2 A n B k m := by
  have b0 : Box (w.setCell ⟨g, 0, none⟩ (.string s')) g t (mC s' kd A0 n0 ca0 rt B0 k0 cb0 tm) := hb.set 0 _
  have b1 : Box ((w.setCell ⟨g, 0, none⟩ (.string s')).setCell ⟨g, 1, none⟩ (.int .i64 kd')) g t (mC s' kd' A0 n0 ca0 rt B0 k0 cb0 tm) := b0.set 1 _
  have b2 : Box (((w.setCell ⟨g, 0, none⟩ (.string s')).setCell ⟨g, 1, none⟩ (.int .i64 kd')).setCell ⟨g, 2, none⟩ (.slice A1 n1 ca1)) g t (mC s' kd' A1 n1 ca1 rt B0 k0 cb0 tm) := b1.set 2 _
  have b3 : Box ((((w.setCell ⟨g, 0, none⟩ (.string s')).setCell ⟨g, 1, none⟩ (.int .i64 kd')).setCell ⟨g, 2, none⟩ (.slice A1 n1 ca1)).setCell ⟨g, 3, none⟩ (.int .i64 rt')) g t (mC s' kd' A1 n1 ca1 rt' B0 k0 cb0 tm) := b2.set 3 _
  have b4 : Box (((((w.setCell ⟨g, 0, none⟩ (.string s')).setCell ⟨g, 1, none⟩ (.int .i64 kd')).setCell ⟨g, 2, none⟩ (.slice A1 n1 ca1)).setCell ⟨g, 3, none⟩ (.int .i64 rt')).setCell ⟨g, 4, none⟩ (.slice B1 k1 cb1)) g t (mC s' kd' A1 n1 ca1 rt' B1 k1 cb1 tm) := b3.set 4 _
  exact (((((h.set_met hb 0 _).set_met b0 1 _).set_met b1 2 _).set_met b2 3 _).set_met b3 4 _).set_met b4 5 _
end

/-- What Normal tells. -/
def NormMP (w : World) (m : Mt) (e : Ending) (w' : World) : Prop :=
  (∃ s A n ca B k cb, e = .returned (.tuple #[mV s (nM m).kind A n ca (nM m).rate B k cb (nM m).time, .int .i64 (codeM m)]) ∧ MIs w' s A n B k (nM m)) ∧ Below w.heap.size w w'
/-- The same, its rows in new memory. -/
def NormMF (w : World) (m : Mt) (e : Ending) (w' : World) : Prop :=
  (∃ s A n ca B k cb, e = .returned (.tuple #[mV s (nM m).kind A n ca (nM m).rate B k cb (nM m).time, .int .i64 (codeM m)]) ∧ MIs w' s A n B k (nM m) ∧ Fresh w.heap.size A ∧ Fresh w.heap.size B) ∧ Below w.heap.size w w'
theorem NormMF.p {w w' : World} {m : Mt} {e : Ending} (h : NormMF w m e w') : NormMP w m e w' := by obtain ⟨⟨s, A, n, ca, B, k, cb, h1, h2, _⟩, hb⟩ := h; exact ⟨⟨s, A, n, ca, B, k, cb, h1, h2⟩, hb⟩
theorem mis0 (w : World) (A B : Option Addr) : MIs w ⟨#[]⟩ A 0 B 0 M0 := ⟨rfl, rfl, Decs.nil, rfl, Tags.nil⟩

section
variable {w : World} {s : ByteArray} {A B : Option Addr} {n k ca cb : Nat} {m : Mt}

set_option maxRecDepth 100000 in
set_option maxHeartbeats 4000000 in
theorem mnormal_fresh (h : MIs w s A n B k m) (hz : Small m) : Calls Tryz.prog 21 #[mV s m.kind A n ca m.rate B k cb m.time] w (NormMF w m) := by
  have hF := fun W (b : Below w.heap.size w W) => forms_calls (cap := ca) h.vlen (h.vals.keep b) (by have := h.vlen; have := hz.vals; omega) hz.fits
  have hT := fun W (b : Below w.heap.size w W) => normal_fresh (cap := cb) h.tlen (h.tags.keep b) (by have := h.tlen; have := hz.tags; omega)
  have hC := fun W (b : Below w.heap.size w W) A' ca' (hd : Decs W A' (valM m).vals) => mcheck_calls (w := W) (s := s) (A := A') (B := B) (n := n) (k := k) (ca := ca') (cb := cb) (m := valM m) ⟨h.name, by show (m.vals.map form).length = n; rw [List.length_map]; exact h.vlen, hd, h.tlen, h.tags.keep b⟩ hz.val
  obtain ⟨q, hq⟩ : ∃ q, codeM m = q := ⟨_, rfl⟩
  simp only [checkM_val, hq] at hC
  obtain ⟨kd, hkd⟩ : ∃ x, x = m.kind := ⟨_, rfl⟩
  obtain ⟨rt, hrt⟩ : ∃ x, x = m.rate := ⟨_, rfl⟩
  obtain ⟨tm, htm⟩ : ∃ x, x = m.time := ⟨_, rfl⟩
  simp only [show (valM m).kind = m.kind from rfl, show (valM m).rate = m.rate from rfl, show (valM m).time = m.time from rfl] at hC
  rw [← hkd, ← hrt, ← htm] at hC ⊢
  have HF := Lib.hid hF
  have HT := Lib.hid hT
  have HH := Lib.hid (And.intro h (And.intro hq (And.intro hkd (And.intro hrt htm))))
  have b0 := ((Kb.start w).push 35 (mC s kd A n ca rt B k cb tm)).push 35 (mC ⟨#[]⟩ 0 none 0 0 0 none 0 0 0)
  rw [size_alloc] at b0
  unfold mC at b0
  have HB := Lib.hid b0
  unfold mV at hC ⊢
  have HC := Lib.hid hC
  clear hF hT hC h hz hq hkd hrt htm b0
  go_enter Tryz.func21, Tryz.ntmps21
  go_wp2_with fail
  refine (HF.out _ HB.out.kept).mono ?_
  rintro e w1 ⟨⟨v, rfl, hown⟩, hb⟩
  obtain ⟨A', ca', rfl, _⟩ := own_slice_at hown
  have HFA := Lib.hid ((Fresh.own hown).low (show w.heap.size ≤ _ from HB.out.kept.size))
  have x0 : Box w1 w.heap.size 35 (mC s kd A n ca rt B k cb tm) := (HB.out.next hb).box _ (.tail _ (.head _))
  have y0 : Box w1 (w.heap.size + 1) 35 (mC ⟨#[]⟩ 0 none 0 0 0 none 0 0 0) := (HB.out.next hb).box _ (.head _)
  have hbel := (HB.out.next hb).kept
  have hd1 : Decs (w1.setCell ⟨w.heap.size, 2, none⟩ (.slice A' n ca')) A' (valM m).vals := (Decs.of_own hown).set_met x0 2 _
  have a2 : w1.cell? ⟨w.heap.size, 2, none⟩ = some (.slice A n ca) := x0.cell 2
  have f2 := x0.frozen 2
  have x1 : Box (w1.setCell ⟨w.heap.size, 2, none⟩ (.slice A' n ca')) w.heap.size 35 (mC s kd A' n ca' rt B k cb tm) := x0.set 2 _
  have y1 := y0.far (q := ⟨w.heap.size, 2, none⟩) (by show w.heap.size + 1 ≠ w.heap.size; omega) (.slice A' n ca')
  have hbel1 := below_set hbel (Nat.le_refl _) 2 (.slice A' n ca')
  have HX := Lib.hid (And.intro hd1 (And.intro x1 (And.intro y1 hbel1)))
  have a0 : w1.cell? ⟨w.heap.size, 0, none⟩ = some (.string s) := x0.cell 0
  have a1 : w1.cell? ⟨w.heap.size, 1, none⟩ = some (.int .i64 kd) := x0.cell 1
  have a3 : w1.cell? ⟨w.heap.size, 3, none⟩ = some (.int .i64 rt) := x0.cell 3
  have a4 : w1.cell? ⟨w.heap.size, 4, none⟩ = some (.slice B k cb) := x0.cell 4
  have a5 : w1.cell? ⟨w.heap.size, 5, none⟩ = some (.int .i64 tm) := x0.cell 5
  clear hb hown x0 y0 hbel hd1 x1 y1 hbel1 HB HF
  go_wp2_with fail
  refine (HC.out _ HX.out.2.2.2 A' ca' HX.out.1).mono ?_
  rintro e w2 ⟨rfl, hb⟩
  clear a0 a1 a2 a3 a4 a5 f2
  have x2 := HX.out.2.1.keep hb
  have y2 := HX.out.2.2.1.keep hb
  have HX2 := Lib.hid (And.intro (HX.out.1.keep hb) (And.intro x2 (And.intro y2 (below_then HX.out.2.2.2 hb))))
  have r0 : w2.cell? ⟨w.heap.size + 1, 0, none⟩ = some (.string ⟨#[]⟩) := y2.cell 0
  have r1 : w2.cell? ⟨w.heap.size + 1, 1, none⟩ = some (.int .i64 0) := y2.cell 1
  have r2 : w2.cell? ⟨w.heap.size + 1, 2, none⟩ = some (.slice none 0 0) := y2.cell 2
  have r3 : w2.cell? ⟨w.heap.size + 1, 3, none⟩ = some (.int .i64 0) := y2.cell 3
  have r4 : w2.cell? ⟨w.heap.size + 1, 4, none⟩ = some (.slice none 0 0) := y2.cell 4
  have r5 : w2.cell? ⟨w.heap.size + 1, 5, none⟩ = some (.int .i64 0) := y2.cell 5
  have g0 := y2.frozen 0
  have g1 := y2.frozen 1
  have g2 := y2.frozen 2
  have g3 := y2.frozen 3
  have g4 := y2.frozen 4
  have g5 := y2.frozen 5
  clear hb HX HC
  by_cases hq0 : q = 0
  · subst hq0
    clear r0 r1 r2 r3 r4 r5 g0 g1 g2 g3 g4 g5
    have a4 : w2.cell? ⟨w.heap.size, 4, none⟩ = some (.slice B k cb) := x2.cell 4
    clear x2 y2
    go_wp2_with fail
    refine (HT.out _ HX2.out.2.2.2).mono ?_
    rintro e w3 ⟨⟨B', cb', rfl, ht, hfr⟩, hb⟩
    have HFB := Lib.hid (hfr.low (show w.heap.size ≤ _ from HX2.out.2.2.2.size))
    clear hfr
    clear a4
    have x3 := HX2.out.2.1.keep hb
    have y3 := HX2.out.2.2.1.keep hb
    have hbel3 := below_then HX2.out.2.2.2 hb
    have hm3 : MIs w3 s A' n B' (norm m.tags).length (formM m) := ⟨HH.out.1.name, by show (m.vals.map form).length = n; rw [List.length_map]; exact HH.out.1.vlen, HX2.out.1.keep hb, rfl, ht⟩
    have x4 : Box (w3.setCell ⟨w.heap.size, 4, none⟩ (.slice B' (norm m.tags).length cb')) w.heap.size 35 (mC s kd A' n ca' rt B' (norm m.tags).length cb' tm) := x3.set 4 _
    have y4 := y3.far (q := ⟨w.heap.size, 4, none⟩) (by show w.heap.size + 1 ≠ w.heap.size; omega) (.slice B' (norm m.tags).length cb')
    have hm4 := hm3.set_met x3 4 (.slice B' (norm m.tags).length cb')
    have hbel4 := below_set hbel3 (Nat.le_refl _) 4 (.slice B' (norm m.tags).length cb')
    have HX4 := Lib.hid (And.intro hm4 (And.intro y4 hbel4))
    have c0 : w3.cell? ⟨w.heap.size, 0, none⟩ = some (.string s) := x3.cell 0
    have c1 : w3.cell? ⟨w.heap.size, 1, none⟩ = some (.int .i64 kd) := x3.cell 1
    have c2 : w3.cell? ⟨w.heap.size, 2, none⟩ = some (.slice A' n ca') := x3.cell 2
    have c3 : w3.cell? ⟨w.heap.size, 3, none⟩ = some (.int .i64 rt) := x3.cell 3
    have c4 : w3.cell? ⟨w.heap.size, 4, none⟩ = some (.slice B k cb) := x3.cell 4
    have c5 : w3.cell? ⟨w.heap.size, 5, none⟩ = some (.int .i64 tm) := x3.cell 5
    have f4 := x3.frozen 4
    have r0 : w3.cell? ⟨w.heap.size + 1, 0, none⟩ = some (.string ⟨#[]⟩) := y3.cell 0
    have r1 : w3.cell? ⟨w.heap.size + 1, 1, none⟩ = some (.int .i64 0) := y3.cell 1
    have r2 : w3.cell? ⟨w.heap.size + 1, 2, none⟩ = some (.slice none 0 0) := y3.cell 2
    have r3 : w3.cell? ⟨w.heap.size + 1, 3, none⟩ = some (.int .i64 0) := y3.cell 3
    have r4 : w3.cell? ⟨w.heap.size + 1, 4, none⟩ = some (.slice none 0 0) := y3.cell 4
    have r5 : w3.cell? ⟨w.heap.size + 1, 5, none⟩ = some (.int .i64 0) := y3.cell 5
    have g0 := y3.frozen 0
    have g1 := y3.frozen 1
    have g2 := y3.frozen 2
    have g3 := y3.frozen 3
    have g4 := y3.frozen 4
    have g5 := y3.frozen 5
    clear x3 y3 hbel3 hm3 x4 y4 hm4 hbel4 ht hb HX2 HT
    generalize (norm m.tags).length = kk at *
    go_wp2_with fail
    refine ret_met rfl rfl rfl rfl (putM_is HX4.out.2.1) ⟨⟨s, A', n, ca', B', kk, cb', ?_, ?_, HFA.out, HFB.out⟩, putM_below HX4.out.2.2 (by omega)⟩
    · obtain ⟨_, h1, h2, h3, h4⟩ := HH.out
      rw [nM_ok h1, h1, h2, h3, h4]; rfl
    · rw [nM_ok HH.out.2.1]; exact putM_mis HX4.out.1 HX4.out.2.1
  · clear x2 y2 HT
    go_wp2_with fail
    refine ret_met rfl rfl rfl rfl (putM_is HX2.out.2.2.1) ⟨⟨⟨#[]⟩, none, 0, 0, none, 0, 0, ?_, ?_, Fresh.none_ _, Fresh.none_ _⟩, putM_below HX2.out.2.2.2 (by omega)⟩
    · rw [nM_no (by rw [HH.out.2.1]; exact hq0), HH.out.2.1]; rfl
    · rw [nM_no (by rw [HH.out.2.1]; exact hq0)]; exact mis0 _ _ _
theorem mnormal_calls (h : MIs w s A n B k m) (hz : Small m) : Calls Tryz.prog 21 #[mV s m.kind A n ca m.rate B k cb m.time] w (NormMP w m) := (mnormal_fresh h hz).mono fun _ _ k => k.p
end
end Go.Proofs.YtbcmchkgamkceaaGreatDoor

/-
  Package metric: Clone; the document's Copy. No statement of the seat is proved here.
-/
namespace Go.Proofs.YtbcmchkgamkceaaGreatDoor
open Go.RowKit
open Dc (D D0)

theorem own_set {w : World} {base n size : Nat} {el : TypeId} {v : Value} {xs : List Value} (h : w.ownsRow base el size v n xs) {q : Addr} (hq : q.block < base) (u : Value) : (w.setCell q u).ownsRow base el size v n xs := by
  refine ⟨h.1, ?_⟩
  rcases h.2 with h2 | ⟨g, cap, cur, hv, hg, hh, r⟩
  · exact .inl h2
  · exact .inr ⟨g, cap, cur, hv, hg, (Below.heap_setCell w q u g (by omega)).trans hh, r⟩

section
variable {w : World} {A : Option Addr} {n cap : Nat}
set_option maxRecDepth 100000 in
theorem cloneT_calls {ts : List Tg} (hn : ts.length = n) (hA : Tags w A ts) (hz : n ≤ 1000) :
    Calls Tryz.prog 87 #[.slice A n cap] w fun e w' => Below w.heap.size w w' ∧ ∃ A' cap', e = .returned (.slice A' n cap') ∧ w'.ownsRow w.heap.size 53 2 (.slice A' n cap') n (flat ts) := by
  have hq := Lib.run_eql_slice_nil (P := Tryz.prog)
  rcases A with _ | ad
  · have h0 := tags_nil_of hA
    subst h0
    obtain rfl : 0 = n := hn
    clear hA
    go_enter Tryz.func87, Tryz.ntmps87
    go_wp2_with fail
    go_ret
    exact ⟨Below.refl _ _, none, 0, rfl, own_nil _ _⟩
  · have HA := Lib.hid (And.intro hn hA)
    clear hn hA
    go_enter Tryz.func87, Tryz.ntmps87
    go_wp2_with (first | (at_builtin; refine wpList_append_rows _ rowTag rfl (.tmp 5) (.tmp 6) rfl w.heap.size _ 0 (flat []) rfl (own_empty w) (some ad) n cap (flat ts) rfl (by rw [flat_length, HA.out.1]) (HA.out.2.keep (m_below w _)) flat_cells (by omega) (by simp) ?_; intro v' w' hown hgr hob))
    go_ret
    have hb : Below w.heap.size w w' := grown_own (m_below w _) (own_empty w) hgr
    refine ⟨hb, ?_⟩
    rw [Nat.zero_add, flat_nil, List.nil_append] at hown
    obtain ⟨A', cap', rfl, _⟩ := own_slice hown
    exact ⟨A', cap', rfl, hown⟩
end

/-- What Clone tells: a metric whose rows are its own. -/
structure OwnM (base : Nat) (w : World) (s : ByteArray) (A : Option Addr) (n ca : Nat) (B : Option Addr) (k cb : Nat) (m : Mt) : Prop where
  name : Str s m.name
  vals : w.ownsRow base 51 3 (.slice A n ca) n (flatD m.vals)
  tags : w.ownsRow base 53 2 (.slice B k cb) k (flat m.tags)
theorem own_lenT {w : World} {ts : List Tg} {base n : Nat} {v : Value} (h : w.ownsRow base 53 2 v n (flat ts)) : ts.length = n := by have := h.1; rw [flat_length] at this; omega
theorem OwnM.mis {base : Nat} {w : World} {s : ByteArray} {A B : Option Addr} {n ca k cb : Nat} {m : Mt} (h : OwnM base w s A n ca B k cb m) : MIs w s A n B k m :=
  ⟨h.name, own_lenD h.vals, Decs.of_own h.vals, own_lenT h.tags, Tags.of_own h.tags⟩
theorem OwnM.keep {base : Nat} {w w' : World} {s : ByteArray} {A B : Option Addr} {n ca k cb : Nat} {m : Mt} (h : OwnM base w s A n ca B k cb m) (b : Below w.heap.size w w') : OwnM base w' s A n ca B k cb m := ⟨h.name, own_keep h.vals b, own_keep h.tags b⟩
theorem OwnM.low {base base' : Nat} {w : World} {s : ByteArray} {A B : Option Addr} {n ca k cb : Nat} {m : Mt} (h : OwnM base w s A n ca B k cb m) (b : base' ≤ base) : OwnM base' w s A n ca B k cb m := ⟨h.name, own_base h.vals b, own_base h.tags b⟩
theorem OwnM.put {base : Nat} {w : World} {s : ByteArray} {A B : Option Addr} {n ca k cb : Nat} {m : Mt} (h : OwnM base w s A n ca B k cb m) {q : Addr} (hq : q.block < base) (u : Value) : OwnM base (w.setCell q u) s A n ca B k cb m := ⟨h.name, own_set h.vals hq u, own_set h.tags hq u⟩

section
variable {w : World} {s : ByteArray} {A B : Option Addr} {n k ca cb : Nat} {m : Mt}
/-- What Clone tells. -/
def CloneP (w : World) (s : ByteArray) (n k : Nat) (m : Mt) (e : Ending) (w' : World) : Prop :=
  (∃ A ca B cb, e = .returned (mV s m.kind A n ca m.rate B k cb m.time) ∧ OwnM w.heap.size w' s A n ca B k cb m) ∧ Below w.heap.size w w'

end
end Go.Proofs.YtbcmchkgamkceaaGreatDoor

/-
  Package metric: Is and Same. No statement of the seat is proved here.
-/
namespace Go.Proofs.YtbcmchkgamkceaaGreatDoor
open Go.RowKit
open Dc (D D0)

section
variable {w : World} {s s' : ByteArray} {A B A' B' : Option Addr} {n k ca cb n' k' ca' cb' : Nat} {m a b : Mt}

set_option maxRecDepth 100000 in
set_option maxHeartbeats 4000000 in
theorem mis_calls (h : MIs w s A n B k m) (hz : Small m) : Calls Tryz.prog 23 #[mV s m.kind A n ca m.rate B k cb m.time] w fun e w' => e = .returned (.bool (isM m)) ∧ Below w.heap.size w w' := by
  have hC := fun W (b : Below w.heap.size w W) => mcheck_calls (ca := ca) (cb := cb) (h.keep b) hz
  have hI := fun W (b : Below w.heap.size w W) => is_calls6 (cap := cb) h.tlen (h.tags.keep b) (by have := h.tlen; have := hz.tags; omega)
  obtain ⟨q, hq⟩ : ∃ q, checkM m = q := ⟨_, rfl⟩
  obtain ⟨p, hp⟩ : ∃ p, decide (m.tags = norm m.tags) = p := ⟨_, rfl⟩
  have hr : isM m = (decide (q = 0) && p) := by unfold isM; rw [hq, hp]
  rw [hr]
  rw [hq] at hC
  rw [hp] at hI
  unfold mV at hC ⊢
  generalize m.kind = kd at *
  generalize m.rate = rt at *
  generalize m.time = tm at *
  have HC := Lib.hid hC
  have HI := Lib.hid hI
  have b0 := (Kb.start w).push 35 (mC s kd A n ca rt B k cb tm)
  unfold mC at b0
  have HB := Lib.hid b0
  clear hC hI hq hp hr b0 h hz
  go_enter Tryz.func23, Tryz.ntmps23
  go_wp2_with fail
  refine (HC.out _ HB.out.kept).mono ?_
  rintro e w1 ⟨rfl, hb⟩
  have HB1 := Lib.hid (HB.out.next hb)
  clear hb HB HC
  by_cases hq0 : q = 0
  · subst hq0
    have c4 : w1.cell? ⟨w.heap.size, 4, none⟩ = some (.slice B k cb) := HB1.out.cell (.head _) rfl
    go_wp2_with fail
    refine (HI.out _ HB1.out.kept).mono ?_
    rintro e w2 ⟨rfl, hb⟩
    have HB2 := Lib.hid (HB1.out.next hb)
    clear hb HB1 HI c4
    go_wp2_with fail
    go_ret
    exact ⟨by simp, HB2.out.kept⟩
  · have h1 : (q == 0) = false := by simpa using hq0
    have HE := Lib.hid (decide_eq_false hq0)
    go_wp2_with fail
    go_ret
    exact ⟨by simp [HE.out], HB1.out.kept⟩

set_option maxRecDepth 100000 in
set_option maxHeartbeats 4000000 in
theorem same_calls7 (ha : MIs w s A n B k a) (hb : MIs w s' A' n' B' k' b) (za : Small a) (zb : Small b) :
    Calls Tryz.prog 24 #[mV s a.kind A n ca a.rate B k cb a.time, mV s' b.kind A' n' ca' b.rate B' k' cb' b.time] w fun e w' => e = .returned (.bool (sameM a b)) ∧ Below w.heap.size w w' := by
  have hN := fun W (h : Below w.heap.size w W) => mnormal_calls (ca := ca) (cb := cb) (ha.keep h) za
  have hM := fun W (h : Below w.heap.size w W) => mnormal_calls (ca := ca') (cb := cb') (hb.keep h) zb
  obtain ⟨q, hq⟩ : ∃ q, sameM a b = q := ⟨_, rfl⟩
  obtain ⟨x, hx⟩ : ∃ q, codeM a = q := ⟨_, rfl⟩
  obtain ⟨y, hy⟩ : ∃ q, codeM b = q := ⟨_, rfl⟩
  have hs : q = (decide (x = 0) && decide (y = 0) && decide (nM a = nM b)) := by rw [← hq]; unfold sameM; rw [hx, hy]
  rw [hq]
  unfold NormMP at hN hM
  rw [hx] at hN
  rw [hy] at hM
  have HS := Lib.hid hs
  have HZ := Lib.hid (And.intro za zb)
  unfold mV at hN hM ⊢
  generalize a.kind = kd at *
  generalize a.rate = rt at *
  generalize a.time = tm at *
  generalize b.kind = kd' at *
  generalize b.rate = rt' at *
  generalize b.time = tm' at *
  have HN := Lib.hid hN
  have HM := Lib.hid hM
  have b0 := ((Kb.start w).push 35 (mC s kd A n ca rt B k cb tm)).push 35 (mC s' kd' A' n' ca' rt' B' k' cb' tm')
  rw [size_alloc] at b0
  unfold mC at b0
  have HB := Lib.hid b0
  clear hN hM hq hx hy hs b0 ha hb za zb
  go_enter Tryz.func24, Tryz.ntmps24
  go_wp2_with fail
  refine (HN.out _ HB.out.kept).mono ?_
  rintro e w1 ⟨⟨s1, A1, n1, ca1, B1, k1, cb1, rfl, hm1⟩, hb⟩
  have b1 := ((HB.out.next hb).mAdd hm1).push 35 (mC s1 (nM a).kind A1 n1 ca1 (nM a).rate B1 k1 cb1 (nM a).time)
  unfold mC at b1
  have c0 : (w1.alloc (.cells #[.string s1, .int .i64 (nM a).kind, .slice A1 n1 ca1, .int .i64 (nM a).rate, .slice B1 k1 cb1, .int .i64 (nM a).time] 35)).cell? ⟨w.heap.size + 1, 0, none⟩ = some (.string s') := b1.cell (.tail _ (.head _)) rfl
  have c1 : (w1.alloc (.cells #[.string s1, .int .i64 (nM a).kind, .slice A1 n1 ca1, .int .i64 (nM a).rate, .slice B1 k1 cb1, .int .i64 (nM a).time] 35)).cell? ⟨w.heap.size + 1, 1, none⟩ = some (.int .i64 kd') := b1.cell (.tail _ (.head _)) rfl
  have c2 : (w1.alloc (.cells #[.string s1, .int .i64 (nM a).kind, .slice A1 n1 ca1, .int .i64 (nM a).rate, .slice B1 k1 cb1, .int .i64 (nM a).time] 35)).cell? ⟨w.heap.size + 1, 2, none⟩ = some (.slice A' n' ca') := b1.cell (.tail _ (.head _)) rfl
  have c3 : (w1.alloc (.cells #[.string s1, .int .i64 (nM a).kind, .slice A1 n1 ca1, .int .i64 (nM a).rate, .slice B1 k1 cb1, .int .i64 (nM a).time] 35)).cell? ⟨w.heap.size + 1, 3, none⟩ = some (.int .i64 rt') := b1.cell (.tail _ (.head _)) rfl
  have c4 : (w1.alloc (.cells #[.string s1, .int .i64 (nM a).kind, .slice A1 n1 ca1, .int .i64 (nM a).rate, .slice B1 k1 cb1, .int .i64 (nM a).time] 35)).cell? ⟨w.heap.size + 1, 4, none⟩ = some (.slice B' k' cb') := b1.cell (.tail _ (.head _)) rfl
  have c5 : (w1.alloc (.cells #[.string s1, .int .i64 (nM a).kind, .slice A1 n1 ca1, .int .i64 (nM a).rate, .slice B1 k1 cb1, .int .i64 (nM a).time] 35)).cell? ⟨w.heap.size + 1, 5, none⟩ = some (.int .i64 tm') := b1.cell (.tail _ (.head _)) rfl
  have HB1 := Lib.hid b1
  clear hb HB HN b1 hm1
  go_wp2_with fail
  refine (HM.out _ HB1.out.kept).mono ?_
  rintro e w2 ⟨⟨s2, A2, n2, ca2, B2, k2, cb2, rfl, hm2⟩, hb⟩
  have b2 := ((HB1.out.next hb).mAdd hm2).push 35 (mC s2 (nM b).kind A2 n2 ca2 (nM b).rate B2 k2 cb2 (nM b).time)
  unfold mC at b2
  have HB2 := Lib.hid b2
  have HE := Lib.hid (equal_calls (ca := ca1) (cb := cb1) (ca' := ca2) (cb' := cb2) (b2.m (.tail _ (.head _))) (b2.m (.head _)) HZ.out.1.n)
  have d0 : (w2.alloc (.cells #[.string s2, .int .i64 (nM b).kind, .slice A2 n2 ca2, .int .i64 (nM b).rate, .slice B2 k2 cb2, .int .i64 (nM b).time] 35)).cell? ⟨w1.heap.size, 0, none⟩ = some (.string s1) := b2.cell (.tail _ (.head _)) rfl
  have d1 : (w2.alloc (.cells #[.string s2, .int .i64 (nM b).kind, .slice A2 n2 ca2, .int .i64 (nM b).rate, .slice B2 k2 cb2, .int .i64 (nM b).time] 35)).cell? ⟨w1.heap.size, 1, none⟩ = some (.int .i64 (nM a).kind) := b2.cell (.tail _ (.head _)) rfl
  have d2 : (w2.alloc (.cells #[.string s2, .int .i64 (nM b).kind, .slice A2 n2 ca2, .int .i64 (nM b).rate, .slice B2 k2 cb2, .int .i64 (nM b).time] 35)).cell? ⟨w1.heap.size, 2, none⟩ = some (.slice A1 n1 ca1) := b2.cell (.tail _ (.head _)) rfl
  have d3 : (w2.alloc (.cells #[.string s2, .int .i64 (nM b).kind, .slice A2 n2 ca2, .int .i64 (nM b).rate, .slice B2 k2 cb2, .int .i64 (nM b).time] 35)).cell? ⟨w1.heap.size, 3, none⟩ = some (.int .i64 (nM a).rate) := b2.cell (.tail _ (.head _)) rfl
  have d4 : (w2.alloc (.cells #[.string s2, .int .i64 (nM b).kind, .slice A2 n2 ca2, .int .i64 (nM b).rate, .slice B2 k2 cb2, .int .i64 (nM b).time] 35)).cell? ⟨w1.heap.size, 4, none⟩ = some (.slice B1 k1 cb1) := b2.cell (.tail _ (.head _)) rfl
  have d5 : (w2.alloc (.cells #[.string s2, .int .i64 (nM b).kind, .slice A2 n2 ca2, .int .i64 (nM b).rate, .slice B2 k2 cb2, .int .i64 (nM b).time] 35)).cell? ⟨w1.heap.size, 5, none⟩ = some (.int .i64 (nM a).time) := b2.cell (.tail _ (.head _)) rfl
  clear hb HB1 HM b2 hm2 c0 c1 c2 c3 c4 c5
  rcases (by omega : x ≠ 0 ∨ (x = 0 ∧ y ≠ 0) ∨ (x = 0 ∧ y = 0)) with hx | ⟨rfl, hy⟩ | ⟨rfl, rfl⟩
  · have HF := Lib.hid (show q = false by rw [HS.out, decide_eq_false hx]; rfl)
    have h1 : (x == 0) = false := by simpa using hx
    go_wp2_with fail
    go_ret
    exact ⟨by rw [HF.out]; first | done | rfl, HB2.out.kept⟩
  · have HF := Lib.hid (show q = false by rw [HS.out, decide_eq_false hy]; rfl)
    have h1 : (y == 0) = false := by simpa using hy
    go_wp2_with fail
    go_ret
    exact ⟨by rw [HF.out]; first | done | rfl, HB2.out.kept⟩
  · have HF := Lib.hid (show decide (nM a = nM b) = q by rw [HS.out]; simp)
    rw [HF.out] at HE
    go_wp2_with fail
    refine HE.out.mono ?_
    rintro e w3 ⟨rfl, hb⟩
    have HB3 := Lib.hid (HB2.out.next hb)
    clear hb HB2 HE
    go_wp2_with fail
    go_ret
    exact ⟨by first | done | rfl | simp, HB3.out.kept⟩
end
end Go.Proofs.YtbcmchkgamkceaaGreatDoor

/-
  Layer 7: the document's Equal. No statement of the seat is proved here.
-/
namespace Go.Proofs.YtbcmchkgamkceaaGreatDoor
open Go.RowKit
open Dc (D D0)

section
variable {w : World} {s s' : ByteArray} {A B A' B' : Option Addr} {n k n' k' ca cb ca' cb' : Nat} {a b : Mt}
/-- Both metrics lie. -/
structure TwoM (w : World) (s : ByteArray) (kd : Int) (A : Option Addr) (n ca : Nat) (rt : Int) (B : Option Addr) (k cb : Nat) (tm : Int) (s' : ByteArray) (kd' : Int) (A' : Option Addr) (n' ca' : Nat) (rt' : Int) (B' : Option Addr) (k' cb' : Nat) (tm' : Int) (w' : World) : Prop where
  kept : Below w.heap.size w w'
  one : Box w' w.heap.size 35 (mC s kd A n ca rt B k cb tm)
  two : Box w' (w.heap.size + 1) 35 (mC s' kd' A' n' ca' rt' B' k' cb' tm')
theorem TwoM.next {w1 w2 : World} {kd rt tm kd' rt' tm' : Int} (h : TwoM w s kd A n ca rt B k cb tm s' kd' A' n' ca' rt' B' k' cb' tm' w1) (hb : Below w1.heap.size w1 w2) : TwoM w s kd A n ca rt B k cb tm s' kd' A' n' ca' rt' B' k' cb' tm' w2 := ⟨below_then h.kept hb, h.one.keep hb, h.two.keep hb⟩
theorem TwoM.drewN {w1 : World} {kd rt tm kd' rt' tm' : Int} (h : TwoM w s kd A n ca rt B k cb tm s' kd' A' n' ca' rt' B' k' cb' tm' w1) (j : Nat) : TwoM w s kd A n ca rt B k cb tm s' kd' A' n' ca' rt' B' k' cb' tm' (w1.drewN j) := h.next (Same.below (Same.drewN _ _))

set_option maxRecDepth 100000 in
set_option maxHeartbeats 8000000 in
theorem requal_calls (ha : MIs w s A n B k a) (hb : MIs w s' A' n' B' k' b) (za : Small a) :
    Calls Tryz.prog 20 #[mV s a.kind A n ca a.rate B k cb a.time, mV s' b.kind A' n' ca' b.rate B' k' cb' b.time] w fun e w' => e = .returned (.bool (decide (a = b))) ∧ Below w.heap.size w w' := by
  obtain ⟨q, hq⟩ : ∃ q, decide (a = b) = q := ⟨_, rfl⟩
  rw [hq]
  have HQ := Lib.hid hq
  clear hq
  obtain ⟨kd, hkd⟩ : ∃ x, x = a.kind := ⟨_, rfl⟩
  obtain ⟨rt, hrt⟩ : ∃ x, x = a.rate := ⟨_, rfl⟩
  obtain ⟨tm, htm⟩ : ∃ x, x = a.time := ⟨_, rfl⟩
  obtain ⟨kd', hkd'⟩ : ∃ x, x = b.kind := ⟨_, rfl⟩
  obtain ⟨rt', hrt'⟩ : ∃ x, x = b.rate := ⟨_, rfl⟩
  obtain ⟨tm', htm'⟩ : ∃ x, x = b.time := ⟨_, rfl⟩
  rw [← hkd, ← hrt, ← htm, ← hkd', ← hrt', ← htm']
  have HY := Lib.hid (And.intro hkd (And.intro hrt (And.intro htm (And.intro hkd' (And.intro hrt' htm')))))
  have hse := str_eq ha.name hb.name
  obtain ⟨qn, hqn⟩ : ∃ q, (a.name == b.name) = q := ⟨_, rfl⟩
  rw [hqn] at hse
  have HN := Lib.hid hqn
  have b0 := ((Kb.start w).push 35 (mC s kd A n ca rt B k cb tm)).push 35 (mC s' kd' A' n' ca' rt' B' k' cb' tm')
  rw [size_alloc] at b0
  have b1 : TwoM w s kd A n ca rt B k cb tm s' kd' A' n' ca' rt' B' k' cb' tm' _ := ⟨b0.kept, b0.box _ (.tail _ (.head _)), b0.box _ (.head _)⟩
  unfold mC at b1
  have HL := Lib.hid b1
  have HH := Lib.hid (And.intro ha (And.intro hb za))
  have z1 : n ≤ 1000 := by have := ha.vlen; have := za.vals; omega
  have z2 : k ≤ 1000 := by have := ha.tlen; have := za.tags; omega
  have hg := dguard
  have hg2 := tguard
  unfold mV
  clear b0 b1 hkd hrt htm hkd' hrt' htm' hqn ha hb za
  go_enter Tryz.func20, Tryz.ntmps20
  have hse' : (s.toList != s'.toList) = !qn := by rw [bne, hse]
  cases qn
  · have HZ := Lib.hid (show q = false by
      rw [← HQ.out]; exact decide_eq_false fun h => by have := HN.out; rw [(mt_ext.1 h).1] at this; simp at this)
    go_wp2_with fail
    go_ret
    exact ⟨by rw [HZ.out]; first | done | rfl, HL.out.kept⟩
  rcases (by omega : kd ≠ kd' ∨ (kd = kd' ∧ rt ≠ rt') ∨ (kd = kd' ∧ rt = rt' ∧ tm ≠ tm') ∨ (kd = kd' ∧ rt = rt' ∧ tm = tm' ∧ n ≠ n') ∨ (kd = kd' ∧ rt = rt' ∧ tm = tm' ∧ n = n' ∧ k ≠ k') ∨ (kd = kd' ∧ rt = rt' ∧ tm = tm' ∧ n = n' ∧ k = k')) with h | ⟨rfl, h⟩ | ⟨rfl, rfl, h⟩ | ⟨rfl, rfl, rfl, h⟩ | ⟨rfl, rfl, rfl, rfl, h⟩ | ⟨rfl, rfl, rfl, rfl, rfl⟩
  · have HZ := Lib.hid (show q = false by
      obtain ⟨h1, h2, h3, h4, h5, h6⟩ := HY.out
      rw [← HQ.out]; exact decide_eq_false fun e => h (by rw [h1, h4, e]))
    have h1 : (kd != kd') = true := by simpa using h
    go_wp2_with fail
    go_ret
    exact ⟨by rw [HZ.out]; first | done | rfl, HL.out.kept⟩
  · have HZ := Lib.hid (show q = false by
      obtain ⟨h1, h2, h3, h4, h5, h6⟩ := HY.out
      rw [← HQ.out]; exact decide_eq_false fun e => h (by rw [h2, h5, e]))
    have h1 : (rt != rt') = true := by simpa using h
    go_wp2_with fail
    go_ret
    exact ⟨by rw [HZ.out]; first | done | rfl, HL.out.kept⟩
  · have HZ := Lib.hid (show q = false by
      obtain ⟨h1, h2, h3, h4, h5, h6⟩ := HY.out
      rw [← HQ.out]; exact decide_eq_false fun e => h (by rw [h3, h6, e]))
    have h1 : (tm != tm') = true := by simpa using h
    go_wp2_with fail
    go_ret
    exact ⟨by rw [HZ.out]; first | done | rfl, HL.out.kept⟩
  · have HZ := Lib.hid (show q = false by
      rw [← HQ.out]; exact decide_eq_false fun e => h (by rw [← HH.out.1.vlen, ← HH.out.2.1.vlen, e]))
    have h1 : ((n : Int) != (n' : Int)) = true := by simp; omega
    go_wp2_with fail
    go_ret
    exact ⟨by rw [HZ.out]; first | done | rfl, HL.out.kept⟩
  · have HZ := Lib.hid (show q = false by
      rw [← HQ.out]; exact decide_eq_false fun e => h (by rw [← HH.out.1.tlen, ← HH.out.2.1.tlen, e]))
    have h1 : ((k : Int) != (k' : Int)) = true := by simp; omega
    go_wp2_with fail
    go_ret
    exact ⟨by rw [HZ.out]; first | done | rfl, HL.out.kept⟩
  go_wp2_with fail
  go_loopw [5] (fun v wr => ∃ i : Nat, v = .int .i64 i ∧ i ≤ n ∧ Hid (TwoM w s kd A n ca rt B k cb tm s' kd A' n ca' rt B' k cb' tm wr ∧ ∀ j (h : j < a.vals.length) (g : j < b.vals.length), j < i → a.vals[j] = b.vals[j])) (fun v _ => n - (intOf v).toNat)
  case atStart => exact ⟨0, rfl, by omega, ⟨HL.out, fun j _ _ hj => absurd hj (by omega)⟩⟩
  case round =>
    obtain ⟨i, rfl, hin, hrel⟩ := hrel
    clear HL
    have m2 : wr.cell? ⟨w.heap.size, 2, none⟩ = some (.slice A n ca) := hrel.out.1.one.cell 2
    by_cases hlt : i < n
    · have g1 : (i : Int) < (n : Int) := by omega
      have g2 : (0 : Int) ≤ (i : Int) := by omega
      have p2 : wr.cell? ⟨w.heap.size + 1, 2, none⟩ = some (.slice A' n ca') := hrel.out.1.two.cell 2
      obtain ⟨ha, hb, _⟩ := HH.out
      have l1 : i < a.vals.length := by rw [ha.vlen]; exact hlt
      have l2 : i < b.vals.length := by rw [hb.vlen]; exact hlt
      obtain ⟨bb, off, p, x, y, e1, c0, c1, c2, hd⟩ := (ha.vals.keep hrel.out.1.kept).get l1
      obtain ⟨b', off', p', x', y', e2, d0, d1, d2, hd'⟩ := (hb.vals.keep hrel.out.1.kept).get l2
      subst e1 e2
      by_cases he : a.vals[i] = b.vals[i]
      · have kk := dne_run hd hd' (decide_eq_true he)
        have HE := Lib.hid he
        clear ha hb hd hd' he
        go_wp2_with fail
        go_quiet (fail)
        go_wp2_with fail
        refine ⟨⟨i + 1, by go_num, by omega, ⟨hrel.out.1.drewN _, fun j h g hj => ?_⟩⟩, by simp [intOf]; omega⟩
        rcases Nat.lt_or_ge j i with h' | h'
        · exact hrel.out.2 j h g h'
        · obtain rfl : i = j := by omega
          exact HE.out
      · have kk := dne_run hd hd' (decide_eq_false he)
        have HE := Lib.hid (show q = false by rw [← HQ.out]; exact decide_eq_false fun h => he (by subst h; rfl))
        clear ha hb hd hd' he
        go_wp2_with fail
        go_quiet (fail)
        go_wp2_with fail
        go_ret
        exact ⟨by rw [HE.out]; first | done | rfl, (hrel.out.1.drewN _).kept⟩
    · have g1 : ¬ (i : Int) < (n : Int) := by omega
      have HV := Lib.hid (show a.vals = b.vals by
        obtain ⟨ha, hb, _⟩ := HH.out
        exact List.ext_getElem (by rw [ha.vlen, hb.vlen]) fun j h g => hrel.out.2 j h g (by have := ha.vlen; omega))
      have HL := Lib.hid hrel.out.1
      clear hrel hlt
      obtain ⟨wo, hwo⟩ : ∃ wo, wo = wr := ⟨_, rfl⟩
      subst hwo
      go_wp2_with fail
      go_loopw [6] (fun v wr => ∃ i : Nat, v = .int .i64 i ∧ i ≤ k ∧ Hid (TwoM w s kd A n ca rt B k cb tm s' kd A' n ca' rt B' k cb' tm wr ∧ ∀ j (h : j < a.tags.length) (g : j < b.tags.length), j < i → a.tags[j] = b.tags[j])) (fun v _ => k - (intOf v).toNat)
      case atStart => exact ⟨0, rfl, by omega, ⟨HL.out, fun j _ _ hj => absurd hj (by omega)⟩⟩
      case round =>
        obtain ⟨i, rfl, hin, hrel⟩ := hrel
        clear HL m2 g1
        have m4 : wr.cell? ⟨w.heap.size, 4, none⟩ = some (.slice B k cb) := hrel.out.1.one.cell 4
        by_cases hlt : i < k
        · have g1 : (i : Int) < (k : Int) := by omega
          have g2 : (0 : Int) ≤ (i : Int) := by omega
          have p4 : wr.cell? ⟨w.heap.size + 1, 4, none⟩ = some (.slice B' k cb') := hrel.out.1.two.cell 4
          obtain ⟨ha, hb, _⟩ := HH.out
          have l1 : i < a.tags.length := by rw [ha.tlen]; exact hlt
          have l2 : i < b.tags.length := by rw [hb.tlen]; exact hlt
          obtain ⟨bb, off, s1, t1, e1, c0, c1, hs, ht⟩ := (ha.tags.keep hrel.out.1.kept).get l1
          obtain ⟨b', off', s2, t2, e2, d0, d1, hs', ht'⟩ := (hb.tags.keep hrel.out.1.kept).get l2
          subst e1 e2
          by_cases he : a.tags[i] = b.tags[i]
          · have kk := tne_run hs ht hs' ht' (decide_eq_true he)
            have HE := Lib.hid he
            clear ha hb hs ht hs' ht' he
            go_wp2_with fail
            go_quiet (fail)
            go_wp2_with fail
            refine ⟨⟨i + 1, by go_num, by omega, ⟨hrel.out.1.drewN _, fun j h g hj => ?_⟩⟩, by simp [intOf]; omega⟩
            rcases Nat.lt_or_ge j i with h' | h'
            · exact hrel.out.2 j h g h'
            · obtain rfl : i = j := by omega
              exact HE.out
          · have kk := tne_run hs ht hs' ht' (decide_eq_false he)
            have HE := Lib.hid (show q = false by rw [← HQ.out]; exact decide_eq_false fun h => he (by subst h; rfl))
            clear ha hb hs ht hs' ht' he
            go_wp2_with fail
            go_quiet (fail)
            go_wp2_with fail
            go_ret
            exact ⟨by rw [HE.out]; first | done | rfl, (hrel.out.1.drewN _).kept⟩
        · have g1 : ¬ (i : Int) < (k : Int) := by omega
          have HE := Lib.hid (show q = true by
            obtain ⟨ha, hb, _⟩ := HH.out
            obtain ⟨h1, h2, h3, h4, h5, h6⟩ := HY.out
            rw [← HQ.out]
            refine decide_eq_true (mt_ext.2 ⟨by simpa using HN.out, by rw [← h1, h4], by rw [← h2, h5], by rw [← h3, h6], HV.out, ?_⟩)
            exact List.ext_getElem (by rw [ha.tlen, hb.tlen]) fun j h g => hrel.out.2 j h g (by have := ha.tlen; omega))
          go_wp2_with fail
          go_ret
          exact ⟨by rw [HE.out]; first | done | rfl, hrel.out.1.kept⟩
end
end Go.Proofs.YtbcmchkgamkceaaGreatDoor

/-
  Layer 7: Few and awake. No statement of the seat is proved here.
-/
namespace Go.Proofs.YtbcmchkgamkceaaGreatDoor
open Go.RowKit
open Dc (D D0)

/-- A name of up to 300 bytes, up to 80 values, up to 40 tags of up to 150 bytes each. -/
def fewM (m : Mt) : Bool := decide (m.name.length ≤ 300 ∧ m.vals.length ≤ 80 ∧ m.tags.length ≤ 40 ∧ ∀ t ∈ m.tags, t.1.length ≤ 150 ∧ t.2.length ≤ 150)
theorem few_small {m : Mt} (h : fewM m = true) (hf : ∀ d ∈ m.vals, d.Fits) : Small m := by
  obtain ⟨h1, h2, h3, h4⟩ := of_decide_eq_true h
  exact ⟨by omega, by omega, hf, by omega, fun t ht => by have := h4 t ht; omega⟩

section
variable {w : World} {s : ByteArray} {A B : Option Addr} {n k ca cb : Nat} {m : Mt}
set_option maxRecDepth 100000 in
set_option maxHeartbeats 4000000 in
theorem fewm_calls (h : MIs w s A n B k m) : Calls Tryz.prog 14 #[mV s m.kind A n ca m.rate B k cb m.time] w fun e w' => e = .returned (.bool (fewM m)) ∧ Below w.heap.size w w' := by
  obtain ⟨q, hq⟩ : ∃ q, fewM m = q := ⟨_, rfl⟩
  rw [hq]
  have HQ := Lib.hid hq
  have n1 := h.name.size
  generalize m.kind = kd
  generalize m.rate = rt
  generalize m.time = tm
  have b0 := (Kb.start w).push 35 (mC s kd A n ca rt B k cb tm)
  unfold mC at b0
  have HB := Lib.hid b0
  have HH := Lib.hid (And.intro h n1)
  unfold mV
  clear b0 hq h n1
  go_enter Tryz.func14, Tryz.ntmps14
  rcases (by omega : 300 < (s.size : Int) ∨ (¬ 300 < (s.size : Int) ∧ 80 < (n : Int)) ∨ (¬ 300 < (s.size : Int) ∧ ¬ 80 < (n : Int) ∧ 40 < (k : Int)) ∨ (¬ 300 < (s.size : Int) ∧ ¬ 80 < (n : Int) ∧ ¬ 40 < (k : Int))) with h1 | ⟨h1, h2⟩ | ⟨h1, h2, h3⟩ | ⟨h1, h2, h3⟩
  · have HE := Lib.hid (show q = false by rw [← HQ.out]; exact decide_eq_false fun ⟨h, _⟩ => by have := HH.out.2; omega)
    go_wp2_with fail
    go_ret
    exact ⟨by rw [HE.out]; first | done | rfl, HB.out.kept⟩
  · have HE := Lib.hid (show q = false by rw [← HQ.out]; exact decide_eq_false fun ⟨_, h, _⟩ => by have := HH.out.1.vlen; omega)
    go_wp2_with fail
    go_ret
    exact ⟨by rw [HE.out]; first | done | rfl, HB.out.kept⟩
  · have HE := Lib.hid (show q = false by rw [← HQ.out]; exact decide_eq_false fun ⟨_, _, h, _⟩ => by have := HH.out.1.tlen; omega)
    go_wp2_with fail
    go_ret
    exact ⟨by rw [HE.out]; first | done | rfl, HB.out.kept⟩
  · have HZ := Lib.hid (show m.name.length ≤ 300 ∧ m.vals.length ≤ 80 ∧ m.tags.length ≤ 40 by
      have a1 := HH.out.2
      have a2 := HH.out.1.vlen
      have a3 := HH.out.1.tlen
      omega)
    go_wp2_with fail
    go_loopw [3] (fun v wr => ∃ i : Nat, v = .int .i64 i ∧ i ≤ k ∧ Hid (Kb w [(w.heap.size, 35, [.string s, .int .i64 kd, .slice A n ca, .int .i64 rt, .slice B k cb, .int .i64 tm])] [] wr ∧ ∀ j (h : j < m.tags.length), j < i → m.tags[j].1.length ≤ 150 ∧ m.tags[j].2.length ≤ 150)) (fun v _ => k - (intOf v).toNat)
    case atStart => exact ⟨0, rfl, by omega, ⟨HB.out, fun j _ hj => absurd hj (by omega)⟩⟩
    case round =>
      obtain ⟨i, rfl, hin, hrel⟩ := hrel
      clear HB
      have c4 : wr.cell? ⟨w.heap.size, 4, none⟩ = some (.slice B k cb) := hrel.out.1.cell (.head _) rfl
      by_cases hlt : i < k
      · have g1 : (i : Int) < (k : Int) := by omega
        have g2 : (0 : Int) ≤ (i : Int) := by omega
        have hm := HH.out.1
        have l0 : i < m.tags.length := by rw [hm.tlen]; exact hlt
        obtain ⟨b, off, s1, t1, e1, d0, d1, hs, ht⟩ := (hm.tags.keep hrel.out.1.kept).get l0
        subst e1
        have z1 := hs.size
        have z2 := ht.size
        rcases (by omega : 150 < (s1.size : Int) ∨ (¬ 150 < (s1.size : Int) ∧ 150 < (t1.size : Int)) ∨ (¬ 150 < (s1.size : Int) ∧ ¬ 150 < (t1.size : Int))) with k1 | ⟨k1, k2⟩ | ⟨k1, k2⟩
        · have HE := Lib.hid (show q = false by
            rw [← HQ.out]
            exact decide_eq_false fun ⟨_, _, _, h⟩ => by have := (h _ (List.getElem_mem l0)).1; omega)
          clear hm hs ht z1 z2
          go_wp2_with fail
          go_ret
          exact ⟨by rw [HE.out]; first | done | rfl, hrel.out.1.kept⟩
        · have HE := Lib.hid (show q = false by
            rw [← HQ.out]
            exact decide_eq_false fun ⟨_, _, _, h⟩ => by have := (h _ (List.getElem_mem l0)).2; omega)
          clear hm hs ht z1 z2
          go_wp2_with fail
          go_ret
          exact ⟨by rw [HE.out]; first | done | rfl, hrel.out.1.kept⟩
        · have HE := Lib.hid (show m.tags[i].1.length ≤ 150 ∧ m.tags[i].2.length ≤ 150 by omega)
          clear hm hs ht z1 z2
          go_wp2_with fail
          refine ⟨⟨i + 1, by go_num, by omega, ⟨hrel.out.1, fun j h hj => ?_⟩⟩, by simp [intOf]; omega⟩
          rcases Nat.lt_or_ge j i with h' | h'
          · exact hrel.out.2 j h h'
          · obtain rfl : i = j := by omega
            exact HE.out
      · have g1 : ¬ (i : Int) < (k : Int) := by omega
        have HE := Lib.hid (show q = true by
          rw [← HQ.out]
          obtain ⟨z1, z2, z3⟩ := HZ.out
          refine decide_eq_true ⟨z1, z2, z3, fun t ht => ?_⟩
          obtain ⟨j, hj, rfl⟩ := List.mem_iff_getElem.1 ht
          exact hrel.out.2 j hj (by have := HH.out.1.tlen; omega))
        go_wp2_with fail
        go_ret
        exact ⟨by rw [HE.out]; first | done | rfl, hrel.out.1.kept⟩
end

def mA : Mt := ⟨[97], 1, [⟨false, 10, 0⟩], 1000000, [([98], []), ([97], []), ([98], [])], 0⟩
def mB : Mt := ⟨[97], 1, [⟨false, 1, 1⟩], 1000000, [([97], []), ([98], [])], 0⟩
theorem awN : Dc.normal ⟨false, 10, 0⟩ = some ⟨false, 1, 1⟩ := by
  unfold Dc.normal
  show Option.map _ (Dc.norm (1 * 10) 0) = _
  rw [Dc.norm_ten, Dc.norm_fix (.inr ⟨by decide, by decide, by decide, by decide, by decide⟩)]
  rfl
theorem awH : hasN mA.vals = true := by unfold hasN mA; simp [awN]
theorem awC : codeM mA = 0 := by
  show restM mA (hasN mA.vals) = 0
  rw [awH]; decide +kernel
theorem awF : nM mA = mB := by
  rw [nM_ok awC]
  unfold formM mA mB
  simp only [List.map_cons, List.map_nil, Mt.mk.injEq, true_and, and_true]
  refine ⟨by unfold form; rw [awN]; rfl, by decide +kernel⟩
theorem awK : checkM mA = 17 := by
  show restM mA (okV mA.vals) = 17
  have : okV mA.vals = false := by
    unfold okV mA
    simp only [List.all_cons, List.all_nil, Bool.and_true]
    refine decide_eq_false fun h => ?_
    have := Dc.normal_fix (Dc.check_ok.1 h)
    rw [awN] at this
    cases this
  rw [this]; decide +kernel
theorem small_mA : Small mA := ⟨by decide, by decide, by intro d hd; simp [mA] at hd; subst hd; exact ⟨by decide, by decide, by decide⟩, by decide, by decide⟩
theorem small_mB : Small mB := ⟨by decide, by decide, by intro d hd; simp [mB] at hd; subst hd; exact ⟨by decide, by decide, by decide⟩, by decide, by decide⟩
theorem mis_mA {w : World} {g h : Nat} (hg : w.heap.size = g) (hh : w.heap.size + 1 = h) : MIs ((w.alloc (.cells #[.bool false, .int .u64 10, .int .i64 0] 51)).alloc (.cells #[.string ⟨#[98]⟩, .string ⟨#[]⟩, .string ⟨#[97]⟩, .string ⟨#[]⟩, .string ⟨#[98]⟩, .string ⟨#[]⟩] 53)) ⟨#[97]⟩ (some ⟨g, 0, none⟩) 1 (some ⟨h, 0, none⟩) 3 mA :=
  ⟨rfl, rfl, (decs_lit (w := w) hg [⟨false, 10, 0⟩]).alloc _, rfl, tags_lit (by rw [size_alloc]; exact hh) [([98], []), ([97], []), ([98], [])]⟩
theorem mis_mB {w : World} {g h : Nat} (hg : w.heap.size = g) (hh : w.heap.size + 1 = h) : MIs ((w.alloc (.cells #[.bool false, .int .u64 1, .int .i64 1] 51)).alloc (.cells #[.string ⟨#[97]⟩, .string ⟨#[]⟩, .string ⟨#[98]⟩, .string ⟨#[]⟩] 53)) ⟨#[97]⟩ (some ⟨g, 0, none⟩) 1 (some ⟨h, 0, none⟩) 2 mB :=
  ⟨rfl, rfl, (decs_lit (w := w) hg [⟨false, 1, 1⟩]).alloc _, rfl, tags_lit (by rw [size_alloc]; exact hh) [([97], []), ([98], [])]⟩

end Go.Proofs.YtbcmchkgamkceaaGreatDoor
