/-
  Package metric: Normal, Is and Same. No statement of the seat is proved here.
-/
import Derived.Test.YteffankkelbhiaaMFE
import Derived.Test.YteffankkelbhiaaTN0
namespace Go.Proofs.Yteffankkelbhiaa
open Go.RowKit
open Dc (D D0)

theorem load_met {w : World} {g : Nat} {a b c d e f : Value} (h : Box w g 25 [a, b, c, d, e, f]) : (loadVar 25 ⟨g, 0, none⟩).run Try.prog w = .ok (.agg #[a, b, c, d, e, f]) w := by
  have c0 : w.cell? ⟨g, 0, none⟩ = some a := h.cell 0
  have c1 : w.cell? ⟨g, 1, none⟩ = some b := h.cell 1
  have c2 : w.cell? ⟨g, 2, none⟩ = some c := h.cell 2
  have c3 : w.cell? ⟨g, 3, none⟩ = some d := h.cell 3
  have c4 : w.cell? ⟨g, 4, none⟩ = some e := h.cell 4
  have c5 : w.cell? ⟨g, 5, none⟩ = some f := h.cell 5
  simp [go_sem, c0, c1, c2, c3, c4, c5]
/-- A metric and a number are returned. -/
theorem ret_met {fn : Func} {p u : Tmp} (hres : fn.results = #[.cell p 25, .tmp u]) {R : Ending → World → Prop} {A : Act} {w : World} {g : Nat} {a b c d e f v : Value} (hp : A.tmps.getD p undef = .pointer (some ⟨g, 0, none⟩)) (hu : A.tmps.getD u undef = v) (hd : A.defers = [])
    (hb : Box w g 25 [a, b, c, d, e, f]) (hR : R (.returned (.tuple #[.agg #[a, b, c, d, e, f], v])) w) : bodyPost Try.prog fn R .ret A w := by
  refine bodyPost_ret ?_ hd hR
  rw [results_cell_tmp hres, hp, hu, addr_is]
  simp only [Result.andThen]
  rw [load_met hb]
/-- A metric is returned. -/
theorem ret_met1 {fn : Func} {p : Tmp} (hres : fn.results = #[.cell p 25]) {R : Ending → World → Prop} {A : Act} {w : World} {g : Nat} {a b c d e f : Value} (hp : A.tmps.getD p undef = .pointer (some ⟨g, 0, none⟩)) (hd : A.defers = [])
    (hb : Box w g 25 [a, b, c, d, e, f]) (hR : R (.returned (.agg #[a, b, c, d, e, f])) w) : bodyPost Try.prog fn R .ret A w := by
  refine bodyPost_ret ?_ hd hR
  rw [results_cell1 hres, hp, addr_is]
  simp only [Result.andThen]
  rw [load_met hb]

/-! A store into a metric's own block leaves rows of Decs, and of tags, alone. -/
section
variable {w : World} {g : Nat} {t : TypeId} {s : ByteArray} {kd rt tm : Int} {A0 B0 : Option Addr} {n0 ca0 k0 cb0 : Nat}
theorem mC_str {j : Nat} {u : ByteArray} (h : (mC s kd A0 n0 ca0 rt B0 k0 cb0 tm)[j]? = some (.string u)) : j = 0 := by
  unfold mC at h
  match j, h with
  | 0, _ => rfl
  | 1, h => simp at h
  | 2, h => simp at h
  | 3, h => simp at h
  | 4, h => simp at h
  | 5, h => simp at h
  | j + 6, h => simp at h
theorem mC_bool {j : Nat} {u : Bool} (h : (mC s kd A0 n0 ca0 rt B0 k0 cb0 tm)[j]? = some (.bool u)) : False := by
  unfold mC at h
  match j, h with
  | 0, h => simp at h
  | 1, h => simp at h
  | 2, h => simp at h
  | 3, h => simp at h
  | 4, h => simp at h
  | 5, h => simp at h
  | j + 6, h => simp at h
theorem cell_far {w : World} {q a : Addr} (h : a.block ≠ q.block) (u : Value) : (w.setCell q u).cell? a = w.cell? a := by unfold World.cell?; rw [Below.heap_setCell w q u a.block h]
theorem Tags.set_met {B : Option Addr} {ts : List Tg} (h : Tags w B ts) (hb : Box w g t (mC s kd A0 n0 ca0 rt B0 k0 cb0 tm)) (i : Nat) (u : Value) : Tags (w.setCell ⟨g, i, none⟩ u) B ts := by
  intro j v hv
  obtain ⟨b, off, e, hc⟩ := h j v hv
  have hne : b ≠ g := by
    rintro rfl
    have hj : j / 2 < ts.length := by
      have := (List.getElem?_eq_some_iff.1 hv).1
      rw [flat_length] at this
      omega
    obtain ⟨b', off', e', k0, k1⟩ := h.at_ hj
    rw [e] at e'
    injection e' with e'
    injection e' with e1 e2
    subst e1 e2
    rw [hb.cell] at k0 k1
    have := mC_str k0
    have := mC_str k1
    omega
  exact ⟨b, off, e, (cell_far (q := ⟨g, i, none⟩) (a := ⟨b, off + j, none⟩) hne u).trans hc⟩
theorem Decs.set_met {A : Option Addr} {ds : List D} (h : Decs w A ds) (hb : Box w g t (mC s kd A0 n0 ca0 rt B0 k0 cb0 tm)) (i : Nat) (u : Value) : Decs (w.setCell ⟨g, i, none⟩ u) A ds := by
  intro j v hv
  obtain ⟨b, off, e, hc⟩ := h j v hv
  have hne : b ≠ g := by
    rintro rfl
    have hj : j / 3 < ds.length := by
      have := (List.getElem?_eq_some_iff.1 hv).1
      rw [flatD_length] at this
      omega
    obtain ⟨b', off', p, x, y, e', k0, k1, k2, _⟩ := h.get hj
    rw [e] at e'
    injection e' with e'
    injection e' with e1 e2
    subst e1 e2
    rw [hb.cell] at k0
    exact mC_bool k0
  exact ⟨b, off, e, (cell_far (q := ⟨g, i, none⟩) (a := ⟨b, off + j, none⟩) hne u).trans hc⟩
theorem MIs.set_met {s' : ByteArray} {A B : Option Addr} {n k : Nat} {m : Mt} (h : MIs w s' A n B k m) (hb : Box w g t (mC s kd A0 n0 ca0 rt B0 k0 cb0 tm)) (i : Nat) (u : Value) : MIs (w.setCell ⟨g, i, none⟩ u) s' A n B k m :=
  ⟨h.name, h.vlen, h.vals.set_met hb i u, h.tlen, h.tags.set_met hb i u⟩
/-- A whole metric is stored. -/
def putM (w : World) (g : Nat) (s : ByteArray) (kd : Int) (A0 : Option Addr) (n0 ca0 : Nat) (rt : Int) (B0 : Option Addr) (k0 cb0 : Nat) (tm : Int) : World :=
  (((((w.setCell ⟨g, 0, none⟩ (.string s)).setCell ⟨g, 1, none⟩ (.int .i64 kd)).setCell ⟨g, 2, none⟩ (.slice A0 n0 ca0)).setCell ⟨g, 3, none⟩ (.int .i64 rt)).setCell ⟨g, 4, none⟩ (.slice B0 k0 cb0)).setCell ⟨g, 5, none⟩ (.int .i64 tm)
theorem putM_is {s' : ByteArray} {kd' rt' tm' : Int} {A1 B1 : Option Addr} {n1 ca1 k1 cb1 : Nat} (hb : Box w g t (mC s kd A0 n0 ca0 rt B0 k0 cb0 tm)) : Box (putM w g s' kd' A1 n1 ca1 rt' B1 k1 cb1 tm') g t (mC s' kd' A1 n1 ca1 rt' B1 k1 cb1 tm') :=
  ((((((hb.set 0 _).set 1 _).set 2 _).set 3 _).set 4 _).set 5 _)
theorem putM_below {w0 : World} {s' : ByteArray} {kd' rt' tm' : Int} {A1 B1 : Option Addr} {n1 ca1 k1 cb1 : Nat} (h : Below w0.heap.size w0 w) (hg : w0.heap.size ≤ g) : Below w0.heap.size w0 (putM w g s' kd' A1 n1 ca1 rt' B1 k1 cb1 tm') :=
  below_set (below_set (below_set (below_set (below_set (below_set h hg _ _) hg _ _) hg _ _) hg _ _) hg _ _) hg _ _
theorem putM_mis {s' s2 : ByteArray} {kd' rt' tm' : Int} {A B A1 B1 : Option Addr} {n k n1 ca1 k1 cb1 : Nat} {m : Mt} (h : MIs w s2 A n B k m) (hb : Box w g t (mC s kd A0 n0 ca0 rt B0 k0 cb0 tm)) : MIs (putM w g s' kd' A1 n1 ca1 rt' B1 k1 cb1 tm') s2 A n B k m := by
  have b0 : Box (w.setCell ⟨g, 0, none⟩ (.string s')) g t (mC s' kd A0 n0 ca0 rt B0 k0 cb0 tm) := hb.set 0 _
  have b1 : Box ((w.setCell ⟨g, 0, none⟩ (.string s')).setCell ⟨g, 1, none⟩ (.int .i64 kd')) g t (mC s' kd' A0 n0 ca0 rt B0 k0 cb0 tm) := b0.set 1 _
  have b2 : Box (((w.setCell ⟨g, 0, none⟩ (.string s')).setCell ⟨g, 1, none⟩ (.int .i64 kd')).setCell ⟨g, 2, none⟩ (.slice A1 n1 ca1)) g t (mC s' kd' A1 n1 ca1 rt B0 k0 cb0 tm) := b1.set 2 _
  have b3 : Box ((((w.setCell ⟨g, 0, none⟩ (.string s')).setCell ⟨g, 1, none⟩ (.int .i64 kd')).setCell ⟨g, 2, none⟩ (.slice A1 n1 ca1)).setCell ⟨g, 3, none⟩ (.int .i64 rt')) g t (mC s' kd' A1 n1 ca1 rt' B0 k0 cb0 tm) := b2.set 3 _
  have b4 : Box (((((w.setCell ⟨g, 0, none⟩ (.string s')).setCell ⟨g, 1, none⟩ (.int .i64 kd')).setCell ⟨g, 2, none⟩ (.slice A1 n1 ca1)).setCell ⟨g, 3, none⟩ (.int .i64 rt')).setCell ⟨g, 4, none⟩ (.slice B1 k1 cb1)) g t (mC s' kd' A1 n1 ca1 rt' B1 k1 cb1 tm) := b3.set 4 _
  exact (((((h.set_met hb 0 _).set_met b0 1 _).set_met b1 2 _).set_met b2 3 _).set_met b3 4 _).set_met b4 5 _
end

/-- What Normal tells. -/
def NormMP (w : World) (m : Mt) (e : Ending) (w' : World) : Prop :=
  (∃ s A n ca B k cb, e = .returned (.tuple #[mV s (nM m).kind A n ca (nM m).rate B k cb (nM m).time, .int .i64 (codeM m)]) ∧ MIs w' s A n B k (nM m)) ∧ Below w.heap.size w w'
/-- The same, its rows in new memory. -/
def NormMF (w : World) (m : Mt) (e : Ending) (w' : World) : Prop :=
  (∃ s A n ca B k cb, e = .returned (.tuple #[mV s (nM m).kind A n ca (nM m).rate B k cb (nM m).time, .int .i64 (codeM m)]) ∧ MIs w' s A n B k (nM m) ∧ Fresh w.heap.size A ∧ Fresh w.heap.size B) ∧ Below w.heap.size w w'
theorem NormMF.p {w w' : World} {m : Mt} {e : Ending} (h : NormMF w m e w') : NormMP w m e w' := by obtain ⟨⟨s, A, n, ca, B, k, cb, h1, h2, _⟩, hb⟩ := h; exact ⟨⟨s, A, n, ca, B, k, cb, h1, h2⟩, hb⟩
theorem mis0 (w : World) (A B : Option Addr) : MIs w ⟨#[]⟩ A 0 B 0 M0 := ⟨rfl, rfl, Decs.nil, rfl, Tags.nil⟩

section
variable {w : World} {s : ByteArray} {A B : Option Addr} {n k ca cb : Nat} {m : Mt}

end
end Go.Proofs.Yteffankkelbhiaa
