/-
  MNormal, MSame, MRefEq, TKeep. No statement of the seat is proved here.
-/
import Derived.Test.YtdliookdmgilgaaGreatDoorGrMForms
import Derived.Test.YtdliookdmgilgaaGreatDoorTNormal2
/-
  Package metric: Normal, Is and Same. No statement of the seat is proved here.
-/
namespace Go.Proofs.YtdliookdmgilgaaGreatDoor
open Go.RowKit
open Dc (D D0)

theorem load_met {w : World} {g : Nat} {a b c d e f : Value} (h : Box w g 25 [a, b, c, d, e, f]) : (loadVar 25 ⟨g, 0, none⟩).run Tryz.prog w = .ok (.agg #[a, b, c, d, e, f]) w := by
  have c0 : w.cell? ⟨g, 0, none⟩ = some a := h.cell 0
  have c1 : w.cell? ⟨g, 1, none⟩ = some b := h.cell 1
  have c2 : w.cell? ⟨g, 2, none⟩ = some c := h.cell 2
  have c3 : w.cell? ⟨g, 3, none⟩ = some d := h.cell 3
  have c4 : w.cell? ⟨g, 4, none⟩ = some e := h.cell 4
  have c5 : w.cell? ⟨g, 5, none⟩ = some f := h.cell 5
  simp [go_sem, c0, c1, c2, c3, c4, c5]
/-- A metric and a number are returned. -/
theorem ret_met {fn : Func} {p u : Tmp} (hres : fn.results = #[.cell p 25, .tmp u]) {R : Ending → World → Prop} {A : Act} {w : World} {g : Nat} {a b c d e f v : Value} (hp : A.tmps.getD p undef = .pointer (some ⟨g, 0, none⟩)) (hu : A.tmps.getD u undef = v) (hd : A.defers = [])
    (hb : Box w g 25 [a, b, c, d, e, f]) (hR : R (.returned (.tuple #[.agg #[a, b, c, d, e, f], v])) w) : bodyPost Tryz.prog fn R .ret A w := by
  refine bodyPost_ret ?_ hd hR
  rw [results_cell_tmp hres, hp, hu, addr_is]
  simp only [Result.andThen]
  rw [load_met hb]
/-- A metric is returned. -/
theorem ret_met1 {fn : Func} {p : Tmp} (hres : fn.results = #[.cell p 25]) {R : Ending → World → Prop} {A : Act} {w : World} {g : Nat} {a b c d e f : Value} (hp : A.tmps.getD p undef = .pointer (some ⟨g, 0, none⟩)) (hd : A.defers = [])
    (hb : Box w g 25 [a, b, c, d, e, f]) (hR : R (.returned (.agg #[a, b, c, d, e, f])) w) : bodyPost Tryz.prog fn R .ret A w := by
  refine bodyPost_ret ?_ hd hR
  rw [results_cell1 hres, hp, addr_is]
  simp only [Result.andThen]
  rw [load_met hb]

/-! A store into a metric's own block leaves rows of Decs, and of tags, alone. -/
section
variable {w : World} {g : Nat} {t : TypeId} {s : ByteArray} {kd rt tm : Int} {A0 B0 : Option Addr} {n0 ca0 k0 cb0 : Nat}
theorem mC_str {j : Nat} {u : ByteArray} (h : (mC s kd A0 n0 ca0 rt B0 k0 cb0 tm)[j]? = some (.string u)) : j = 0 := by
  unfold mC at h
  match j, h with
  | 0, _ => rfl
  | 1, h => simp at h
  | 2, h => simp at h
  | 3, h => simp at h
  | 4, h => simp at h
  | 5, h => simp at h
  | j + 6, h => simp at h
theorem mC_bool {j : Nat} {u : Bool} (h : (mC s kd A0 n0 ca0 rt B0 k0 cb0 tm)[j]? = some (.bool u)) : False := by
  unfold mC at h
  match j, h with
  | 0, h => simp at h
  | 1, h => simp at h
  | 2, h => simp at h
  | 3, h => simp at h
  | 4, h => simp at h
  | 5, h => simp at h
  | j + 6, h => simp at h
theorem cell_far {w : World} {q a : Addr} (h : a.block ≠ q.block) (u : Value) : (w.setCell q u).cell? a = w.cell? a := by unfold World.cell?; rw [Below.heap_setCell w q u a.block h]
theorem Tags.set_met {B : Option Addr} {ts : List Tg} (h : Tags w B ts) (hb : Box w g t (mC s kd A0 n0 ca0 rt B0 k0 cb0 tm)) (i : Nat) (u : Value) : Tags (w.setCell ⟨g, i, none⟩ u) B ts := by
  intro j v hv
  obtain ⟨b, off, e, hc⟩ := h j v hv
  have hne : b ≠ g := by
    rintro rfl
    have hj : j / 2 < ts.length := by
      have := (List.getElem?_eq_some_iff.1 hv).1
      rw [flat_length] at this
      omega
    obtain ⟨b', off', e', k0, k1⟩ := h.at_ hj
    rw [e] at e'
    injection e' with e'
    injection e' with e1 e2
    subst e1 e2
    rw [hb.cell] at k0 k1
    have := mC_str k0
    have := mC_str k1
    omega
  exact ⟨b, off, e, (cell_far (q := ⟨g, i, none⟩) (a := ⟨b, off + j, none⟩) hne u).trans hc⟩
theorem Decs.set_met {A : Option Addr} {ds : List D} (h : Decs w A ds) (hb : Box w g t (mC s kd A0 n0 ca0 rt B0 k0 cb0 tm)) (i : Nat) (u : Value) : Decs (w.setCell ⟨g, i, none⟩ u) A ds := by
  intro j v hv
  obtain ⟨b, off, e, hc⟩ := h j v hv
  have hne : b ≠ g := by
    rintro rfl
    have hj : j / 3 < ds.length := by
      have := (List.getElem?_eq_some_iff.1 hv).1
      rw [flatD_length] at this
      omega
    obtain ⟨b', off', p, x, y, e', k0, k1, k2, _⟩ := h.get hj
    rw [e] at e'
    injection e' with e'
    injection e' with e1 e2
    subst e1 e2
    rw [hb.cell] at k0
    exact mC_bool k0
  exact ⟨b, off, e, (cell_far (q := ⟨g, i, none⟩) (a := ⟨b, off + j, none⟩) hne u).trans hc⟩
theorem MIs.set_met {s' : ByteArray} {A B : Option Addr} {n k : Nat} {m : Mt} (h : MIs w s' A n B k m) (hb : Box w g t (mC s kd A0 n0 ca0 rt B0 k0 cb0 tm)) (i : Nat) (u : Value) : MIs (w.setCell ⟨g, i, none⟩ u) s' A n B k m :=
  ⟨h.name, h.vlen, h.vals.set_met hb i u, h.tlen, h.tags.set_met hb i u⟩
/-- A whole metric is stored. -/
def putM (w : World) (g : Nat) (s : ByteArray) (kd : Int) (A0 : Option Addr) (n0 ca0 : Nat) (rt : Int) (B0 : Option Addr) (k0 cb0 : Nat) (tm : Int) : World :=
  (((((w.setCell ⟨g, 0, none⟩ (.string s)).setCell ⟨g, 1, none⟩ (.int .i64 kd)).setCell ⟨g, 2, none⟩ (.slice A0 n0 ca0)).setCell ⟨g, 3, none⟩ (.int .i64 rt)).setCell ⟨g, 4, none⟩ (.slice B0 k0 cb0)).setCell ⟨g, 5, none⟩ (.int .i64 tm)
theorem putM_is {s' : ByteArray} {kd' rt' tm' : Int} {A1 B1 : Option Addr} {n1 ca1 k1 cb1 : Nat} (hb : Box w g t (mC s kd A0 n0 ca0 rt B0 k0 cb0 tm)) : Box (putM w g s' kd' A1 n1 ca1 rt' B1 k1 cb1 tm') g t (mC s' kd' A1 n1 ca1 rt' B1 k1 cb1 tm') :=
  ((((((hb.set 0 _).set 1 _).set 2 _).set 3 _).set 4 _).set 5 _)
theorem putM_below {w0 : World} {s' : ByteArray} {kd' rt' tm' : Int} {A1 B1 : Option Addr} {n1 ca1 k1 cb1 : Nat} (h : Below w0.heap.size w0 w) (hg : w0.heap.size ≤ g) : Below w0.heap.size w0 (putM w g s' kd' A1 n1 ca1 rt' B1 k1 cb1 tm') :=
  below_set (below_set (below_set (below_set (below_set (below_set h hg _ _) hg _ _) hg _ _) hg _ _) hg _ _) hg _ _
theorem putM_mis {s' s2 : ByteArray} {kd' rt' tm' : Int} {A B A1 B1 : Option Addr} {n k n1 ca1 k1 cb1 : Nat} {m : Mt} (h : MIs w s2 A n B k m) (hb : Box w g t (mC s kd A0 n0 ca0 rt B0 k0 cb0 tm)) : MIs (putM w g s' kd' A1 n1 ca1 rt' B1 k1 cb1 tm') s2 A n B k m := by
  have b0 : Box (w.setCell ⟨g, 0, none⟩ (.string s')) g t (mC s' kd A0 n0 ca0 rt B0 k0 cb0 tm) := hb.set 0 _
  have b1 : Box ((w.setCell ⟨g, 0, none⟩ (.string s')).setCell ⟨g, 1, none⟩ (.int .i64 kd')) g t (mC s' kd' A0 n0 ca0 rt B0 k0 cb0 tm) := b0.set 1 _
  have b2 : Box (((w.setCell ⟨g, 0, none⟩ (.string s')).setCell ⟨g, 1, none⟩ (.int .i64 kd')).setCell ⟨g, 2, none⟩ (.slice A1 n1 ca1)) g t (mC s' kd' A1 n1 ca1 rt B0 k0 cb0 tm) := b1.set 2 _
  have b3 : Box ((((w.setCell ⟨g, 0, none⟩ (.string s')).setCell ⟨g, 1, none⟩ (.int .i64 kd')).setCell ⟨g, 2, none⟩ (.slice A1 n1 ca1)).setCell ⟨g, 3, none⟩ (.int .i64 rt')) g t (mC s' kd' A1 n1 ca1 rt' B0 k0 cb0 tm) := b2.set 3 _
  have b4 : Box (((((w.setCell ⟨g, 0, none⟩ (.string s')).setCell ⟨g, 1, none⟩ (.int .i64 kd')).setCell ⟨g, 2, none⟩ (.slice A1 n1 ca1)).setCell ⟨g, 3, none⟩ (.int .i64 rt')).setCell ⟨g, 4, none⟩ (.slice B1 k1 cb1)) g t (mC s' kd' A1 n1 ca1 rt' B1 k1 cb1 tm) := b3.set 4 _
  exact (((((h.set_met hb 0 _).set_met b0 1 _).set_met b1 2 _).set_met b2 3 _).set_met b3 4 _).set_met b4 5 _
end

/-- What Normal tells. -/
def NormMP (w : World) (m : Mt) (e : Ending) (w' : World) : Prop :=
  (∃ s A n ca B k cb, e = .returned (.tuple #[mV s (nM m).kind A n ca (nM m).rate B k cb (nM m).time, .int .i64 (codeM m)]) ∧ MIs w' s A n B k (nM m)) ∧ Below w.heap.size w w'
/-- The same, its rows in new memory. -/
def NormMF (w : World) (m : Mt) (e : Ending) (w' : World) : Prop :=
  (∃ s A n ca B k cb, e = .returned (.tuple #[mV s (nM m).kind A n ca (nM m).rate B k cb (nM m).time, .int .i64 (codeM m)]) ∧ MIs w' s A n B k (nM m) ∧ Fresh w.heap.size A ∧ Fresh w.heap.size B) ∧ Below w.heap.size w w'
theorem NormMF.p {w w' : World} {m : Mt} {e : Ending} (h : NormMF w m e w') : NormMP w m e w' := by obtain ⟨⟨s, A, n, ca, B, k, cb, h1, h2, _⟩, hb⟩ := h; exact ⟨⟨s, A, n, ca, B, k, cb, h1, h2⟩, hb⟩
theorem mis0 (w : World) (A B : Option Addr) : MIs w ⟨#[]⟩ A 0 B 0 M0 := ⟨rfl, rfl, Decs.nil, rfl, Tags.nil⟩

section
variable {w : World} {s : ByteArray} {A B : Option Addr} {n k ca cb : Nat} {m : Mt}

end
end Go.Proofs.YtdliookdmgilgaaGreatDoor

/-
  Package metric: Is and Same. No statement of the seat is proved here.
-/
namespace Go.Proofs.YtdliookdmgilgaaGreatDoor
open Go.RowKit
open Dc (D D0)

section
variable {w : World} {s s' : ByteArray} {A B A' B' : Option Addr} {n k ca cb n' k' ca' cb' : Nat} {m a b : Mt}

set_option maxRecDepth 100000 in
set_option maxHeartbeats 4000000 in
theorem mis_calls (h : MIs w s A n B k m) (hz : Small m) : Calls Tryz.prog 23 #[mV s m.kind A n ca m.rate B k cb m.time] w fun e w' => e = .returned (.bool (isM m)) ∧ Below w.heap.size w w' := by
  have hC := fun W (b : Below w.heap.size w W) => mcheck_calls (ca := ca) (cb := cb) (h.keep b) hz
  have hI := fun W (b : Below w.heap.size w W) => is_calls6 (cap := cb) h.tlen (h.tags.keep b) (by have := h.tlen; have := hz.tags; omega)
  obtain ⟨q, hq⟩ : ∃ q, checkM m = q := ⟨_, rfl⟩
  obtain ⟨p, hp⟩ : ∃ p, decide (m.tags = norm m.tags) = p := ⟨_, rfl⟩
  have hr : isM m = (decide (q = 0) && p) := by unfold isM; rw [hq, hp]
  rw [hr]
  rw [hq] at hC
  rw [hp] at hI
  unfold mV at hC ⊢
  generalize m.kind = kd at *
  generalize m.rate = rt at *
  generalize m.time = tm at *
  have HC := Lib.hid hC
  have HI := Lib.hid hI
  have b0 := (Kb.start w).push 25 (mC s kd A n ca rt B k cb tm)
  unfold mC at b0
  have HB := Lib.hid b0
  clear hC hI hq hp hr b0 h hz
  go_enter Tryz.func23, Tryz.ntmps23
  go_wp2_with fail
  refine (HC.out _ HB.out.kept).mono ?_
  rintro e w1 ⟨rfl, hb⟩
  have HB1 := Lib.hid (HB.out.next hb)
  clear hb HB HC
  by_cases hq0 : q = 0
  · subst hq0
    have c4 : w1.cell? ⟨w.heap.size, 4, none⟩ = some (.slice B k cb) := HB1.out.cell (.head _) rfl
    go_wp2_with fail
    refine (HI.out _ HB1.out.kept).mono ?_
    rintro e w2 ⟨rfl, hb⟩
    have HB2 := Lib.hid (HB1.out.next hb)
    clear hb HB1 HI c4
    go_wp2_with fail
    go_ret
    exact ⟨by simp, HB2.out.kept⟩
  · have h1 : (q == 0) = false := by simpa using hq0
    have HE := Lib.hid (decide_eq_false hq0)
    go_wp2_with fail
    go_ret
    exact ⟨by simp [HE.out], HB1.out.kept⟩

end
end Go.Proofs.YtdliookdmgilgaaGreatDoor

/-
  Layer 7: the document's Equal. No statement of the seat is proved here.
-/
namespace Go.Proofs.YtdliookdmgilgaaGreatDoor
open Go.RowKit
open Dc (D D0)

section
variable {w : World} {s s' : ByteArray} {A B A' B' : Option Addr} {n k n' k' ca cb ca' cb' : Nat} {a b : Mt}
/-- Both metrics lie. -/
structure TwoM (w : World) (s : ByteArray) (kd : Int) (A : Option Addr) (n ca : Nat) (rt : Int) (B : Option Addr) (k cb : Nat) (tm : Int) (s' : ByteArray) (kd' : Int) (A' : Option Addr) (n' ca' : Nat) (rt' : Int) (B' : Option Addr) (k' cb' : Nat) (tm' : Int) (w' : World) : Prop where
  kept : Below w.heap.size w w'
  one : Box w' w.heap.size 25 (mC s kd A n ca rt B k cb tm)
  two : Box w' (w.heap.size + 1) 25 (mC s' kd' A' n' ca' rt' B' k' cb' tm')
theorem TwoM.next {w1 w2 : World} {kd rt tm kd' rt' tm' : Int} (h : TwoM w s kd A n ca rt B k cb tm s' kd' A' n' ca' rt' B' k' cb' tm' w1) (hb : Below w1.heap.size w1 w2) : TwoM w s kd A n ca rt B k cb tm s' kd' A' n' ca' rt' B' k' cb' tm' w2 := ⟨below_then h.kept hb, h.one.keep hb, h.two.keep hb⟩
theorem TwoM.drewN {w1 : World} {kd rt tm kd' rt' tm' : Int} (h : TwoM w s kd A n ca rt B k cb tm s' kd' A' n' ca' rt' B' k' cb' tm' w1) (j : Nat) : TwoM w s kd A n ca rt B k cb tm s' kd' A' n' ca' rt' B' k' cb' tm' (w1.drewN j) := h.next (Same.below (Same.drewN _ _))

set_option maxRecDepth 100000 in
set_option maxHeartbeats 8000000 in
theorem requal_calls (ha : MIs w s A n B k a) (hb : MIs w s' A' n' B' k' b) (za : Small a) :
    Calls Tryz.prog 16 #[mV s a.kind A n ca a.rate B k cb a.time, mV s' b.kind A' n' ca' b.rate B' k' cb' b.time] w fun e w' => e = .returned (.bool (decide (a = b))) ∧ Below w.heap.size w w' := by
  obtain ⟨q, hq⟩ : ∃ q, decide (a = b) = q := ⟨_, rfl⟩
  rw [hq]
  have HQ := Lib.hid hq
  clear hq
  obtain ⟨kd, hkd⟩ : ∃ x, x = a.kind := ⟨_, rfl⟩
  obtain ⟨rt, hrt⟩ : ∃ x, x = a.rate := ⟨_, rfl⟩
  obtain ⟨tm, htm⟩ : ∃ x, x = a.time := ⟨_, rfl⟩
  obtain ⟨kd', hkd'⟩ : ∃ x, x = b.kind := ⟨_, rfl⟩
  obtain ⟨rt', hrt'⟩ : ∃ x, x = b.rate := ⟨_, rfl⟩
  obtain ⟨tm', htm'⟩ : ∃ x, x = b.time := ⟨_, rfl⟩
  rw [← hkd, ← hrt, ← htm, ← hkd', ← hrt', ← htm']
  have HY := Lib.hid (And.intro hkd (And.intro hrt (And.intro htm (And.intro hkd' (And.intro hrt' htm')))))
  have hse := str_eq ha.name hb.name
  obtain ⟨qn, hqn⟩ : ∃ q, (a.name == b.name) = q := ⟨_, rfl⟩
  rw [hqn] at hse
  have HN := Lib.hid hqn
  have b0 := ((Kb.start w).push 25 (mC s kd A n ca rt B k cb tm)).push 25 (mC s' kd' A' n' ca' rt' B' k' cb' tm')
  rw [size_alloc] at b0
  have b1 : TwoM w s kd A n ca rt B k cb tm s' kd' A' n' ca' rt' B' k' cb' tm' _ := ⟨b0.kept, b0.box _ (.tail _ (.head _)), b0.box _ (.head _)⟩
  unfold mC at b1
  have HL := Lib.hid b1
  have HH := Lib.hid (And.intro ha (And.intro hb za))
  have z1 : n ≤ 1000 := by have := ha.vlen; have := za.vals; omega
  have z2 : k ≤ 1000 := by have := ha.tlen; have := za.tags; omega
  have hg := dguard
  have hg2 := tguard
  unfold mV
  clear b0 b1 hkd hrt htm hkd' hrt' htm' hqn ha hb za
  go_enter Tryz.func16, Tryz.ntmps16
  have hse' : (s.toList != s'.toList) = !qn := by rw [bne, hse]
  cases qn
  · have HZ := Lib.hid (show q = false by
      rw [← HQ.out]; exact decide_eq_false fun h => by have := HN.out; rw [(mt_ext.1 h).1] at this; simp at this)
    go_wp2_with fail
    go_ret
    exact ⟨by rw [HZ.out]; first | done | rfl, HL.out.kept⟩
  rcases (by omega : kd ≠ kd' ∨ (kd = kd' ∧ rt ≠ rt') ∨ (kd = kd' ∧ rt = rt' ∧ tm ≠ tm') ∨ (kd = kd' ∧ rt = rt' ∧ tm = tm' ∧ n ≠ n') ∨ (kd = kd' ∧ rt = rt' ∧ tm = tm' ∧ n = n' ∧ k ≠ k') ∨ (kd = kd' ∧ rt = rt' ∧ tm = tm' ∧ n = n' ∧ k = k')) with h | ⟨rfl, h⟩ | ⟨rfl, rfl, h⟩ | ⟨rfl, rfl, rfl, h⟩ | ⟨rfl, rfl, rfl, rfl, h⟩ | ⟨rfl, rfl, rfl, rfl, rfl⟩
  · have HZ := Lib.hid (show q = false by
      obtain ⟨h1, h2, h3, h4, h5, h6⟩ := HY.out
      rw [← HQ.out]; exact decide_eq_false fun e => h (by rw [h1, h4, e]))
    have h1 : (kd != kd') = true := by simpa using h
    go_wp2_with fail
    go_ret
    exact ⟨by rw [HZ.out]; first | done | rfl, HL.out.kept⟩
  · have HZ := Lib.hid (show q = false by
      obtain ⟨h1, h2, h3, h4, h5, h6⟩ := HY.out
      rw [← HQ.out]; exact decide_eq_false fun e => h (by rw [h2, h5, e]))
    have h1 : (rt != rt') = true := by simpa using h
    go_wp2_with fail
    go_ret
    exact ⟨by rw [HZ.out]; first | done | rfl, HL.out.kept⟩
  · have HZ := Lib.hid (show q = false by
      obtain ⟨h1, h2, h3, h4, h5, h6⟩ := HY.out
      rw [← HQ.out]; exact decide_eq_false fun e => h (by rw [h3, h6, e]))
    have h1 : (tm != tm') = true := by simpa using h
    go_wp2_with fail
    go_ret
    exact ⟨by rw [HZ.out]; first | done | rfl, HL.out.kept⟩
  · have HZ := Lib.hid (show q = false by
      rw [← HQ.out]; exact decide_eq_false fun e => h (by rw [← HH.out.1.vlen, ← HH.out.2.1.vlen, e]))
    have h1 : ((n : Int) != (n' : Int)) = true := by simp; omega
    go_wp2_with fail
    go_ret
    exact ⟨by rw [HZ.out]; first | done | rfl, HL.out.kept⟩
  · have HZ := Lib.hid (show q = false by
      rw [← HQ.out]; exact decide_eq_false fun e => h (by rw [← HH.out.1.tlen, ← HH.out.2.1.tlen, e]))
    have h1 : ((k : Int) != (k' : Int)) = true := by simp; omega
    go_wp2_with fail
    go_ret
    exact ⟨by rw [HZ.out]; first | done | rfl, HL.out.kept⟩
  go_wp2_with fail
  go_loopw [5] (fun v wr => ∃ i : Nat, v = .int .i64 i ∧ i ≤ n ∧ Hid (TwoM w s kd A n ca rt B k cb tm s' kd A' n ca' rt B' k cb' tm wr ∧ ∀ j (h : j < a.vals.length) (g : j < b.vals.length), j < i → a.vals[j] = b.vals[j])) (fun v _ => n - (intOf v).toNat)
  case atStart => exact ⟨0, rfl, by omega, ⟨HL.out, fun j _ _ hj => absurd hj (by omega)⟩⟩
  case round =>
    obtain ⟨i, rfl, hin, hrel⟩ := hrel
    clear HL
    have m2 : wr.cell? ⟨w.heap.size, 2, none⟩ = some (.slice A n ca) := hrel.out.1.one.cell 2
    by_cases hlt : i < n
    · have g1 : (i : Int) < (n : Int) := by omega
      have g2 : (0 : Int) ≤ (i : Int) := by omega
      have p2 : wr.cell? ⟨w.heap.size + 1, 2, none⟩ = some (.slice A' n ca') := hrel.out.1.two.cell 2
      obtain ⟨ha, hb, _⟩ := HH.out
      have l1 : i < a.vals.length := by rw [ha.vlen]; exact hlt
      have l2 : i < b.vals.length := by rw [hb.vlen]; exact hlt
      obtain ⟨bb, off, p, x, y, e1, c0, c1, c2, hd⟩ := (ha.vals.keep hrel.out.1.kept).get l1
      obtain ⟨b', off', p', x', y', e2, d0, d1, d2, hd'⟩ := (hb.vals.keep hrel.out.1.kept).get l2
      subst e1 e2
      by_cases he : a.vals[i] = b.vals[i]
      · have kk := dne_run hd hd' (decide_eq_true he)
        have HE := Lib.hid he
        clear ha hb hd hd' he
        go_wp2_with fail
        go_quiet (fail)
        go_wp2_with fail
        refine ⟨⟨i + 1, by go_num, by omega, ⟨hrel.out.1.drewN _, fun j h g hj => ?_⟩⟩, by simp [intOf]; omega⟩
        rcases Nat.lt_or_ge j i with h' | h'
        · exact hrel.out.2 j h g h'
        · obtain rfl : i = j := by omega
          exact HE.out
      · have kk := dne_run hd hd' (decide_eq_false he)
        have HE := Lib.hid (show q = false by rw [← HQ.out]; exact decide_eq_false fun h => he (by subst h; rfl))
        clear ha hb hd hd' he
        go_wp2_with fail
        go_quiet (fail)
        go_wp2_with fail
        go_ret
        exact ⟨by rw [HE.out]; first | done | rfl, (hrel.out.1.drewN _).kept⟩
    · have g1 : ¬ (i : Int) < (n : Int) := by omega
      have HV := Lib.hid (show a.vals = b.vals by
        obtain ⟨ha, hb, _⟩ := HH.out
        exact List.ext_getElem (by rw [ha.vlen, hb.vlen]) fun j h g => hrel.out.2 j h g (by have := ha.vlen; omega))
      have HL := Lib.hid hrel.out.1
      clear hrel hlt
      obtain ⟨wo, hwo⟩ : ∃ wo, wo = wr := ⟨_, rfl⟩
      subst hwo
      go_wp2_with fail
      go_loopw [6] (fun v wr => ∃ i : Nat, v = .int .i64 i ∧ i ≤ k ∧ Hid (TwoM w s kd A n ca rt B k cb tm s' kd A' n ca' rt B' k cb' tm wr ∧ ∀ j (h : j < a.tags.length) (g : j < b.tags.length), j < i → a.tags[j] = b.tags[j])) (fun v _ => k - (intOf v).toNat)
      case atStart => exact ⟨0, rfl, by omega, ⟨HL.out, fun j _ _ hj => absurd hj (by omega)⟩⟩
      case round =>
        obtain ⟨i, rfl, hin, hrel⟩ := hrel
        clear HL m2 g1
        have m4 : wr.cell? ⟨w.heap.size, 4, none⟩ = some (.slice B k cb) := hrel.out.1.one.cell 4
        by_cases hlt : i < k
        · have g1 : (i : Int) < (k : Int) := by omega
          have g2 : (0 : Int) ≤ (i : Int) := by omega
          have p4 : wr.cell? ⟨w.heap.size + 1, 4, none⟩ = some (.slice B' k cb') := hrel.out.1.two.cell 4
          obtain ⟨ha, hb, _⟩ := HH.out
          have l1 : i < a.tags.length := by rw [ha.tlen]; exact hlt
          have l2 : i < b.tags.length := by rw [hb.tlen]; exact hlt
          obtain ⟨bb, off, s1, t1, e1, c0, c1, hs, ht⟩ := (ha.tags.keep hrel.out.1.kept).get l1
          obtain ⟨b', off', s2, t2, e2, d0, d1, hs', ht'⟩ := (hb.tags.keep hrel.out.1.kept).get l2
          subst e1 e2
          by_cases he : a.tags[i] = b.tags[i]
          · have kk := tne_run hs ht hs' ht' (decide_eq_true he)
            have HE := Lib.hid he
            clear ha hb hs ht hs' ht' he
            go_wp2_with fail
            go_quiet (fail)
            go_wp2_with fail
            refine ⟨⟨i + 1, by go_num, by omega, ⟨hrel.out.1.drewN _, fun j h g hj => ?_⟩⟩, by simp [intOf]; omega⟩
            rcases Nat.lt_or_ge j i with h' | h'
            · exact hrel.out.2 j h g h'
            · obtain rfl : i = j := by omega
              exact HE.out
          · have kk := tne_run hs ht hs' ht' (decide_eq_false he)
            have HE := Lib.hid (show q = false by rw [← HQ.out]; exact decide_eq_false fun h => he (by subst h; rfl))
            clear ha hb hs ht hs' ht' he
            go_wp2_with fail
            go_quiet (fail)
            go_wp2_with fail
            go_ret
            exact ⟨by rw [HE.out]; first | done | rfl, (hrel.out.1.drewN _).kept⟩
        · have g1 : ¬ (i : Int) < (k : Int) := by omega
          have HE := Lib.hid (show q = true by
            obtain ⟨ha, hb, _⟩ := HH.out
            obtain ⟨h1, h2, h3, h4, h5, h6⟩ := HY.out
            rw [← HQ.out]
            refine decide_eq_true (mt_ext.2 ⟨by simpa using HN.out, by rw [← h1, h4], by rw [← h2, h5], by rw [← h3, h6], HV.out, ?_⟩)
            exact List.ext_getElem (by rw [ha.tlen, hb.tlen]) fun j h g => hrel.out.2 j h g (by have := ha.tlen; omega))
          go_wp2_with fail
          go_ret
          exact ⟨by rw [HE.out]; first | done | rfl, hrel.out.1.kept⟩
end
end Go.Proofs.YtdliookdmgilgaaGreatDoor

/-
  What lies so while a law goes on: cells, and rows of tags. No statement of the seat is proved here.
-/
namespace Go.Proofs.YtdliookdmgilgaaGreatDoor
open Go.RowKit

/-- These cells, and these rows of tags, lie so, and nothing old has changed. -/
structure Kp (w0 : World) (L : List (Addr × Value)) (R : List (Option Addr × List Tg)) (w : World) : Prop where
  kept : Below w0.heap.size w0 w
  has : ∀ x ∈ L, w.cell? x.1 = some x.2
  rows : ∀ x ∈ R, Tags w x.1 x.2
section
variable {w0 w w' : World} {L : List (Addr × Value)} {R : List (Option Addr × List Tg)}
theorem Kp.start (w : World) : Kp w [] [] w := ⟨Below.refl _ _, by simp, by simp⟩
theorem Kp.next (h : Kp w0 L R w) (k : Below w.heap.size w w') : Kp w0 L R w' := ⟨below_then h.kept k, fun x hx => (k.cell (cell_lt (h.has x hx))).trans (h.has x hx), fun x hx => (h.rows x hx).keep k⟩
theorem Kp.drew (h : Kp w0 L R w) : Kp w0 L R w.drew := h.next (Same.below (Same.drewN w 1))
theorem Kp.alloc (h : Kp w0 L R w) (o : Obj) : Kp w0 L R (w.alloc o) := h.next ((Below.refl _ _).alloc (Nat.le_refl _) o)
theorem Kp.push (h : Kp w0 L R w) (t : TypeId) (a b : Value) : Kp w0 ((⟨w.heap.size, 0, none⟩, a) :: (⟨w.heap.size, 1, none⟩, b) :: L) R (w.alloc (.cells #[a, b] t)) := by
  have h' := h.alloc (.cells #[a, b] t)
  refine ⟨h'.kept, fun x hx => ?_, h'.rows⟩
  have hb := Box.new w t [a, b]
  rcases List.mem_cons.1 hx with rfl | hx
  · exact hb.cell 0
  · rcases List.mem_cons.1 hx with rfl | hx
    · exact hb.cell 1
    · exact h'.has x hx
theorem Kp.row (h : Kp w0 L R w) {A : Option Addr} {ts : List Tg} (ha : Tags w A ts) : Kp w0 L ((A, ts) :: R) w := ⟨h.kept, h.has, fun x hx => by
  rcases List.mem_cons.1 hx with rfl | hx
  · exact ha
  · exact h.rows x hx⟩
theorem Kp.cell {a : Addr} {v : Value} (h : Kp w0 L R w) (hm : (a, v) ∈ L) : w.cell? a = some v := h.has (a, v) hm
theorem Kp.tags {A : Option Addr} {ts : List Tg} (h : Kp w0 L R w) (hm : (A, ts) ∈ R) : Tags w A ts := h.rows (A, ts) hm
end

theorem tags_lit {w : World} {n : Nat} (hn : w.heap.size = n) (ts : List Tg) : Tags (w.alloc (.cells (flat ts).toArray 54)) (some ⟨n, 0, none⟩) ts := by
  subst hn
  intro i u hu
  exact ⟨w.heap.size, 0, rfl, by rw [Nat.zero_add, (Box.new w 54 (flat ts)).cell i]; exact hu⟩

theorem Tags.drew {w : World} {A : Option Addr} {ts : List Tg} (h : Tags w A ts) : Tags w.drew A ts := h.keep (Same.below (Same.drewN w 1))
theorem Tags.alloc {w : World} {A : Option Addr} {ts : List Tg} (h : Tags w A ts) (o : Obj) : Tags (w.alloc o) A ts := h.keep ((Below.refl _ _).alloc (Nat.le_refl _) o)
end Go.Proofs.YtdliookdmgilgaaGreatDoor
