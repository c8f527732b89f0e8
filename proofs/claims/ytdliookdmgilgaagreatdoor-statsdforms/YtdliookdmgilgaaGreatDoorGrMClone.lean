/-
  MClone, MLaw, SdRet, EMath. No statement of the seat is proved here.
-/
import Derived.Test.YtdliookdmgilgaaGreatDoorGrMNormal
import Derived.Test.YtdliookdmgilgaaGreatDoorMAwake
import Derived.Test.YtdliookdmgilgaaGreatDoorGrMRef1
import Derived.Lib.QuietBelow
import Derived.Test.YtdliookdmgilgaaGreatDoorGrMMath
/-
  Package metric: Clone; the document's Copy. No statement of the seat is proved here.
-/
namespace Go.Proofs.YtdliookdmgilgaaGreatDoor
open Go.RowKit
open Dc (D D0)

theorem own_set {w : World} {base n size : Nat} {el : TypeId} {v : Value} {xs : List Value} (h : w.ownsRow base el size v n xs) {q : Addr} (hq : q.block < base) (u : Value) : (w.setCell q u).ownsRow base el size v n xs := by
  refine ⟨h.1, ?_⟩
  rcases h.2 with h2 | ⟨g, cap, cur, hv, hg, hh, r⟩
  · exact .inl h2
  · exact .inr ⟨g, cap, cur, hv, hg, (Below.heap_setCell w q u g (by omega)).trans hh, r⟩

section
variable {w : World} {A : Option Addr} {n cap : Nat}
end

/-- What Clone tells: a metric whose rows are its own. -/
structure OwnM (base : Nat) (w : World) (s : ByteArray) (A : Option Addr) (n ca : Nat) (B : Option Addr) (k cb : Nat) (m : Mt) : Prop where
  name : Str s m.name
  vals : w.ownsRow base 50 3 (.slice A n ca) n (flatD m.vals)
  tags : w.ownsRow base 54 2 (.slice B k cb) k (flat m.tags)
theorem own_lenT {w : World} {ts : List Tg} {base n : Nat} {v : Value} (h : w.ownsRow base 54 2 v n (flat ts)) : ts.length = n := by have := h.1; rw [flat_length] at this; omega
theorem OwnM.mis {base : Nat} {w : World} {s : ByteArray} {A B : Option Addr} {n ca k cb : Nat} {m : Mt} (h : OwnM base w s A n ca B k cb m) : MIs w s A n B k m :=
  ⟨h.name, own_lenD h.vals, Decs.of_own h.vals, own_lenT h.tags, Tags.of_own h.tags⟩
theorem OwnM.keep {base : Nat} {w w' : World} {s : ByteArray} {A B : Option Addr} {n ca k cb : Nat} {m : Mt} (h : OwnM base w s A n ca B k cb m) (b : Below w.heap.size w w') : OwnM base w' s A n ca B k cb m := ⟨h.name, own_keep h.vals b, own_keep h.tags b⟩
theorem OwnM.low {base base' : Nat} {w : World} {s : ByteArray} {A B : Option Addr} {n ca k cb : Nat} {m : Mt} (h : OwnM base w s A n ca B k cb m) (b : base' ≤ base) : OwnM base' w s A n ca B k cb m := ⟨h.name, own_base h.vals b, own_base h.tags b⟩
theorem OwnM.put {base : Nat} {w : World} {s : ByteArray} {A B : Option Addr} {n ca k cb : Nat} {m : Mt} (h : OwnM base w s A n ca B k cb m) {q : Addr} (hq : q.block < base) (u : Value) : OwnM base (w.setCell q u) s A n ca B k cb m := ⟨h.name, own_set h.vals hq u, own_set h.tags hq u⟩

section
variable {w : World} {s : ByteArray} {A B : Option Addr} {n k ca cb : Nat} {m : Mt}
/-- What Clone tells. -/
def CloneP (w : World) (s : ByteArray) (n k : Nat) (m : Mt) (e : Ending) (w' : World) : Prop :=
  (∃ A ca B cb, e = .returned (mV s m.kind A n ca m.rate B k cb m.time) ∧ OwnM w.heap.size w' s A n ca B k cb m) ∧ Below w.heap.size w w'

end
end Go.Proofs.YtdliookdmgilgaaGreatDoor

/-
  Layer 7: what the laws call, over what is kept: each call with its answer named. No statement of the seat is proved here.
-/
namespace Go.Proofs.YtdliookdmgilgaaGreatDoor
open Go.RowKit
open Dc (D D0)

section
variable {w W : World} {L : List (Nat × TypeId × List Value)} {M : List (ByteArray × Option Addr × Nat × Option Addr × Nat × Mt)}
variable {s : ByteArray} {A B : Option Addr} {n k : Nat} {m : Mt} {s' : ByteArray} {A' B' : Option Addr} {n' k' : Nat} {m' : Mt}
theorem Kb.six (h : Kb w L M W) {g : Nat} {t : TypeId} {a b c d e f : Value} (hm : (g, t, [a, b, c, d, e, f]) ∈ L) :
    W.cell? ⟨g, 0, none⟩ = some a ∧ W.cell? ⟨g, 1, none⟩ = some b ∧ W.cell? ⟨g, 2, none⟩ = some c ∧ W.cell? ⟨g, 3, none⟩ = some d ∧ W.cell? ⟨g, 4, none⟩ = some e ∧ W.cell? ⟨g, 5, none⟩ = some f :=
  ⟨h.cell hm rfl, h.cell hm rfl, h.cell hm rfl, h.cell hm rfl, h.cell hm rfl, h.cell hm rfl⟩
theorem Kb.twelve (h : Kb w L M W) {g g' : Nat} {t t' : TypeId} {a b c d e f a' b' c' d' e' f' : Value} (hm : (g, t, [a, b, c, d, e, f]) ∈ L) (hm' : (g', t', [a', b', c', d', e', f']) ∈ L) :
    W.cell? ⟨g, 0, none⟩ = some a ∧ W.cell? ⟨g, 1, none⟩ = some b ∧ W.cell? ⟨g, 2, none⟩ = some c ∧ W.cell? ⟨g, 3, none⟩ = some d ∧ W.cell? ⟨g, 4, none⟩ = some e ∧ W.cell? ⟨g, 5, none⟩ = some f ∧
      W.cell? ⟨g', 0, none⟩ = some a' ∧ W.cell? ⟨g', 1, none⟩ = some b' ∧ W.cell? ⟨g', 2, none⟩ = some c' ∧ W.cell? ⟨g', 3, none⟩ = some d' ∧ W.cell? ⟨g', 4, none⟩ = some e' ∧ W.cell? ⟨g', 5, none⟩ = some f' ∧ Kb w L M W :=
  ⟨h.cell hm rfl, h.cell hm rfl, h.cell hm rfl, h.cell hm rfl, h.cell hm rfl, h.cell hm rfl, h.cell hm' rfl, h.cell hm' rfl, h.cell hm' rfl, h.cell hm' rfl, h.cell hm' rfl, h.cell hm' rfl, h⟩
theorem Kb.of12 {P1 P2 P3 P4 P5 P6 Q1 Q2 Q3 Q4 Q5 Q6 : Prop} (h : P1 ∧ P2 ∧ P3 ∧ P4 ∧ P5 ∧ P6 ∧ Q1 ∧ Q2 ∧ Q3 ∧ Q4 ∧ Q5 ∧ Q6 ∧ Kb w L M W) : Kb w L M W := h.2.2.2.2.2.2.2.2.2.2.2.2
theorem Kb.eighteen (h : Kb w L M W) {g g' g2 : Nat} {t t' t2 : TypeId} {a b c d e f a' b' c' d' e' f' a2 b2 c2 d2 e2 f2 : Value} (hm : (g, t, [a, b, c, d, e, f]) ∈ L) (hm' : (g', t', [a', b', c', d', e', f']) ∈ L) (hm2 : (g2, t2, [a2, b2, c2, d2, e2, f2]) ∈ L) :
    W.cell? ⟨g, 0, none⟩ = some a ∧ W.cell? ⟨g, 1, none⟩ = some b ∧ W.cell? ⟨g, 2, none⟩ = some c ∧ W.cell? ⟨g, 3, none⟩ = some d ∧ W.cell? ⟨g, 4, none⟩ = some e ∧ W.cell? ⟨g, 5, none⟩ = some f ∧
      W.cell? ⟨g', 0, none⟩ = some a' ∧ W.cell? ⟨g', 1, none⟩ = some b' ∧ W.cell? ⟨g', 2, none⟩ = some c' ∧ W.cell? ⟨g', 3, none⟩ = some d' ∧ W.cell? ⟨g', 4, none⟩ = some e' ∧ W.cell? ⟨g', 5, none⟩ = some f' ∧
      W.cell? ⟨g2, 0, none⟩ = some a2 ∧ W.cell? ⟨g2, 1, none⟩ = some b2 ∧ W.cell? ⟨g2, 2, none⟩ = some c2 ∧ W.cell? ⟨g2, 3, none⟩ = some d2 ∧ W.cell? ⟨g2, 4, none⟩ = some e2 ∧ W.cell? ⟨g2, 5, none⟩ = some f2 ∧ Kb w L M W :=
  ⟨h.cell hm rfl, h.cell hm rfl, h.cell hm rfl, h.cell hm rfl, h.cell hm rfl, h.cell hm rfl, h.cell hm' rfl, h.cell hm' rfl, h.cell hm' rfl, h.cell hm' rfl, h.cell hm' rfl, h.cell hm' rfl, h.cell hm2 rfl, h.cell hm2 rfl, h.cell hm2 rfl, h.cell hm2 rfl, h.cell hm2 rfl, h.cell hm2 rfl, h⟩
theorem Kb.of18 {P1 P2 P3 P4 P5 P6 Q1 Q2 Q3 Q4 Q5 Q6 R1 R2 R3 R4 R5 R6 : Prop} (h : P1 ∧ P2 ∧ P3 ∧ P4 ∧ P5 ∧ P6 ∧ Q1 ∧ Q2 ∧ Q3 ∧ Q4 ∧ Q5 ∧ Q6 ∧ R1 ∧ R2 ∧ R3 ∧ R4 ∧ R5 ∧ R6 ∧ Kb w L M W) : Kb w L M W := h.2.2.2.2.2.2.2.2.2.2.2.2.2.2.2.2.2.2
theorem Kb.lt (h : Kb w L M W) {g : Nat} {t : TypeId} {cs : List Value} (hm : (g, t, cs) ∈ L) : g < W.heap.size := (h.box _ hm).lt
theorem Kb.check_ {x : Int} (h : Kb w L M W) (hm : (s, A, n, B, k, m) ∈ M) (z : Small m) (hx : checkM m = x) (ca cb : Nat) :
    Calls Tryz.prog 44 #[.agg #[.string s, .int .i64 m.kind, .slice A n ca, .int .i64 m.rate, .slice B k cb, .int .i64 m.time]] W fun e w' => e = .returned (.int .i64 x) ∧ Kb w L M w' := by
  have := mcheck_calls (ca := ca) (cb := cb) (h.m hm) z
  rw [hx] at this
  exact this.mono fun e w' k => ⟨k.1, h.next k.2⟩
theorem Kb.rcheck_ {x : Int} (h : Kb w L M W) (hm : (s, A, n, B, k, m) ∈ M) (z : Small m) (hx : checkM m = x) (ca cb : Nat) :
    Calls Tryz.prog 27 #[.agg #[.string s, .int .i64 m.kind, .slice A n ca, .int .i64 m.rate, .slice B k cb, .int .i64 m.time]] W fun e w' => e = .returned (.int .i64 x) ∧ Kb w L M w' := by
  have := rmcheck_calls (ca := ca) (cb := cb) (h.m hm) z
  rw [hx] at this
  exact this.mono fun e w' k => ⟨k.1, h.next k.2⟩
theorem Kb.is_ {x : Bool} (h : Kb w L M W) (hm : (s, A, n, B, k, m) ∈ M) (z : Small m) (hx : isM m = x) (ca cb : Nat) :
    Calls Tryz.prog 23 #[.agg #[.string s, .int .i64 m.kind, .slice A n ca, .int .i64 m.rate, .slice B k cb, .int .i64 m.time]] W fun e w' => e = .returned (.bool x) ∧ Kb w L M w' := by
  have := mis_calls (ca := ca) (cb := cb) (h.m hm) z
  rw [hx] at this
  exact this.mono fun e w' k => ⟨k.1, h.next k.2⟩
theorem Kb.equal_ {x : Bool} (h : Kb w L M W) (hm : (s, A, n, B, k, m) ∈ M) (hm' : (s', A', n', B', k', m') ∈ M) (z : Small m) (hx : decide (m = m') = x) (ca cb ca' cb' : Nat) :
    Calls Tryz.prog 22 #[.agg #[.string s, .int .i64 m.kind, .slice A n ca, .int .i64 m.rate, .slice B k cb, .int .i64 m.time], .agg #[.string s', .int .i64 m'.kind, .slice A' n' ca', .int .i64 m'.rate, .slice B' k' cb', .int .i64 m'.time]] W fun e w' => e = .returned (.bool x) ∧ Kb w L M w' := by
  have := equal_calls (ca := ca) (cb := cb) (ca' := ca') (cb' := cb') (h.m hm) (h.m hm') z
  rw [hx] at this
  exact this.mono fun e w' k => ⟨k.1, h.next k.2⟩
theorem Kb.requal_ {x : Bool} (h : Kb w L M W) (hm : (s, A, n, B, k, m) ∈ M) (hm' : (s', A', n', B', k', m') ∈ M) (z : Small m) (hx : decide (m = m') = x) (ca cb ca' cb' : Nat) :
    Calls Tryz.prog 16 #[.agg #[.string s, .int .i64 m.kind, .slice A n ca, .int .i64 m.rate, .slice B k cb, .int .i64 m.time], .agg #[.string s', .int .i64 m'.kind, .slice A' n' ca', .int .i64 m'.rate, .slice B' k' cb', .int .i64 m'.time]] W fun e w' => e = .returned (.bool x) ∧ Kb w L M w' := by
  have := requal_calls (ca := ca) (cb := cb) (ca' := ca') (cb' := cb') (h.m hm) (h.m hm') z
  rw [hx] at this
  exact this.mono fun e w' k => ⟨k.1, h.next k.2⟩
theorem Kb.tagis_ {x : Bool} (h : Kb w L M W) (hm : (s, A, n, B, k, m) ∈ M) (z : Small m) (hx : decide (m.tags = norm m.tags) = x) (cb : Nat) :
    Calls Tryz.prog 47 #[.slice B k cb] W fun e w' => e = .returned (.bool x) ∧ Kb w L M w' := by
  have := is_calls6 (cap := cb) (h.m hm).tlen (h.m hm).tags (by have := z.tags; have := (h.m hm).tlen; omega)
  rw [hx] at this
  exact this.mono fun e w' k => ⟨k.1, h.next k.2⟩
/-- What a call of Normal leaves. -/
def NKb (w : World) (L : List (Nat × TypeId × List Value)) (M : List (ByteArray × Option Addr × Nat × Option Addr × Nat × Mt)) (m' : Mt) (x : Int) (e : Ending) (w' : World) : Prop :=
  ∃ s1 A1 n1 ca1 B1 k1 cb1, e = .returned (.tuple #[.agg #[.string s1, .int .i64 m'.kind, .slice A1 n1 ca1, .int .i64 m'.rate, .slice B1 k1 cb1, .int .i64 m'.time], .int .i64 x]) ∧ Kb w L ((s1, A1, n1, B1, k1, m') :: M) w'
end
theorem isM_no {m : Mt} (h : codeM m ≠ 0) : isM m = false := by
  unfold isM
  rw [decide_eq_false fun k => h (check_code k)]; rfl
theorem check_no {m : Mt} (h : codeM m ≠ 0) : checkM m ≠ 0 := fun k => h (check_code k)
theorem nM_nM {m : Mt} (h : codeM m = 0) : nM (nM m) = nM m := by rw [nM_ok h, nM_ok (formM_code h), formM_formM]
theorem codeM_nM {m : Mt} (h : codeM m = 0) : codeM (nM m) = 0 := by rw [nM_ok h]; exact formM_code h
theorem checkM_nM {m : Mt} (h : codeM m = 0) : checkM (nM m) = 0 := by rw [nM_ok h]; exact formM_check h
theorem isM_nM {m : Mt} (h : codeM m = 0) : isM (nM m) = true := by rw [nM_ok h]; exact isM_form h
theorem sameM_nM {m : Mt} (h : codeM m = 0) : sameM m (nM m) = true := by rw [nM_ok h]; exact sameM_form h
theorem isM_of {m : Mt} (h : checkM m = 0) : isM m = decide (m = nM m) := by rw [isM_iff, decide_eq_true h, Bool.true_and, nM_ok (check_code h)]
theorem tags_nM {m : Mt} (h : codeM m = 0) : (nM m).tags = norm (nM m).tags := by rw [nM_ok h]; exact (norm_norm m.tags).symm

/-- A law's first state: the metric lies, and is known. -/
theorem Kb.enter {w : World} {s : ByteArray} {A B : Option Addr} {n k ca cb : Nat} {m : Mt} (h : MIs w s A n B k m) :
    Kb w [(w.heap.size, 25, [.string s, .int .i64 m.kind, .slice A n ca, .int .i64 m.rate, .slice B k cb, .int .i64 m.time])] [(s, A, n, B, k, m)] (w.alloc (.cells #[.string s, .int .i64 m.kind, .slice A n ca, .int .i64 m.rate, .slice B k cb, .int .i64 m.time] 25)) :=
  ((Kb.start w).mAdd h).push _ _
/-- The world behind a metric that was laid in a block of its own. -/
theorem Kb.lay {w W : World} {L : List (Nat × TypeId × List Value)} {M : List (ByteArray × Option Addr × Nat × Option Addr × Nat × Mt)} (h : Kb w L M W) (a b c d e f : Value) :
    Kb w ((W.heap.size, 25, [a, b, c, d, e, f]) :: L) M (W.alloc (.cells #[a, b, c, d, e, f] 25)) := h.push _ _
/-! The same in a region that draws its order: in whatever world behind. -/
section
open Go.Sort
variable {w W : World} {L : List (Nat × TypeId × List Value)} {M : List (ByteArray × Option Addr × Nat × Option Addr × Nat × Mt)}
variable {s : ByteArray} {A B : Option Addr} {n k : Nat} {m : Mt} {s' : ByteArray} {A' B' : Option Addr} {n' k' : Nat} {m' : Mt}
/-- A call that answers v, in every world behind W. -/
def Qt (W : World) (f : FuncId) (args : Array Value) (v : Value) : Prop := ∀ d os, Calls Tryz.prog f args (grow (redrawn W d) os) fun e w'' => e = .returned v ∧ ∃ p : Regrown, w'' = grow (redrawn W p.d) p.os
theorem Kb.quiet {f : FuncId} {args : Array Value} {v : Value} (h : Kb w L M W) (c : ∀ W', Kb w L M W' → Calls Tryz.prog f args W' fun e w' => e = .returned v ∧ Below W'.heap.size W' w') : Qt W f args v :=
  fun d os => Calls.regrown_of (c _ (h.next (below_regrown W d os)))
theorem Kb.checkq {x : Int} (h : Kb w L M W) (hm : (s, A, n, B, k, m) ∈ M) (z : Small m) (hx : checkM m = x) (ca cb : Nat) :
    Qt W 44 #[.agg #[.string s, .int .i64 m.kind, .slice A n ca, .int .i64 m.rate, .slice B k cb, .int .i64 m.time]] (.int .i64 x) := h.quiet fun W' h' => by
  have := mcheck_calls (ca := ca) (cb := cb) (h'.m hm) z
  rw [hx] at this; exact this
theorem Kb.isq {x : Bool} (h : Kb w L M W) (hm : (s, A, n, B, k, m) ∈ M) (z : Small m) (hx : isM m = x) (ca cb : Nat) :
    Qt W 23 #[.agg #[.string s, .int .i64 m.kind, .slice A n ca, .int .i64 m.rate, .slice B k cb, .int .i64 m.time]] (.bool x) := h.quiet fun W' h' => by
  have := mis_calls (ca := ca) (cb := cb) (h'.m hm) z
  rw [hx] at this; exact this
theorem Kb.tagisq {x : Bool} (h : Kb w L M W) (hm : (s, A, n, B, k, m) ∈ M) (z : Small m) (hx : decide (m.tags = norm m.tags) = x) (cb : Nat) :
    Qt W 47 #[.slice B k cb] (.bool x) := h.quiet fun W' h' => by
  have := is_calls6 (cap := cb) (h'.m hm).tlen (h'.m hm).tags (by have := z.tags; have := (h'.m hm).tlen; omega)
  rw [hx] at this; exact this
theorem Kb.equalq {x : Bool} (h : Kb w L M W) (hm : (s, A, n, B, k, m) ∈ M) (hm' : (s', A', n', B', k', m') ∈ M) (z : Small m) (hx : decide (m = m') = x) (ca cb ca' cb' : Nat) :
    Qt W 22 #[.agg #[.string s, .int .i64 m.kind, .slice A n ca, .int .i64 m.rate, .slice B k cb, .int .i64 m.time], .agg #[.string s', .int .i64 m'.kind, .slice A' n' ca', .int .i64 m'.rate, .slice B' k' cb', .int .i64 m'.time]] (.bool x) := h.quiet fun W' h' => by
  have := equal_calls (ca := ca) (cb := cb) (ca' := ca') (cb' := cb') (h'.m hm) (h'.m hm') z
  rw [hx] at this; exact this
theorem Kb.requalq {x : Bool} (h : Kb w L M W) (hm : (s, A, n, B, k, m) ∈ M) (hm' : (s', A', n', B', k', m') ∈ M) (z : Small m) (hx : decide (m = m') = x) (ca cb ca' cb' : Nat) :
    Qt W 16 #[.agg #[.string s, .int .i64 m.kind, .slice A n ca, .int .i64 m.rate, .slice B k cb, .int .i64 m.time], .agg #[.string s', .int .i64 m'.kind, .slice A' n' ca', .int .i64 m'.rate, .slice B' k' cb', .int .i64 m'.time]] (.bool x) := h.quiet fun W' h' => by
  have := requal_calls (ca := ca) (cb := cb) (ca' := ca') (cb' := cb') (h'.m hm) (h'.m hm') z
  rw [hx] at this; exact this
/-- Six cells, in every world behind. -/
theorem Kb.sixq (h : Kb w L M W) {g : Nat} {t : TypeId} {a b c d e f : Value} (hm : (g, t, [a, b, c, d, e, f]) ∈ L) :
    (∀ x os, (grow (redrawn W x) os).cell? ⟨g, 0, none⟩ = some a) ∧ (∀ x os, (grow (redrawn W x) os).cell? ⟨g, 1, none⟩ = some b) ∧ (∀ x os, (grow (redrawn W x) os).cell? ⟨g, 2, none⟩ = some c) ∧ (∀ x os, (grow (redrawn W x) os).cell? ⟨g, 3, none⟩ = some d) ∧ (∀ x os, (grow (redrawn W x) os).cell? ⟨g, 4, none⟩ = some e) ∧ (∀ x os, (grow (redrawn W x) os).cell? ⟨g, 5, none⟩ = some f) :=
  ⟨cell_regrown (h.cell hm rfl), cell_regrown (h.cell hm rfl), cell_regrown (h.cell hm rfl), cell_regrown (h.cell hm rfl), cell_regrown (h.cell hm rfl), cell_regrown (h.cell hm rfl)⟩
end
end Go.Proofs.YtdliookdmgilgaaGreatDoor

/-
  A metric and a Fault are returned. No statement of the seat is proved here.
-/
namespace Go.Proofs.YtdliookdmgilgaaGreatDoor
open Go.RowKit
open Dc (D D0)

theorem results_cell_cell {fn : Func} {p u : Tmp} {tp tu : TypeId} (h : fn.results = #[.cell p tp, .cell u tu]) (tmps : Array Value) (w : World) :
    (results fn tmps).run Tryz.prog w = ((asAddr (tmps.getD p undef)).run Tryz.prog w).andThen fun a w1 => ((loadVar tp a).run Tryz.prog w1).andThen fun v w2 => ((asAddr (tmps.getD u undef)).run Tryz.prog w2).andThen fun b w3 => ((loadVar tu b).run Tryz.prog w3).andThen fun x w4 => .ok (.tuple #[v, x]) w4 := by
  simp only [results, h]
  simp [Sem.run_bind, Result.andThen]
/-- A metric and a Fault are returned. -/
theorem ret_mf {fn : Func} {p u : Tmp} (hres : fn.results = #[.cell p 25, .cell u 34]) {R : Ending → World → Prop} {A : Act} {w : World} {g g' : Nat} {a b c d e f x y : Value}
    (hp : A.tmps.getD p undef = .pointer (some ⟨g, 0, none⟩)) (hu : A.tmps.getD u undef = .pointer (some ⟨g', 0, none⟩)) (hd : A.defers = [])
    (hb : Box w g 25 [a, b, c, d, e, f]) (hf : Box w g' 34 [x, y]) (hR : R (.returned (.tuple #[.agg #[a, b, c, d, e, f], .agg #[x, y]])) w) : bodyPost Tryz.prog fn R .ret A w := by
  refine bodyPost_ret ?_ hd hR
  rw [results_cell_cell hres, hp, addr_is]
  simp only [Result.andThen]
  rw [load_met hb]
  simp only []
  rw [hu, addr_is]
  simp only []
  rw [load_fault hf]
/-- The metric and the Fault, as they are stored into the two blocks of what is returned. -/
theorem putMF_is {w : World} {g g' : Nat} {s s' : ByteArray} {kd kd' rt rt' tm tm' : Int} {A0 B0 A1 B1 : Option Addr} {n0 ca0 k0 cb0 n1 ca1 k1 cb1 : Nat} {x0 y0 : Value} (hne : g ≠ g') (hb : Box w g 25 (mC s kd A0 n0 ca0 rt B0 k0 cb0 tm)) (hf : Box w g' 34 [x0, y0]) (x y : Value) :
    Box (((putM w g s' kd' A1 n1 ca1 rt' B1 k1 cb1 tm').setCell ⟨g', 0, none⟩ x).setCell ⟨g', 1, none⟩ y) g 25 (mC s' kd' A1 n1 ca1 rt' B1 k1 cb1 tm') ∧
      Box (((putM w g s' kd' A1 n1 ca1 rt' B1 k1 cb1 tm').setCell ⟨g', 0, none⟩ x).setCell ⟨g', 1, none⟩ y) g' 34 [x, y] := by
  have hm := putM_is (s' := s') (kd' := kd') (rt' := rt') (tm' := tm') (A1 := A1) (B1 := B1) (n1 := n1) (ca1 := ca1) (k1 := k1) (cb1 := cb1) hb
  have hf2 : Box (putM w g s' kd' A1 n1 ca1 rt' B1 k1 cb1 tm') g' 34 [x0, y0] := by
    unfold putM
    exact (((((hf.far (q := ⟨g, 0, none⟩) hne.symm _).far (q := ⟨g, 1, none⟩) hne.symm _).far (q := ⟨g, 2, none⟩) hne.symm _).far (q := ⟨g, 3, none⟩) hne.symm _).far (q := ⟨g, 4, none⟩) hne.symm _).far (q := ⟨g, 5, none⟩) hne.symm _
  exact ⟨(hm.far (q := ⟨g', 0, none⟩) hne _).far (q := ⟨g', 1, none⟩) hne _, (hf2.set 0 x).set 1 y⟩
end Go.Proofs.YtdliookdmgilgaaGreatDoor

/-
  What a format can say, as plain data. Nothing of the program.
-/
namespace Go.Proofs.YtdliookdmgilgaaGreatDoor
open Dc (D D0)

def known (f : Int) : Bool := decide (1 ≤ f ∧ f ≤ 4)
/-- One value, and no tags. -/
def bareN (n k : Nat) : Bool := decide (n = 1) && decide (k = 0)
def says1 (n k : Nat) (kd tm : Int) (neg : Bool) : Bool := bareN n k && decide (tm = 0) && decide (kd ≠ 5) && !(decide (kd = 2) && neg)
def says3 (n k : Nat) (kd tm : Int) : Bool := bareN n k && decide (tm ≠ 0) && decide (kd = 2)
/-- Whether a format can say a metric that is right. -/
def saysM (m : Mt) (f : Int) : Bool :=
  if f = 1 then says1 m.vals.length m.tags.length m.kind m.time (m.vals.headD D0).neg
  else if f = 3 then says3 m.vals.length m.tags.length m.kind m.time else true
/-- Why a format cannot say a metric. -/
def metricE (m : Mt) (f : Int) : Int := if known f = false then 29 else if checkM m ≠ 0 then checkM m else if saysM m f = false then 26 else 0
end Go.Proofs.YtdliookdmgilgaaGreatDoor
