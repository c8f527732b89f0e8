/-
  Layer 7: what the laws call, over what is kept: each call with its answer named. No statement of the seat is proved here.
-/
import Derived.Test.YteffankkelbhiaaMA0
import Derived.Test.YteffankkelbhiaaMRef3
import Derived.Test.YteffankkelbhiaaMClone
import Derived.Lib.QuietBelow
namespace Go.Proofs.Yteffankkelbhiaa
open Go.RowKit
open Dc (D D0)

section
variable {w W : World} {L : List (Nat × TypeId × List Value)} {M : List (ByteArray × Option Addr × Nat × Option Addr × Nat × Mt)}
variable {s : ByteArray} {A B : Option Addr} {n k : Nat} {m : Mt} {s' : ByteArray} {A' B' : Option Addr} {n' k' : Nat} {m' : Mt}
theorem Kb.six (h : Kb w L M W) {g : Nat} {t : TypeId} {a b c d e f : Value} (hm : (g, t, [a, b, c, d, e, f]) ∈ L) :
    W.cell? ⟨g, 0, none⟩ = some a ∧ W.cell? ⟨g, 1, none⟩ = some b ∧ W.cell? ⟨g, 2, none⟩ = some c ∧ W.cell? ⟨g, 3, none⟩ = some d ∧ W.cell? ⟨g, 4, none⟩ = some e ∧ W.cell? ⟨g, 5, none⟩ = some f :=
  ⟨h.cell hm rfl, h.cell hm rfl, h.cell hm rfl, h.cell hm rfl, h.cell hm rfl, h.cell hm rfl⟩
theorem Kb.twelve (h : Kb w L M W) {g g' : Nat} {t t' : TypeId} {a b c d e f a' b' c' d' e' f' : Value} (hm : (g, t, [a, b, c, d, e, f]) ∈ L) (hm' : (g', t', [a', b', c', d', e', f']) ∈ L) :
    W.cell? ⟨g, 0, none⟩ = some a ∧ W.cell? ⟨g, 1, none⟩ = some b ∧ W.cell? ⟨g, 2, none⟩ = some c ∧ W.cell? ⟨g, 3, none⟩ = some d ∧ W.cell? ⟨g, 4, none⟩ = some e ∧ W.cell? ⟨g, 5, none⟩ = some f ∧
      W.cell? ⟨g', 0, none⟩ = some a' ∧ W.cell? ⟨g', 1, none⟩ = some b' ∧ W.cell? ⟨g', 2, none⟩ = some c' ∧ W.cell? ⟨g', 3, none⟩ = some d' ∧ W.cell? ⟨g', 4, none⟩ = some e' ∧ W.cell? ⟨g', 5, none⟩ = some f' ∧ Kb w L M W :=
  ⟨h.cell hm rfl, h.cell hm rfl, h.cell hm rfl, h.cell hm rfl, h.cell hm rfl, h.cell hm rfl, h.cell hm' rfl, h.cell hm' rfl, h.cell hm' rfl, h.cell hm' rfl, h.cell hm' rfl, h.cell hm' rfl, h⟩
theorem Kb.of12 {P1 P2 P3 P4 P5 P6 Q1 Q2 Q3 Q4 Q5 Q6 : Prop} (h : P1 ∧ P2 ∧ P3 ∧ P4 ∧ P5 ∧ P6 ∧ Q1 ∧ Q2 ∧ Q3 ∧ Q4 ∧ Q5 ∧ Q6 ∧ Kb w L M W) : Kb w L M W := h.2.2.2.2.2.2.2.2.2.2.2.2
theorem Kb.eighteen (h : Kb w L M W) {g g' g2 : Nat} {t t' t2 : TypeId} {a b c d e f a' b' c' d' e' f' a2 b2 c2 d2 e2 f2 : Value} (hm : (g, t, [a, b, c, d, e, f]) ∈ L) (hm' : (g', t', [a', b', c', d', e', f']) ∈ L) (hm2 : (g2, t2, [a2, b2, c2, d2, e2, f2]) ∈ L) :
    W.cell? ⟨g, 0, none⟩ = some a ∧ W.cell? ⟨g, 1, none⟩ = some b ∧ W.cell? ⟨g, 2, none⟩ = some c ∧ W.cell? ⟨g, 3, none⟩ = some d ∧ W.cell? ⟨g, 4, none⟩ = some e ∧ W.cell? ⟨g, 5, none⟩ = some f ∧
      W.cell? ⟨g', 0, none⟩ = some a' ∧ W.cell? ⟨g', 1, none⟩ = some b' ∧ W.cell? ⟨g', 2, none⟩ = some c' ∧ W.cell? ⟨g', 3, none⟩ = some d' ∧ W.cell? ⟨g', 4, none⟩ = some e' ∧ W.cell? ⟨g', 5, none⟩ = some f' ∧
      W.cell? ⟨g2, 0, none⟩ = some a2 ∧ W.cell? ⟨g2, 1, none⟩ = some b2 ∧ W.cell? ⟨g2, 2, none⟩ = some c2 ∧ W.cell? ⟨g2, 3, none⟩ = some d2 ∧ W.cell? ⟨g2, 4, none⟩ = some e2 ∧ W.cell? ⟨g2, 5, none⟩ = some f2 ∧ Kb w L M W :=
  ⟨h.cell hm rfl, h.cell hm rfl, h.cell hm rfl, h.cell hm rfl, h.cell hm rfl, h.cell hm rfl, h.cell hm' rfl, h.cell hm' rfl, h.cell hm' rfl, h.cell hm' rfl, h.cell hm' rfl, h.cell hm' rfl, h.cell hm2 rfl, h.cell hm2 rfl, h.cell hm2 rfl, h.cell hm2 rfl, h.cell hm2 rfl, h.cell hm2 rfl, h⟩
theorem Kb.of18 {P1 P2 P3 P4 P5 P6 Q1 Q2 Q3 Q4 Q5 Q6 R1 R2 R3 R4 R5 R6 : Prop} (h : P1 ∧ P2 ∧ P3 ∧ P4 ∧ P5 ∧ P6 ∧ Q1 ∧ Q2 ∧ Q3 ∧ Q4 ∧ Q5 ∧ Q6 ∧ R1 ∧ R2 ∧ R3 ∧ R4 ∧ R5 ∧ R6 ∧ Kb w L M W) : Kb w L M W := h.2.2.2.2.2.2.2.2.2.2.2.2.2.2.2.2.2.2
theorem Kb.lt (h : Kb w L M W) {g : Nat} {t : TypeId} {cs : List Value} (hm : (g, t, cs) ∈ L) : g < W.heap.size := (h.box _ hm).lt
theorem Kb.few_ {x : Bool} (h : Kb w L M W) (hm : (s, A, n, B, k, m) ∈ M) (hx : fewM m = x) (ca cb : Nat) :
    Calls Try.prog 8 #[.agg #[.string s, .int .i64 m.kind, .slice A n ca, .int .i64 m.rate, .slice B k cb, .int .i64 m.time]] W fun e w' => e = .returned (.bool x) ∧ Kb w L M w' := by
  have := fewm_calls (ca := ca) (cb := cb) (h.m hm)
  rw [hx] at this
  exact this.mono fun e w' k => ⟨k.1, h.next k.2⟩
theorem Kb.check_ {x : Int} (h : Kb w L M W) (hm : (s, A, n, B, k, m) ∈ M) (z : Small m) (hx : checkM m = x) (ca cb : Nat) :
    Calls Try.prog 21 #[.agg #[.string s, .int .i64 m.kind, .slice A n ca, .int .i64 m.rate, .slice B k cb, .int .i64 m.time]] W fun e w' => e = .returned (.int .i64 x) ∧ Kb w L M w' := by
  have := mcheck_calls (ca := ca) (cb := cb) (h.m hm) z
  rw [hx] at this
  exact this.mono fun e w' k => ⟨k.1, h.next k.2⟩
theorem Kb.rcheck_ {x : Int} (h : Kb w L M W) (hm : (s, A, n, B, k, m) ∈ M) (z : Small m) (hx : checkM m = x) (ca cb : Nat) :
    Calls Try.prog 22 #[.agg #[.string s, .int .i64 m.kind, .slice A n ca, .int .i64 m.rate, .slice B k cb, .int .i64 m.time]] W fun e w' => e = .returned (.int .i64 x) ∧ Kb w L M w' := by
  have := rmcheck_calls (ca := ca) (cb := cb) (h.m hm) z
  rw [hx] at this
  exact this.mono fun e w' k => ⟨k.1, h.next k.2⟩
theorem Kb.equal_ {x : Bool} (h : Kb w L M W) (hm : (s, A, n, B, k, m) ∈ M) (hm' : (s', A', n', B', k', m') ∈ M) (z : Small m) (hx : decide (m = m') = x) (ca cb ca' cb' : Nat) :
    Calls Try.prog 20 #[.agg #[.string s, .int .i64 m.kind, .slice A n ca, .int .i64 m.rate, .slice B k cb, .int .i64 m.time], .agg #[.string s', .int .i64 m'.kind, .slice A' n' ca', .int .i64 m'.rate, .slice B' k' cb', .int .i64 m'.time]] W fun e w' => e = .returned (.bool x) ∧ Kb w L M w' := by
  have := equal_calls (ca := ca) (cb := cb) (ca' := ca') (cb' := cb') (h.m hm) (h.m hm') z
  rw [hx] at this
  exact this.mono fun e w' k => ⟨k.1, h.next k.2⟩
theorem Kb.requal_ {x : Bool} (h : Kb w L M W) (hm : (s, A, n, B, k, m) ∈ M) (hm' : (s', A', n', B', k', m') ∈ M) (z : Small m) (hx : decide (m = m') = x) (ca cb ca' cb' : Nat) :
    Calls Try.prog 29 #[.agg #[.string s, .int .i64 m.kind, .slice A n ca, .int .i64 m.rate, .slice B k cb, .int .i64 m.time], .agg #[.string s', .int .i64 m'.kind, .slice A' n' ca', .int .i64 m'.rate, .slice B' k' cb', .int .i64 m'.time]] W fun e w' => e = .returned (.bool x) ∧ Kb w L M w' := by
  have := requal_calls (ca := ca) (cb := cb) (ca' := ca') (cb' := cb') (h.m hm) (h.m hm') z
  rw [hx] at this
  exact this.mono fun e w' k => ⟨k.1, h.next k.2⟩
/-- What a call of Normal leaves. -/
def NKb (w : World) (L : List (Nat × TypeId × List Value)) (M : List (ByteArray × Option Addr × Nat × Option Addr × Nat × Mt)) (m' : Mt) (x : Int) (e : Ending) (w' : World) : Prop :=
  ∃ s1 A1 n1 ca1 B1 k1 cb1, e = .returned (.tuple #[.agg #[.string s1, .int .i64 m'.kind, .slice A1 n1 ca1, .int .i64 m'.rate, .slice B1 k1 cb1, .int .i64 m'.time], .int .i64 x]) ∧ Kb w L ((s1, A1, n1, B1, k1, m') :: M) w'
end
theorem isM_no {m : Mt} (h : codeM m ≠ 0) : isM m = false := by
  unfold isM
  rw [decide_eq_false fun k => h (check_code k)]; rfl
theorem check_no {m : Mt} (h : codeM m ≠ 0) : checkM m ≠ 0 := fun k => h (check_code k)
theorem nM_nM {m : Mt} (h : codeM m = 0) : nM (nM m) = nM m := by rw [nM_ok h, nM_ok (formM_code h), formM_formM]
theorem codeM_nM {m : Mt} (h : codeM m = 0) : codeM (nM m) = 0 := by rw [nM_ok h]; exact formM_code h
theorem checkM_nM {m : Mt} (h : codeM m = 0) : checkM (nM m) = 0 := by rw [nM_ok h]; exact formM_check h
theorem isM_nM {m : Mt} (h : codeM m = 0) : isM (nM m) = true := by rw [nM_ok h]; exact isM_form h
theorem sameM_nM {m : Mt} (h : codeM m = 0) : sameM m (nM m) = true := by rw [nM_ok h]; exact sameM_form h
theorem isM_of {m : Mt} (h : checkM m = 0) : isM m = decide (m = nM m) := by rw [isM_iff, decide_eq_true h, Bool.true_and, nM_ok (check_code h)]
theorem tags_nM {m : Mt} (h : codeM m = 0) : (nM m).tags = norm (nM m).tags := by rw [nM_ok h]; exact (norm_norm m.tags).symm

/-- A law's first state: the metric lies, and is known. -/
theorem Kb.enter {w : World} {s : ByteArray} {A B : Option Addr} {n k ca cb : Nat} {m : Mt} (h : MIs w s A n B k m) :
    Kb w [(w.heap.size, 25, [.string s, .int .i64 m.kind, .slice A n ca, .int .i64 m.rate, .slice B k cb, .int .i64 m.time])] [(s, A, n, B, k, m)] (w.alloc (.cells #[.string s, .int .i64 m.kind, .slice A n ca, .int .i64 m.rate, .slice B k cb, .int .i64 m.time] 25)) :=
  ((Kb.start w).mAdd h).push _ _
/-- The world behind a metric that was laid in a block of its own. -/
theorem Kb.lay {w W : World} {L : List (Nat × TypeId × List Value)} {M : List (ByteArray × Option Addr × Nat × Option Addr × Nat × Mt)} (h : Kb w L M W) (a b c d e f : Value) :
    Kb w ((W.heap.size, 25, [a, b, c, d, e, f]) :: L) M (W.alloc (.cells #[a, b, c, d, e, f] 25)) := h.push _ _
/-! The same in a region that draws its order: in whatever world behind. -/
section
open Go.Sort
variable {w W : World} {L : List (Nat × TypeId × List Value)} {M : List (ByteArray × Option Addr × Nat × Option Addr × Nat × Mt)}
variable {s : ByteArray} {A B : Option Addr} {n k : Nat} {m : Mt} {s' : ByteArray} {A' B' : Option Addr} {n' k' : Nat} {m' : Mt}
/-- A call that answers v, in every world behind W. -/
def Qt (W : World) (f : FuncId) (args : Array Value) (v : Value) : Prop := ∀ d os, Calls Try.prog f args (grow (redrawn W d) os) fun e w'' => e = .returned v ∧ ∃ p : Regrown, w'' = grow (redrawn W p.d) p.os
theorem Kb.quiet {f : FuncId} {args : Array Value} {v : Value} (h : Kb w L M W) (c : ∀ W', Kb w L M W' → Calls Try.prog f args W' fun e w' => e = .returned v ∧ Below W'.heap.size W' w') : Qt W f args v :=
  fun d os => Calls.regrown_of (c _ (h.next (below_regrown W d os)))
theorem Kb.checkq {x : Int} (h : Kb w L M W) (hm : (s, A, n, B, k, m) ∈ M) (z : Small m) (hx : checkM m = x) (ca cb : Nat) :
    Qt W 21 #[.agg #[.string s, .int .i64 m.kind, .slice A n ca, .int .i64 m.rate, .slice B k cb, .int .i64 m.time]] (.int .i64 x) := h.quiet fun W' h' => by
  have := mcheck_calls (ca := ca) (cb := cb) (h'.m hm) z
  rw [hx] at this; exact this
theorem Kb.equalq {x : Bool} (h : Kb w L M W) (hm : (s, A, n, B, k, m) ∈ M) (hm' : (s', A', n', B', k', m') ∈ M) (z : Small m) (hx : decide (m = m') = x) (ca cb ca' cb' : Nat) :
    Qt W 20 #[.agg #[.string s, .int .i64 m.kind, .slice A n ca, .int .i64 m.rate, .slice B k cb, .int .i64 m.time], .agg #[.string s', .int .i64 m'.kind, .slice A' n' ca', .int .i64 m'.rate, .slice B' k' cb', .int .i64 m'.time]] (.bool x) := h.quiet fun W' h' => by
  have := equal_calls (ca := ca) (cb := cb) (ca' := ca') (cb' := cb') (h'.m hm) (h'.m hm') z
  rw [hx] at this; exact this
theorem Kb.requalq {x : Bool} (h : Kb w L M W) (hm : (s, A, n, B, k, m) ∈ M) (hm' : (s', A', n', B', k', m') ∈ M) (z : Small m) (hx : decide (m = m') = x) (ca cb ca' cb' : Nat) :
    Qt W 29 #[.agg #[.string s, .int .i64 m.kind, .slice A n ca, .int .i64 m.rate, .slice B k cb, .int .i64 m.time], .agg #[.string s', .int .i64 m'.kind, .slice A' n' ca', .int .i64 m'.rate, .slice B' k' cb', .int .i64 m'.time]] (.bool x) := h.quiet fun W' h' => by
  have := requal_calls (ca := ca) (cb := cb) (ca' := ca') (cb' := cb') (h'.m hm) (h'.m hm') z
  rw [hx] at this; exact this
/-- Six cells, in every world behind. -/
theorem Kb.sixq (h : Kb w L M W) {g : Nat} {t : TypeId} {a b c d e f : Value} (hm : (g, t, [a, b, c, d, e, f]) ∈ L) :
    (∀ x os, (grow (redrawn W x) os).cell? ⟨g, 0, none⟩ = some a) ∧ (∀ x os, (grow (redrawn W x) os).cell? ⟨g, 1, none⟩ = some b) ∧ (∀ x os, (grow (redrawn W x) os).cell? ⟨g, 2, none⟩ = some c) ∧ (∀ x os, (grow (redrawn W x) os).cell? ⟨g, 3, none⟩ = some d) ∧ (∀ x os, (grow (redrawn W x) os).cell? ⟨g, 4, none⟩ = some e) ∧ (∀ x os, (grow (redrawn W x) os).cell? ⟨g, 5, none⟩ = some f) :=
  ⟨cell_regrown (h.cell hm rfl), cell_regrown (h.cell hm rfl), cell_regrown (h.cell hm rfl), cell_regrown (h.cell hm rfl), cell_regrown (h.cell hm rfl), cell_regrown (h.cell hm rfl)⟩
end
end Go.Proofs.Yteffankkelbhiaa
