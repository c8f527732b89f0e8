/-
  TCheck, TGet. No statement of the seat is proved here.
-/
import Derived.Test.YtdliookdmgilgaaGreatDoorTLess
import Derived.Test.YtdliookdmgilgaaGreatDoorTText
import Derived.Test.YtdliookdmgilgaaGreatDoorGrKRefBad
import Derived.Test.YtdliookdmgilgaaGreatDoorGrMem
/-
  Package tag: Check and textOf, and the document's. No statement of the seat is proved here.
-/
namespace Go.Proofs.YtdliookdmgilgaaGreatDoor
open Go.RowKit

theorem ctext_says {c lo hi : Int} {s : ByteArray} {l : List UInt8} {a b : Int} (h : Str s l) (hz : (s.size : Int) ≤ 100000) (ha : faultOf c l lo hi = (a, b)) (w : World) : Calls Tryz.prog 33 #[.int .i64 c, .string s, .int .i64 lo, .int .i64 hi] w fun e w' => e = .returned (.agg #[.int .i64 a, .int .i64 b]) ∧ Below w.heap.size w w' := by
  have := text_calls c s l h hz lo hi w
  rw [ha] at this
  exact this

section
variable {x y u v : Int}
theorem feq_in (w : World) : (Op.equalIn 10000 34 (.agg #[.int .i64 x, .int .i64 y]) (.agg #[.int .i64 u, .int .i64 v])).run Tryz.prog w = .ok (decide ((x, y) = (u, v))) w := by
  have u3 := Tryz.underlying3
  have a3 := Tryz.isAgg3
  have z3 := Tryz.sizeOf3
  have u4 := Tryz.underlying28
  have a4 := Tryz.isAgg28
  have z4 := Tryz.sizeOf28
  have hS : Tryz.prog.underlying 34 = some (.struct (Tryz.prog.fieldsOf 34)) := by kernel_rfl
  have hp : Tryz.prog.stoodInHeld 34 = false := by kernel_rfl
  rw [show (10000 : Nat) = 9999 + 1 from rfl, run_equalIn_agg w 9999 34 _ _ hS hp]
  simp only [Program.fieldsOf, Tryz.underlying34]
  go_simp
  by_cases h1 : x = u <;> by_cases h2 : y = v <;> simp [h1, h2]
theorem feq_run {q : Bool} (hq : decide ((x, y) = (u, v)) = q) (w : World) : (binOp .eql 34 (.agg #[.int .i64 x, .int .i64 y]) (.agg #[.int .i64 u, .int .i64 v])).run Tryz.prog w = .ok (.bool q) w := by
  rw [run_eql_struct, feq_in, hq]; rfl
theorem fne_run {q : Bool} (hq : decide ((x, y) = (u, v)) = q) (w : World) : (binOp .neq 34 (.agg #[.int .i64 x, .int .i64 y]) (.agg #[.int .i64 u, .int .i64 v])).run Tryz.prog w = .ok (.bool (!q)) w := by
  rw [run_neq_struct, feq_in, hq]; rfl
theorem fguard (op : BinOp) (p q : Operand) (xs ys : Array Value) (w : World) : (eqGuard op 34 p q (.agg xs) (.agg ys)).run Tryz.prog w = .ok () w := run_eqGuard_agg w op _ p q xs ys (by kernel_rfl)
end

/-- How a tag is wrong. -/
def chkT (t : Tg) : Int := if rightT t = true then 0 else 19

/-- A tag, and a fault that is none, lie. -/
structure CAt (w : World) (s t : ByteArray) (w' : World) : Prop where
  kept : Below w.heap.size w w'
  one : Box w' w.heap.size 54 [.string s, .string t]
  two : Box w' (w.heap.size + 1) 34 [.int .i64 0, .int .i64 0]
section
variable {w w1 w2 : World} {s t : ByteArray}
theorem CAt.next (h : CAt w s t w1) (k : Below w1.heap.size w1 w2) : CAt w s t w2 := ⟨below_then h.kept k, h.one.keep k, h.two.keep k⟩
theorem CAt.start (w : World) (s t : ByteArray) : CAt w s t ((w.alloc (.cells #[.string s, .string t] 54)).alloc (.cells #[.int .i64 0, .int .i64 0] 34)) :=
  ⟨((Below.refl _ _).alloc (Nat.le_refl _) _).alloc (by rw [size_alloc]; omega) _, (Box.new w 54 [_, _]).alloc _, by have := Box.new (w.alloc (.cells #[.string s, .string t] 54)) 34 [.int .i64 0, .int .i64 0]; rwa [size_alloc] at this⟩
theorem CAt.cells (h : CAt w s t w1) : w1.cell? ⟨w.heap.size, 0, none⟩ = some (.string s) ∧ w1.cell? ⟨w.heap.size, 1, none⟩ = some (.string t) ∧ w1.cell? ⟨w.heap.size + 1, 0, none⟩ = some (.int .i64 0) ∧ w1.cell? ⟨w.heap.size + 1, 1, none⟩ = some (.int .i64 0) ∧ CAt w s t w1 :=
  ⟨h.one.cell 0, h.one.cell 1, h.two.cell 0, h.two.cell 1, h⟩
theorem CAt.of {P1 P2 P3 P4 : Prop} (h : P1 ∧ P2 ∧ P3 ∧ P4 ∧ CAt w s t w1) : CAt w s t w1 := h.2.2.2.2
end

theorem right_is {a : Tg} {x y u v : Int} {p q : Bool} (h1 : faultOf 2 a.1 1 64 = (x, y)) (h2 : faultOf 3 a.2 0 100 = (u, v)) (hp : decide ((x, y) = (0, 0)) = p) (hq : decide ((u, v) = (0, 0)) = q) : rightT a = (p && q) := by
  unfold rightT
  rw [h1, h2, ← hp, ← hq]
  by_cases e1 : (x, y) = ((0, 0) : Int × Int) <;> by_cases e2 : (u, v) = ((0, 0) : Int × Int) <;> simp [e1, e2]

set_option maxRecDepth 100000 in
set_option maxHeartbeats 2000000 in
theorem check_calls {s t : ByteArray} {a : Tg} (hs : Str s a.1) (ht : Str t a.2) (hz : (s.size : Int) ≤ 100000) (hz2 : (t.size : Int) ≤ 100000) (w : World) :
    Calls Tryz.prog 110 #[.agg #[.string s, .string t]] w fun e w' => e = .returned (.int .i64 (chkT a)) ∧ Below w.heap.size w w' := by
  obtain ⟨x, y, hxy⟩ : ∃ x y, faultOf 2 a.1 1 64 = (x, y) := ⟨_, _, rfl⟩
  obtain ⟨u, v, huv⟩ : ∃ u v, faultOf 3 a.2 0 100 = (u, v) := ⟨_, _, rfl⟩
  have HK := Lib.hid (fun w' (h : CAt w s t w') => (ctext_says hs hz hxy w').mono fun e w'' (k : _ ∧ _) => And.intro k.1 (h.next k.2))
  have HV := Lib.hid (fun w' (h : CAt w s t w') => (ctext_says ht hz2 huv w').mono fun e w'' (k : _ ∧ _) => And.intro k.1 (h.next k.2))
  obtain ⟨p, hp⟩ : ∃ p, decide ((x, y) = ((0, 0) : Int × Int)) = p := ⟨_, rfl⟩
  obtain ⟨q, hq⟩ : ∃ q, decide ((u, v) = ((0, 0) : Int × Int)) = q := ⟨_, rfl⟩
  have hc : chkT a = if (p && q) = true then 0 else 19 := by unfold chkT; rw [right_is hxy huv hp hq]
  have k1 := fne_run hp
  have k2 := fne_run hq
  have hg := fguard
  rw [hc]
  have HS := Lib.hid ((CAt.start w s t).next (Same.below (Same.drewN _ 1)))
  clear hxy huv hs ht hz hz2 hp hq hc
  go_enter Tryz.func110, Tryz.ntmps110
  go_wp2_with fail
  cases p
  · go_region_held3 (fun w' => w'.cell? ⟨w.heap.size, 0, none⟩ = some (.string s) ∧ w'.cell? ⟨w.heap.size, 1, none⟩ = some (.string t) ∧ w'.cell? ⟨w.heap.size + 1, 0, none⟩ = some (.int .i64 0) ∧ w'.cell? ⟨w.heap.size + 1, 1, none⟩ = some (.int .i64 0) ∧ CAt w s t w')
      (first | exact CAt.cells HS.out | exact CAt.cells HB6.out)
      (first | (go_at_call 33; refine (HK.out _ (CAt.of (by assumption))).mono ?_; rintro e w6 ⟨rfl, hb6⟩; have HB6 := Lib.hid hb6; clear hb6))
    all_goals
      go_wp2_with fail
      go_ret
      exact ⟨rfl, HB6.out.kept⟩
  · go_region_held3 (fun w' => w'.cell? ⟨w.heap.size, 0, none⟩ = some (.string s) ∧ w'.cell? ⟨w.heap.size, 1, none⟩ = some (.string t) ∧ w'.cell? ⟨w.heap.size + 1, 0, none⟩ = some (.int .i64 0) ∧ w'.cell? ⟨w.heap.size + 1, 1, none⟩ = some (.int .i64 0) ∧ CAt w s t w')
      (first | exact CAt.cells HS.out | exact CAt.cells HB6.out)
      (first | (go_at_call 33; refine (HK.out _ (CAt.of (by assumption))).mono ?_; rintro e w6 ⟨rfl, hb6⟩; have HB6 := Lib.hid hb6; clear hb6))
    all_goals
      have HS6 := Lib.hid (HB6.out.next (Same.below (Same.drewN _ 1)))
      clear HS HB6
      go_wp2_with fail
      cases q
    all_goals
      go_region_held3 (fun w' => w'.cell? ⟨w.heap.size, 0, none⟩ = some (.string s) ∧ w'.cell? ⟨w.heap.size, 1, none⟩ = some (.string t) ∧ w'.cell? ⟨w.heap.size + 1, 0, none⟩ = some (.int .i64 0) ∧ w'.cell? ⟨w.heap.size + 1, 1, none⟩ = some (.int .i64 0) ∧ CAt w s t w')
        (first | exact CAt.cells HS6.out | exact CAt.cells HB7.out)
        (first | (go_at_call 33; refine (HV.out _ (CAt.of (by assumption))).mono ?_; rintro e w7 ⟨rfl, hb7⟩; have HB7 := Lib.hid hb7; clear hb7))
    all_goals
      go_wp2_with fail
      go_ret
      exact ⟨rfl, HB7.out.kept⟩
end Go.Proofs.YtdliookdmgilgaaGreatDoor

/-
  A tag of a slice. No statement of the seat is proved here.
-/
namespace Go.Proofs.YtdliookdmgilgaaGreatDoor
open Go.RowKit

theorem Tags.get {w : World} {A : Option Addr} {ts : List Tg} {i : Nat} (h : Tags w A ts) (hi : i < ts.length) : ∃ b off s t, A = some ⟨b, off, none⟩ ∧ w.cell? ⟨b, off + i * 2, none⟩ = some (.string s) ∧ w.cell? ⟨b, off + i * 2 + 1, none⟩ = some (.string t) ∧ Str s ts[i].1 ∧ Str t ts[i].2 := by
  obtain ⟨b, off, e, h0, h1⟩ := h.at_ hi
  exact ⟨b, off, _, _, e, h0, h1, Str.mk _, Str.mk _⟩
end Go.Proofs.YtdliookdmgilgaaGreatDoor
