/-
  The walk of MetricChecks. No statement of the seat is proved here.
-/
import Derived.Test.YtgnpakcofkhdkaaMAwake
import Derived.Test.YtgnpakcofkhdkaaMRef3
import Derived.Deep.RegionHeld3
namespace Go.Proofs.Ytgnpakcofkhdkaa
open Go.RowKit
open Dc (D D0)

/-- A metric lies, and is known. -/
structure OneM (w : World) (s : ByteArray) (kd : Int) (A : Option Addr) (n ca : Nat) (rt : Int) (B : Option Addr) (k cb : Nat) (tm : Int) (w' : World) : Prop where
  kept : Below w.heap.size w w'
  one : Box w' w.heap.size 25 (mC s kd A n ca rt B k cb tm)
section
variable {w w1 w2 : World} {s : ByteArray} {A B : Option Addr} {n k ca cb : Nat} {kd rt tm : Int}
theorem OneM.next (h : OneM w s kd A n ca rt B k cb tm w1) (b : Below w1.heap.size w1 w2) : OneM w s kd A n ca rt B k cb tm w2 := ⟨below_then h.kept b, h.one.keep b⟩
theorem OneM.start (w : World) (s : ByteArray) (kd : Int) (A : Option Addr) (n ca : Nat) (rt : Int) (B : Option Addr) (k cb : Nat) (tm : Int) : OneM w s kd A n ca rt B k cb tm (w.alloc (.cells #[.string s, .int .i64 kd, .slice A n ca, .int .i64 rt, .slice B k cb, .int .i64 tm] 25)) := ⟨m_below _ _, Box.new _ _ _⟩
theorem OneM.cells (h : OneM w s kd A n ca rt B k cb tm w1) : w1.cell? ⟨w.heap.size, 0, none⟩ = some (.string s) ∧ w1.cell? ⟨w.heap.size, 1, none⟩ = some (.int .i64 kd) ∧ w1.cell? ⟨w.heap.size, 2, none⟩ = some (.slice A n ca) ∧ w1.cell? ⟨w.heap.size, 3, none⟩ = some (.int .i64 rt) ∧ w1.cell? ⟨w.heap.size, 4, none⟩ = some (.slice B k cb) ∧ w1.cell? ⟨w.heap.size, 5, none⟩ = some (.int .i64 tm) ∧ OneM w s kd A n ca rt B k cb tm w1 :=
  ⟨h.one.cell 0, h.one.cell 1, h.one.cell 2, h.one.cell 3, h.one.cell 4, h.one.cell 5, h⟩
theorem OneM.of {P1 P2 P3 P4 P5 P6 : Prop} (h : P1 ∧ P2 ∧ P3 ∧ P4 ∧ P5 ∧ P6 ∧ OneM w s kd A n ca rt B k cb tm w1) : OneM w s kd A n ca rt B k cb tm w1 := h.2.2.2.2.2.2
end

section
variable {w : World} {s : ByteArray} {A B : Option Addr} {n k ca cb : Nat} {m : Mt}
set_option maxRecDepth 100000 in
set_option maxHeartbeats 8000000 in
theorem checks_walk (h : MIs w s A n B k m) (hf : ∀ d ∈ m.vals, d.Fits) : Calls Try.prog 3 #[mV s m.kind A n ca m.rate B k cb m.time] w fun e w' => e = .returned (.bool true) ∧ Below w.heap.size w w' := by
  obtain ⟨q, hq⟩ : ∃ q, fewM m = q := ⟨_, rfl⟩
  have hF := fun W (b : Below w.heap.size w W) => fewm_calls (ca := ca) (cb := cb) (h.keep b)
  rw [hq] at hF
  obtain ⟨x, hx⟩ : ∃ x, checkM m = x := ⟨_, rfl⟩
  have hC := fun (z : Small m) W (b : Below w.heap.size w W) => mcheck_calls (ca := ca) (cb := cb) (h.keep b) z
  have hD := fun (z : Small m) W (b : Below w.heap.size w W) => rmcheck_calls (ca := ca) (cb := cb) (h.keep b) z
  simp only [hx] at hC hD
  have HZ := Lib.hid (fun (e : q = true) => few_small (hq.trans e) hf)
  unfold mV at hF hC hD ⊢
  generalize m.kind = kd at *
  generalize m.rate = rt at *
  generalize m.time = tm at *
  have HF := Lib.hid hF
  have HC := Lib.hid hC
  have HD := Lib.hid hD
  have HB := Lib.hid (OneM.start w s kd A n ca rt B k cb tm)
  clear hF hC hD hq hx h hf
  go_enter Try.func3, Try.ntmps3
  go_wp2_with fail
  refine (HF.out _ HB.out.kept).mono ?_
  rintro e w1 ⟨rfl, hb⟩
  have HB1 := Lib.hid (HB.out.next hb)
  clear hb HB HF
  cases q
  · go_wp2_with fail
    refine (awake_calls _).mono ?_
    rintro e w2 ⟨rfl, hb⟩
    have HB2 := Lib.hid (HB1.out.next hb)
    clear hb HB1
    go_wp2_with fail
    go_ret
    exact ⟨rfl, HB2.out.kept⟩
  · have HCS := Lib.hid (fun w' (h : OneM w s kd A n ca rt B k cb tm w') => (HC.out (HZ.out rfl) w' h.kept).mono fun e w'' (k : _ ∧ _) => And.intro k.1 (h.next k.2))
    have HDS := Lib.hid (fun w' (h : OneM w s kd A n ca rt B k cb tm w') => (HD.out (HZ.out rfl) w' h.kept).mono fun e w'' (k : _ ∧ _) => And.intro k.1 (h.next k.2))
    have HAS := Lib.hid (fun w' (h : OneM w s kd A n ca rt B k cb tm w') => (awake_calls w').mono fun e w'' (k : _ ∧ _) => And.intro k.1 (h.next k.2))
    have HS := Lib.hid (HB1.out.next (Same.below (Same.drewN _ 1)))
    clear HC HD HZ HB1
    go_wp2_with fail
    go_region_held3 (fun w' => w'.cell? ⟨w.heap.size, 0, none⟩ = some (.string s) ∧ w'.cell? ⟨w.heap.size, 1, none⟩ = some (.int .i64 kd) ∧ w'.cell? ⟨w.heap.size, 2, none⟩ = some (.slice A n ca) ∧ w'.cell? ⟨w.heap.size, 3, none⟩ = some (.int .i64 rt) ∧ w'.cell? ⟨w.heap.size, 4, none⟩ = some (.slice B k cb) ∧ w'.cell? ⟨w.heap.size, 5, none⟩ = some (.int .i64 tm) ∧ OneM w s kd A n ca rt B k cb tm w')
      (first | exact OneM.cells HS.out | exact OneM.cells (Hid.out (by assumption)))
      (first | (go_at_call 11; refine (HCS.out _ (OneM.of (by assumption))).mono ?_; rintro e w4 ⟨rfl, hb4⟩; have HB4 := Lib.hid hb4; clear hb4) | (go_at_call 12; refine (HDS.out _ (OneM.of (by assumption))).mono ?_; rintro e w5 ⟨rfl, hb5⟩; have HB5 := Lib.hid hb5; clear hb5) | (go_at_call 10; refine (HAS.out _ (OneM.of (by assumption))).mono ?_; rintro e w6 ⟨rfl, hb6⟩; have HB6 := Lib.hid hb6; clear hb6))
    all_goals
      go_wp2_with fail
    all_goals
      go_ret
      exact ⟨rfl, HB6.out.kept⟩
end
end Go.Proofs.Ytgnpakcofkhdkaa
