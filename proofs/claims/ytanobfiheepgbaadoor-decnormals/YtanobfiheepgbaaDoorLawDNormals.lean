/-
  The walk of DecNormals. No statement of the seat is proved here.
-/
import Derived.Test.YtanobfiheepgbaaDoorDAwake
import Derived.Test.YtanobfiheepgbaaDoorDRefNorm2
import Derived.Deep.RegionHeld3
namespace Go.Proofs.YtanobfiheepgbaaDoor
open Go.RowKit

/-- What stands while the answers are held one against the other. -/
structure NSo (w : World) (g1 g2 : Nat) (x y z x' y' z' : Value) (w' : World) : Prop where
  from_ : Box w' w.heap.size 24 [x, y, z]
  one : Box w' g1 24 [x', y', z']
  two : Box w' g2 24 [x', y', z']
  kept : Below w.heap.size w w'
  tab : Tab w'

section
variable {w w' w'' : World} {g1 g2 : Nat} {x y z x' y' z' : Value}
theorem NSo.keep (h : NSo w g1 g2 x y z x' y' z' w') (hb : Below w'.heap.size w' w'') : NSo w g1 g2 x y z x' y' z' w'' :=
  ⟨h.from_.keep hb, h.one.keep hb, h.two.keep hb, below_then (w := w) h.kept hb, h.tab.keep hb⟩
theorem NSo.cells (h : NSo w g1 g2 x y z x' y' z' w') : w'.cell? ⟨w.heap.size, 0, none⟩ = some x ∧ w'.cell? ⟨w.heap.size, 1, none⟩ = some y ∧ w'.cell? ⟨w.heap.size, 2, none⟩ = some z ∧ w'.cell? ⟨g1, 0, none⟩ = some x' ∧ w'.cell? ⟨g1, 1, none⟩ = some y' ∧ w'.cell? ⟨g1, 2, none⟩ = some z' ∧ w'.cell? ⟨g2, 0, none⟩ = some x' ∧ w'.cell? ⟨g2, 1, none⟩ = some y' ∧ w'.cell? ⟨g2, 2, none⟩ = some z' ∧ NSo w g1 g2 x y z x' y' z' w' :=
  ⟨h.from_.cell 0, h.from_.cell 1, h.from_.cell 2, h.one.cell 0, h.one.cell 1, h.one.cell 2, h.two.cell 0, h.two.cell 1, h.two.cell 2, h⟩
theorem NSo.of (h : w'.cell? ⟨w.heap.size, 0, none⟩ = some x ∧ w'.cell? ⟨w.heap.size, 1, none⟩ = some y ∧ w'.cell? ⟨w.heap.size, 2, none⟩ = some z ∧ w'.cell? ⟨g1, 0, none⟩ = some x' ∧ w'.cell? ⟨g1, 1, none⟩ = some y' ∧ w'.cell? ⟨g1, 2, none⟩ = some z' ∧ w'.cell? ⟨g2, 0, none⟩ = some x' ∧ w'.cell? ⟨g2, 1, none⟩ = some y' ∧ w'.cell? ⟨g2, 2, none⟩ = some z' ∧ NSo w g1 g2 x y z x' y' z' w') : NSo w g1 g2 x y z x' y' z' w' := h.2.2.2.2.2.2.2.2.2
end

set_option maxRecDepth 100000 in
set_option maxHeartbeats 8000000 in
theorem normals_walk (d : D) (hf : d.Fits) (w : World) (ht : Tab w) : Calls Tryd.prog 3 #[dV d] w fun e w' => e = .returned (.bool true) ∧ Below w.heap.size w w' := by
  have hN := fun W => normal_calls d hf W
  have hR := fun W => rnormal_calls d hf W
  have hC := fun W => check_calls d hf W
  have hD := fun W => rcheck_calls d hf W
  obtain ⟨x, hx⟩ : ∃ x : Int, x = (d.c : Int) := ⟨_, rfl⟩
  obtain ⟨y, hy⟩ : ∃ y : Int, y = d.e := ⟨_, rfl⟩
  obtain ⟨n, hn⟩ : ∃ n : Bool, n = d.neg := ⟨_, rfl⟩
  obtain ⟨x', hx'⟩ : ∃ x : Int, x = ((nVal d).c : Int) := ⟨_, rfl⟩
  obtain ⟨y', hy'⟩ : ∃ y : Int, y = (nVal d).e := ⟨_, rfl⟩
  obtain ⟨n', hn'⟩ : ∃ n : Bool, n = (nVal d).neg := ⟨_, rfl⟩
  obtain ⟨q, hq⟩ : ∃ q : Int, q = check d := ⟨_, rfl⟩
  obtain ⟨E, hE⟩ : ∃ E : Int, E = nErr d := ⟨_, rfl⟩
  unfold dV at hN hR hC hD ⊢
  simp only [← hx, ← hy, ← hn, ← hx', ← hy', ← hn', ← hq, ← hE] at hN hR hC hD
  rw [← hx, ← hy, ← hn]
  have HN := Lib.hid hN
  have HR := Lib.hid hR
  have HC := Lib.hid hC
  have HD := Lib.hid hD
  have HT := Lib.hid ht
  have n0 := Box.new w 24 [.bool n, .int .u64 x, .int .i64 y]
  have kb : Below w.heap.size w (w.alloc (.cells #[.bool n, .int .u64 x, .int .i64 y] 24)) := (Below.refl _ _).alloc (Nat.le_refl _) _
  have H0 := Lib.hid (And.intro kb n0)
  clear hN hR hC hD hx hy hn hx' hy' hn' hq hE hf ht n0 kb
  go_enter Tryd.func3, Tryd.ntmps3
  go_wp2_with fail
  refine (HN.out _).mono ?_
  rintro e w1 ⟨rfl, hb⟩
  have n1 := Box.new w1 24 [.bool n', .int .u64 x', .int .i64 y']
  have hb1 := below_then hb ((Below.refl _ _).alloc (Nat.le_refl _) (.cells #[.bool n', .int .u64 x', .int .i64 y'] 24))
  have H1 := Lib.hid (And.intro (below_then H0.out.1 hb1) (And.intro (H0.out.2.keep hb1) n1))
  have a0 := H1.out.2.1.cell 0
  have a1 := H1.out.2.1.cell 1
  have a2 := H1.out.2.1.cell 2
  simp only [List.getElem?_cons_zero, List.getElem?_cons_succ] at a0 a1 a2
  clear hb hb1 n1 H0 HN
  go_wp2_with fail
  refine (HR.out _).mono ?_
  rintro e w2 ⟨rfl, hb⟩
  have n2 := Box.new w2 24 [.bool n', .int .u64 x', .int .i64 y']
  have hb2 := below_then hb ((Below.refl _ _).alloc (Nat.le_refl _) (.cells #[.bool n', .int .u64 x', .int .i64 y'] 24))
  have hk := below_then H1.out.1 hb2
  have H2 := Lib.hid (show NSo w w1.heap.size w2.heap.size (.bool n) (.int .u64 x) (.int .i64 y) (.bool n') (.int .u64 x') (.int .i64 y') (w2.alloc (.cells #[.bool n', .int .u64 x', .int .i64 y'] 24)) from ⟨H1.out.2.1.keep hb2, H1.out.2.2.keep hb2, n2, hk, HT.out.keep hk⟩)
  clear hb hb2 n2 H1 HR hk a0 a1 a2
  have hCS : ∀ w', NSo w w1.heap.size w2.heap.size (.bool n) (.int .u64 x) (.int .i64 y) (.bool n') (.int .u64 x') (.int .i64 y') w' → Calls Tryd.prog 12 #[.agg #[.bool n, .int .u64 x, .int .i64 y]] w' fun e w'' => e = .returned (.int .i64 q) ∧ NSo w w1.heap.size w2.heap.size (.bool n) (.int .u64 x) (.int .i64 y) (.bool n') (.int .u64 x') (.int .i64 y') w'' := fun w' h => (HC.out w').mono fun _ _ ⟨h1, h2⟩ => ⟨h1, h.keep h2⟩
  have hDS : ∀ w', NSo w w1.heap.size w2.heap.size (.bool n) (.int .u64 x) (.int .i64 y) (.bool n') (.int .u64 x') (.int .i64 y') w' → Calls Tryd.prog 13 #[.agg #[.bool n, .int .u64 x, .int .i64 y]] w' fun e w'' => e = .returned (.int .i64 q) ∧ NSo w w1.heap.size w2.heap.size (.bool n) (.int .u64 x) (.int .i64 y) (.bool n') (.int .u64 x') (.int .i64 y') w'' := fun w' h => (HD.out w').mono fun _ _ ⟨h1, h2⟩ => ⟨h1, h.keep h2⟩
  have hAS : ∀ w', NSo w w1.heap.size w2.heap.size (.bool n) (.int .u64 x) (.int .i64 y) (.bool n') (.int .u64 x') (.int .i64 y') w' → Calls Tryd.prog 14 #[] w' fun e w'' => e = .returned (.bool true) ∧ NSo w w1.heap.size w2.heap.size (.bool n) (.int .u64 x) (.int .i64 y) (.bool n') (.int .u64 x') (.int .i64 y') w'' := fun w' h => (awake_calls w' h.tab).mono fun _ _ ⟨h1, h2⟩ => ⟨h1, h.keep h2⟩
  have HCS := Lib.hid hCS
  have HDS := Lib.hid hDS
  have HAS := Lib.hid hAS
  clear hCS hDS hAS HC HD
  have HS0 := Lib.hid (H2.out.keep (Same.below (Same.drewN _ 1)))
  clear H2
  go_wp2_with fail
  go_region_held3 (fun w' => w'.cell? ⟨w.heap.size, 0, none⟩ = some (.bool n) ∧ w'.cell? ⟨w.heap.size, 1, none⟩ = some (.int .u64 x) ∧ w'.cell? ⟨w.heap.size, 2, none⟩ = some (.int .i64 y) ∧ w'.cell? ⟨w1.heap.size, 0, none⟩ = some (.bool n') ∧ w'.cell? ⟨w1.heap.size, 1, none⟩ = some (.int .u64 x') ∧ w'.cell? ⟨w1.heap.size, 2, none⟩ = some (.int .i64 y') ∧ w'.cell? ⟨w2.heap.size, 0, none⟩ = some (.bool n') ∧ w'.cell? ⟨w2.heap.size, 1, none⟩ = some (.int .u64 x') ∧ w'.cell? ⟨w2.heap.size, 2, none⟩ = some (.int .i64 y') ∧ NSo w w1.heap.size w2.heap.size (.bool n) (.int .u64 x) (.int .i64 y) (.bool n') (.int .u64 x') (.int .i64 y') w')
    (first | exact NSo.cells HS0.out | exact NSo.cells (Hid.out (by assumption)))
    (first | (go_at_call 12; refine (HCS.out _ (NSo.of (by assumption))).mono ?_; rintro e w4 ⟨rfl, hb4⟩; have HB4 := Lib.hid hb4; clear hb4) | (go_at_call 13; refine (HDS.out _ (NSo.of (by assumption))).mono ?_; rintro e w5 ⟨rfl, hb5⟩; have HB5 := Lib.hid hb5; clear hb5) | (go_at_call 14; refine (HAS.out _ (NSo.of (by assumption))).mono ?_; rintro e w6 ⟨rfl, hb6⟩; have HB6 := Lib.hid hb6; clear hb6))
  all_goals
    go_wp2_with fail
  all_goals
    go_ret
    exact ⟨rfl, HB6.out.kept⟩
end Go.Proofs.YtanobfiheepgbaaDoor
