/-
  The walk of DecOrders. No statement of the seat is proved here.
-/
import Derived.Test.YtmlandoecgldaaaDoorDAwake
import Derived.Test.YtmlandoecgldaaaDoorDOMath
import Derived.Test.YtmlandoecgldaaaDoorDecsIn
import Derived.Deep.RegionHeld3
namespace Go.Proofs.YtmlandoecgldaaaDoor
open Go.RowKit

/-- Three numbers' cells; nine ints' cells. -/
def cell9 (n : Nat → Bool) (x y : Nat → Int) : List Value := [.bool (n 0), .int .u64 (x 0), .int .i64 (y 0), .bool (n 1), .int .u64 (x 1), .int .i64 (y 1), .bool (n 2), .int .u64 (x 2), .int .i64 (y 2)]
def ints9 (M : Nat → Int) : List Value := [.int .i64 (M 0), .int .i64 (M 1), .int .i64 (M 2), .int .i64 (M 3), .int .i64 (M 4), .int .i64 (M 5), .int .i64 (M 6), .int .i64 (M 7), .int .i64 (M 8)]
def upd {α : Type} (f : Nat → α) (i : Nat) (v : α) : Nat → α := fun j => if j = i then v else f j

section
variable {w w1 w2 : World} {g i k m : Nat} {n n' : Nat → Bool} {x y x' y' : Nat → Int} {N : Nat → Bool} {X Y M : Nat → Int} {C : Nat → Nat → Int}
theorem cell9_at (h : Box w g 45 (cell9 n x y)) (hi : i < 3) :
    w.cell? ⟨g, i * 3, none⟩ = some (.bool (n i)) ∧ w.cell? ⟨g, i * 3 + 1, none⟩ = some (.int .u64 (x i)) ∧ w.cell? ⟨g, i * 3 + 2, none⟩ = some (.int .i64 (y i)) := by
  rcases (by omega : i = 0 ∨ i = 1 ∨ i = 2) with rfl | rfl | rfl
  · exact ⟨h.cell 0, h.cell 1, h.cell 2⟩
  · exact ⟨h.cell 3, h.cell 4, h.cell 5⟩
  · exact ⟨h.cell 6, h.cell 7, h.cell 8⟩
theorem cell9_set (h : Box w g 45 (cell9 n x y)) (hi : i < 3) (a : Bool) (b c : Int) :
    Box (((w.setCell ⟨g, i * 3, none⟩ (.bool a)).setCell ⟨g, i * 3 + 1, none⟩ (.int .u64 b)).setCell ⟨g, i * 3 + 2, none⟩ (.int .i64 c)) g 45 (cell9 (upd n i a) (upd x i b) (upd y i c)) := by
  have k := ((h.set (i * 3) (.bool a)).set (i * 3 + 1) (.int .u64 b)).set (i * 3 + 2) (.int .i64 c)
  rcases (by omega : i = 0 ∨ i = 1 ∨ i = 2) with rfl | rfl | rfl <;> exact k
theorem cell9_same (h : ∀ j, j < 3 → n' j = n j ∧ x' j = x j ∧ y' j = y j) : cell9 n' x' y' = cell9 n x y := by
  unfold cell9
  rw [(h 0 (by omega)).1, (h 0 (by omega)).2.1, (h 0 (by omega)).2.2, (h 1 (by omega)).1, (h 1 (by omega)).2.1, (h 1 (by omega)).2.2, (h 2 (by omega)).1, (h 2 (by omega)).2.1, (h 2 (by omega)).2.2]
theorem ints9_at (h : Box w g 47 (ints9 M)) (hi : i < 3) (hk : k < 3) : w.cell? ⟨g, i * 3 + k, none⟩ = some (.int .i64 (M (i * 3 + k))) := by
  rw [h.cell]
  rcases (by omega : i = 0 ∨ i = 1 ∨ i = 2) with rfl | rfl | rfl <;> rcases (by omega : k = 0 ∨ k = 1 ∨ k = 2) with rfl | rfl | rfl <;> rfl
theorem ints9_set (h : Box w g 47 (ints9 M)) (hi : i < 3) (hk : k < 3) (c : Int) : Box (w.setCell ⟨g, i * 3 + k, none⟩ (.int .i64 c)) g 47 (ints9 (upd M (i * 3 + k) c)) := by
  have h2 := h.set (i * 3 + k) (.int .i64 c)
  rcases (by omega : i = 0 ∨ i = 1 ∨ i = 2) with rfl | rfl | rfl <;> rcases (by omega : k = 0 ∨ k = 1 ∨ k = 2) with rfl | rfl | rfl <;> exact h2

/-- What holds at the head of the first loop's round i. -/
structure In1 (w : World) (n : Nat → Bool) (x y : Nat → Int) (N : Nat → Bool) (X Y : Nat → Int) (i : Nat) (w' : World) : Prop where
  kept : Below w.heap.size w w'
  from_ : Box w' w.heap.size 45 (cell9 n x y)
  into : ∃ n' x' y', Box w' (w.heap.size + 1) 45 (cell9 n' x' y') ∧ ∀ j, j < i → n' j = N j ∧ x' j = X j ∧ y' j = Y j
theorem In1.next (h : In1 w n x y N X Y i w1) (k : Below w1.heap.size w1 w2) : In1 w n x y N X Y i w2 := by
  obtain ⟨n', x', y', hb, ha⟩ := h.into
  exact ⟨below_then h.kept k, h.from_.keep k, ⟨n', x', y', hb.keep k, ha⟩⟩
theorem In1.store (h : In1 w n x y N X Y i w1) (hi : i < 3) :
    In1 w n x y N X Y (i + 1) (((w1.setCell ⟨w.heap.size + 1, i * 3, none⟩ (.bool (N i))).setCell ⟨w.heap.size + 1, i * 3 + 1, none⟩ (.int .u64 (X i))).setCell ⟨w.heap.size + 1, i * 3 + 2, none⟩ (.int .i64 (Y i))) := by
  obtain ⟨n', x', y', hb, ha⟩ := h.into
  refine ⟨below_set (below_set (below_set h.kept (by omega) _ _) (by omega) _ _) (by omega) _ _, ((h.from_.far (q := ⟨w.heap.size + 1, i * 3, none⟩) (by show w.heap.size ≠ w.heap.size + 1; omega) _).far (q := ⟨w.heap.size + 1, i * 3 + 1, none⟩) (by show w.heap.size ≠ w.heap.size + 1; omega) _).far (q := ⟨w.heap.size + 1, i * 3 + 2, none⟩) (by show w.heap.size ≠ w.heap.size + 1; omega) _, ?_⟩
  refine ⟨_, _, _, cell9_set hb hi _ _ _, fun j hj => ?_⟩
  unfold upd
  by_cases h1 : j = i
  · subst h1; rw [if_pos rfl, if_pos rfl, if_pos rfl]; exact ⟨rfl, rfl, rfl⟩
  · rw [if_neg h1, if_neg h1, if_neg h1]; exact ha j (by omega)

/-- What holds at the head of the second loops' round m. -/
structure In2 (w : World) (g : Nat) (N : Nat → Bool) (X Y : Nat → Int) (C : Nat → Nat → Int) (m : Nat) (w' : World) : Prop where
  kept : Below w.heap.size w w'
  nums : Box w' (w.heap.size + 1) 45 (cell9 N X Y)
  mat : ∃ M : Nat → Int, Box w' g 47 (ints9 M) ∧ ∀ j, j < m → M j = C (j / 3) (j % 3)
  far : w.heap.size ≤ g
theorem In2.next (h : In2 w g N X Y C m w1) (k : Below w1.heap.size w1 w2) : In2 w g N X Y C m w2 := by
  obtain ⟨M, hb, ha⟩ := h.mat
  exact ⟨below_then h.kept k, h.nums.keep k, ⟨M, hb.keep k, ha⟩, h.far⟩
theorem In2.store (h : In2 w g N X Y C (i * 3 + k) w1) (hi : i < 3) (hk : k < 3) : In2 w g N X Y C (i * 3 + (k + 1)) (w1.setCell ⟨g, i * 3 + k, none⟩ (.int .i64 (C i k))) := by
  obtain ⟨M, hb, ha⟩ := h.mat
  refine ⟨below_set h.kept h.far _ _, h.nums.far (q := ⟨g, i * 3 + k, none⟩) (h.nums.ne hb (by decide)) _, ⟨_, ints9_set hb hi hk _, fun j hj => ?_⟩, h.far⟩
  unfold upd
  by_cases h1 : j = i * 3 + k
  · subst h1
    rw [if_pos rfl, show (i * 3 + k) / 3 = i by omega, show (i * 3 + k) % 3 = k by omega]
  · rw [if_neg h1]; exact ha j (by omega)
theorem In2.cells (h : In2 w g N X Y C m w1) (hi : i < 3) (hk : k < 3) :
    w1.cell? ⟨w.heap.size + 1, i * 3, none⟩ = some (.bool (N i)) ∧ w1.cell? ⟨w.heap.size + 1, i * 3 + 1, none⟩ = some (.int .u64 (X i)) ∧ w1.cell? ⟨w.heap.size + 1, i * 3 + 2, none⟩ = some (.int .i64 (Y i))
    ∧ w1.cell? ⟨w.heap.size + 1, k * 3, none⟩ = some (.bool (N k)) ∧ w1.cell? ⟨w.heap.size + 1, k * 3 + 1, none⟩ = some (.int .u64 (X k)) ∧ w1.cell? ⟨w.heap.size + 1, k * 3 + 2, none⟩ = some (.int .i64 (Y k)) ∧ In2 w g N X Y C m w1 := by
  obtain ⟨a0, a1, a2⟩ := cell9_at h.nums hi
  obtain ⟨b0, b1, b2⟩ := cell9_at h.nums hk
  exact ⟨a0, a1, a2, b0, b1, b2, h⟩
theorem In2.of {P0 P1 P2 P3 P4 P5 : Prop} (h : P0 ∧ P1 ∧ P2 ∧ P3 ∧ P4 ∧ P5 ∧ In2 w g N X Y C m w1) : In2 w g N X Y C m w1 := h.2.2.2.2.2.2
end

set_option maxRecDepth 100000 in
set_option maxHeartbeats 8000000 in
theorem orders_walk (n : Nat → Bool) (x y : Nat → Int) (N : Nat → Bool) (X Y : Nat → Int) (E : Nat → Int) (C : Nat → Nat → Int) (N' : Nat → Bool) (w : World) (ht : Tab w)
    (hE : ∀ i, i < 3 → E i = 0 ∨ (E i = 10 ∧ N i = false ∧ X i = 0 ∧ Y i = 0))
    (hN : ∀ i, i < 3 → ∀ W, Calls Tryd.prog 10 #[.agg #[.bool (n i), .int .u64 (x i), .int .i64 (y i)]] W fun e w' => e = .returned (.tuple #[.agg #[.bool (N i), .int .u64 (X i), .int .i64 (Y i)], .int .i64 (E i)]) ∧ Below W.heap.size W w')
    (hC : (∀ i, i < 3 → E i = 0) → ∀ i, i < 3 → ∀ k, k < 3 → ∀ W, Calls Tryd.prog 18 #[.agg #[.bool (N i), .int .u64 (X i), .int .i64 (Y i)], .agg #[.bool (N k), .int .u64 (X k), .int .i64 (Y k)]] W fun e w' => e = .returned (.tuple #[.int .i64 (C i k), .int .i64 0]) ∧ Below W.heap.size W w')
    (hL : ∀ i, i < 3 → ∀ W, Calls Tryd.prog 21 #[.agg #[.bool (N i), .int .u64 (X i), .int .i64 (Y i)]] W fun e w' => e = .returned (.agg #[.bool (N' i), .int .u64 (X i), .int .i64 (Y i)]) ∧ Below W.heap.size W w')
    (hD : (∀ i, i < 3 → E i = 0) → ∀ i, i < 3 → ∀ k, k < 3 → ∀ W, Calls Tryd.prog 18 #[.agg #[.bool (N' k), .int .u64 (X k), .int .i64 (Y k)], .agg #[.bool (N' i), .int .u64 (X i), .int .i64 (Y i)]] W fun e w' => e = .returned (.tuple #[.int .i64 (C i k), .int .i64 0]) ∧ Below W.heap.size W w')
    (hR : ∀ i k, -1 ≤ C i k ∧ C i k ≤ 1)
    (hS : (∀ i, i < 3 → E i = 0) → ∀ i, i < 3 → ∀ k, k < 3 → (C i k = 0 ↔ N i = N k ∧ X i = X k ∧ Y i = Y k))
    (hA : ∀ i k, C i k = - C k i) (hT : ∀ i k j, C i k ≤ 0 → C k j ≤ 0 → C i j ≤ 0) :
    Calls Tryd.prog 8 #[.agg (cell9 n x y).toArray] w fun e w' => e = .returned (.bool true) ∧ Below w.heap.size w w' := by
  have HN := Lib.hid hN
  have HT := Lib.hid ht
  have HE := Lib.hid hE
  have HC := Lib.hid hC
  have HL := Lib.hid hL
  have HD := Lib.hid hD
  have HM := Lib.hid (And.intro hR (And.intro hS (And.intro hA hT)))
  clear hN ht hE hC hL hD hR hS hA hT
  have s1 := size_alloc w (.cells (cell9 n x y).toArray 45)
  have k0 := Box.new w 45 (cell9 n x y)
  have k1 := Box.new (w.alloc (.cells (cell9 n x y).toArray 45)) 45 (cell9 (fun _ => false) (fun _ => 0) (fun _ => 0))
  rw [s1] at k1
  have kb : Below w.heap.size w ((w.alloc (.cells (cell9 n x y).toArray 45)).alloc (.cells (cell9 (fun _ => false) (fun _ => 0) (fun _ => 0)).toArray 45)) := ((Below.refl _ _).alloc (Nat.le_refl _) _).alloc (by rw [s1]; omega) _
  have H0 := Lib.hid (show In1 w n x y N X Y 0 _ from ⟨kb, k0.alloc _, ⟨_, _, _, k1, fun j h => absurd h (by omega)⟩⟩)
  clear s1 k0 k1 kb
  unfold cell9 at H0 ⊢
  go_enter Tryd.func8, Tryd.ntmps8
  go_wp2_with fail
  go_loopw [4] (fun v4 wr => ∃ i : Nat, v4 = .int .i64 i ∧ i ≤ 3 ∧ Hid (In1 w n x y N X Y i wr ∧ ∀ j, j < i → E j = 0)) (fun v4 _ => 3 - (intOf v4).toNat)
  case atStart => exact ⟨0, rfl, by omega, H0.out, fun j h => absurd h (by omega)⟩
  case round =>
    obtain ⟨i, rfl, hi, HI⟩ := hrel
    clear H0
    by_cases hlt : i < 3
    · have hi0 : (0 : Int) ≤ (i : Int) := by omega
      have hi3 : (i : Int) < 3 := by omega
      obtain ⟨a0, a1, a2⟩ := cell9_at HI.out.1.from_ hlt
      go_wp2_with fail
      refine (HN.out i hlt _).mono ?_
      rintro e w1 ⟨rfl, hb⟩
      have h1 := HI.out.1.next hb
      have h2 := h1.next ((Below.refl w1.heap.size w1).alloc (Nat.le_refl _) (.cells #[.bool (N i), .int .u64 (X i), .int .i64 (Y i)] 24))
      have H2 := Lib.hid (And.intro h2 HI.out.2)
      obtain ⟨n', x', y', hbox, _⟩ := h2.into
      obtain ⟨r0, r1, r2⟩ := cell9_at hbox hlt
      have f0 := hbox.frozen (i * 3)
      have f1 := hbox.frozen (i * 3 + 1)
      have f2 := hbox.frozen (i * 3 + 2)
      clear hb h1 h2 HI a0 a1 a2 hbox HN HC HL HD HM
      rcases HE.out i hlt with h0 | ⟨h0, hn0, hx0, hy0⟩
      · rw [h0]
        have H3 := Lib.hid (And.intro (H2.out.1.store hlt) (show ∀ j, j < i + 1 → E j = 0 from fun j hj => by
          by_cases h1 : j = i
          · rw [h1]; exact h0
          · exact H2.out.2 j (by omega)))
        clear h0 H2 HE
        go_wp2_with fail
        exact ⟨⟨i + 1, by go_num, by omega, H3.out⟩, by simp [intOf]; omega⟩
      · rw [h0, hn0, hx0, hy0]
        clear r0 r1 r2 f0 f1 f2
        have H3 := Lib.hid H2.out.1
        rw [hn0, hx0, hy0] at H3
        clear h0 H2 HE hn0 hx0 hy0
        go_wp2_with fail
        refine (awake_calls _ (HT.out.keep H3.out.kept)).mono ?_
        rintro e w3 ⟨rfl, hb⟩
        have H4 := Lib.hid (H3.out.next hb).kept
        clear hb H3
        go_wp2_with fail
        go_ret
        exact ⟨rfl, H4.out⟩
    · obtain rfl : 3 = i := by omega
      have hE0 := HI.out.2
      obtain ⟨n', x', y', hbox, hsame⟩ := HI.out.1.into
      rw [cell9_same hsame] at hbox
      obtain ⟨w5, hw5⟩ : ∃ w5, w5 = wr := ⟨_, rfl⟩
      subst hw5
      have k1 := Box.new w5 47 (ints9 (fun _ => 0))
      have k2 : Below w5.heap.size w5 (w5.alloc (.cells (ints9 (fun _ => 0)).toArray 47)) := (Below.refl _ _).alloc (Nat.le_refl _) _
      have H0 := Lib.hid (show In2 w w5.heap.size N X Y C 0 _ from ⟨below_then HI.out.1.kept k2, hbox.keep k2, ⟨_, k1, fun j h => absurd h (by omega)⟩, HI.out.1.kept.size⟩)
      have HCC := Lib.hid (HC.out hE0)
      have HDD := Lib.hid (HD.out hE0)
      have HSS := Lib.hid (HM.out.2.1 hE0)
      clear hE0 hbox hsame k1 k2 HI HN HE HC HD
      unfold ints9 at H0
      go_wp2_with fail
      go_loopw [8] (fun v8 wr => ∃ i : Nat, v8 = .int .i64 i ∧ i ≤ 3 ∧ Hid (In2 w w5.heap.size N X Y C (i * 3) wr)) (fun v8 _ => 3 - (intOf v8).toNat)
      case atStart => exact ⟨0, rfl, by omega, H0.out⟩
      case round =>
        obtain ⟨i, rfl, hi, HI⟩ := hrel
        clear H0
        by_cases hlt : i < 3
        · obtain ⟨w6, hw6⟩ : ∃ w6, w6 = wr := ⟨_, rfl⟩
          subst hw6
          have hi3 : (i : Int) < 3 := by omega
          have hi0 : (0 : Int) ≤ (i : Int) := by omega
          go_wp2_with fail
          go_loopw [9] (fun v9 wr => ∃ k : Nat, v9 = .int .i64 k ∧ k ≤ 3 ∧ Hid (In2 w w5.heap.size N X Y C (i * 3 + k) wr)) (fun v9 _ => 3 - (intOf v9).toNat)
          case atStart => exact ⟨0, rfl, by omega, HI.out⟩
          case round =>
            obtain ⟨k, rfl, hk, HK⟩ := hrel
            clear HI
            by_cases hkt : k < 3
            · have hk3 : (k : Int) < 3 := by omega
              have hk0 : (0 : Int) ≤ (k : Int) := by omega
              have HS0 := Lib.hid (HK.out.next (Same.below (Same.drewN _ 1)))
              clear HK
              obtain ⟨c, hc⟩ : ∃ c, C i k = c := ⟨_, rfl⟩
              have hCS : ∀ w', In2 w w5.heap.size N X Y C (i * 3 + k) w' → Calls Tryd.prog 18 #[.agg #[.bool (N i), .int .u64 (X i), .int .i64 (Y i)], .agg #[.bool (N k), .int .u64 (X k), .int .i64 (Y k)]] w' fun e w'' => e = .returned (.tuple #[.int .i64 c, .int .i64 0]) ∧ In2 w w5.heap.size N X Y C (i * 3 + k) w'' := by
                intro w' h
                have := HCC.out i hlt k hkt w'
                rw [hc] at this
                exact this.mono fun _ _ ⟨h1, h2⟩ => ⟨h1, h.next h2⟩
              have HCS := Lib.hid hCS
              have hc1 : ¬ c < -1 := by have := (HM.out.1 i k).1; omega
              have hc2 : ¬ 1 < c := by have := (HM.out.1 i k).2; omega
              have HSM := Lib.hid (HSS.out i hlt k hkt)
              rw [hc] at HSM
              have HCQ := Lib.hid hc
              clear hCS hc
              go_wp2_with fail
              go_region_held3 (fun w' => w'.cell? ⟨w.heap.size + 1, i * 3, none⟩ = some (.bool (N i)) ∧ w'.cell? ⟨w.heap.size + 1, i * 3 + 1, none⟩ = some (.int .u64 (X i)) ∧ w'.cell? ⟨w.heap.size + 1, i * 3 + 2, none⟩ = some (.int .i64 (Y i)) ∧ w'.cell? ⟨w.heap.size + 1, k * 3, none⟩ = some (.bool (N k)) ∧ w'.cell? ⟨w.heap.size + 1, k * 3 + 1, none⟩ = some (.int .u64 (X k)) ∧ w'.cell? ⟨w.heap.size + 1, k * 3 + 2, none⟩ = some (.int .i64 (Y k)) ∧ In2 w w5.heap.size N X Y C (i * 3 + k) w')
                (first | exact In2.cells HS0.out hlt hkt | exact In2.cells (Hid.out (by assumption)) hlt hkt)
                ((go_at_call 18; refine (HCS.out _ (In2.of (by assumption))).mono ?_; rintro e w7 ⟨rfl, hb7⟩; have HB7 := Lib.hid hb7; clear hb7))
              all_goals
                rename_i hheld
                obtain ⟨a0, a1, a2, b0, b1, b2, hin⟩ := hheld
                have HIN := Lib.hid hin
                clear hin HS0 HCS
                have hcs : (c = 0 ∧ N i = N k ∧ X i = X k ∧ Y i = Y k) ∨ ((c == 0) = false ∧ (N i == N k) = false) ∨ ((c == 0) = false ∧ N i = N k ∧ (X i == X k) = false) ∨ ((c == 0) = false ∧ N i = N k ∧ X i = X k ∧ (Y i == Y k) = false) := by
                  by_cases hz : c = 0
                  · exact .inl ⟨hz, HSM.out.1 hz⟩
                  · have hne := fun h => hz (HSM.out.2 h)
                    have hz' : (c == 0) = false := by rw [beq_eq_false_iff_ne]; exact hz
                    by_cases h1 : N i = N k
                    · by_cases h2 : X i = X k
                      · exact .inr (.inr (.inr ⟨hz', h1, h2, by rw [beq_eq_false_iff_ne]; exact fun h3 => hne ⟨h1, h2, h3⟩⟩))
                      · exact .inr (.inr (.inl ⟨hz', h1, by rw [beq_eq_false_iff_ne]; exact h2⟩))
                    · exact .inr (.inl ⟨hz', by rw [beq_eq_false_iff_ne]; exact h1⟩)
                clear HSM
                obtain ⟨M, hM, _⟩ := HIN.out.mat
                have m0 := ints9_at hM hlt hkt
                have mf := hM.frozen (i * 3 + k)
                have hst : ∀ q, In2 w w5.heap.size N X Y C (i * 3 + (k + 1)) (((w7.drewN q).setCell ⟨w5.heap.size, i * 3 + k, none⟩ (.int .i64 c)).drewN 1) := by
                  intro q
                  have h1 := (HIN.out.next (Same.below (Same.drewN w7 q))).store hlt hkt
                  rw [HCQ.out] at h1
                  exact h1.next (Same.below (Same.drewN _ 1))
                have HS1 := Lib.hid hst
                have hLK : ∀ j, j < 3 → ∀ w', In2 w w5.heap.size N X Y C (i * 3 + (k + 1)) w' → Calls Tryd.prog 21 #[.agg #[.bool (N j), .int .u64 (X j), .int .i64 (Y j)]] w' fun e w'' => e = .returned (.agg #[.bool (N' j), .int .u64 (X j), .int .i64 (Y j)]) ∧ In2 w w5.heap.size N X Y C (i * 3 + (k + 1)) w'' :=
                  fun j hj w' h => (HL.out j hj w').mono fun _ _ ⟨h1, h2⟩ => ⟨h1, h.next h2⟩
                have hLD : ∀ w', In2 w w5.heap.size N X Y C (i * 3 + (k + 1)) w' → Calls Tryd.prog 18 #[.agg #[.bool (N' k), .int .u64 (X k), .int .i64 (Y k)], .agg #[.bool (N' i), .int .u64 (X i), .int .i64 (Y i)]] w' fun e w'' => e = .returned (.tuple #[.int .i64 c, .int .i64 0]) ∧ In2 w w5.heap.size N X Y C (i * 3 + (k + 1)) w'' := by
                  intro w' h
                  have := HDD.out i hlt k hkt w'
                  rw [HCQ.out] at this
                  exact this.mono fun _ _ ⟨h1, h2⟩ => ⟨h1, h.next h2⟩
                have HLK := Lib.hid hLK
                have HLD := Lib.hid hLD
                clear hst hM hLK hLD HIN HCQ
                rcases hcs with ⟨rfl, e1, e2, e3⟩ | ⟨hz, e1⟩ | ⟨hz, e1, e2⟩ | ⟨hz, e1, e2, e3⟩
                · rw [e1] at a0
                  rw [e2] at a1
                  rw [e3] at a2
                  clear e1 e2 e3
                  go_wp2_with fail
                  go_quiet (fail)
                  clear a0 a1 a2 b0 b1 b2
                  go_wp2_with fail
                  clear m0 mf
                  have HS2 := Lib.hid (HS1.out nq)
                  clear HS1
                  go_region_held3 (fun w' => w'.cell? ⟨w.heap.size + 1, i * 3, none⟩ = some (.bool (N i)) ∧ w'.cell? ⟨w.heap.size + 1, i * 3 + 1, none⟩ = some (.int .u64 (X i)) ∧ w'.cell? ⟨w.heap.size + 1, i * 3 + 2, none⟩ = some (.int .i64 (Y i)) ∧ w'.cell? ⟨w.heap.size + 1, k * 3, none⟩ = some (.bool (N k)) ∧ w'.cell? ⟨w.heap.size + 1, k * 3 + 1, none⟩ = some (.int .u64 (X k)) ∧ w'.cell? ⟨w.heap.size + 1, k * 3 + 2, none⟩ = some (.int .i64 (Y k)) ∧ In2 w w5.heap.size N X Y C (i * 3 + (k + 1)) w')
                    (first | exact In2.cells HS2.out hlt hkt | exact In2.cells (Hid.out (by assumption)) hlt hkt)
                    (first | (go_at_call 21; refine (HLK.out _ (by assumption) _ (In2.of (by assumption))).mono ?_; rintro e w8 ⟨rfl, hb8⟩; have HB8 := Lib.hid hb8; clear hb8) | (go_at_call 18; refine (HLD.out _ (In2.of (by assumption))).mono ?_; rintro e w10 ⟨rfl, hb10⟩; have HB10 := Lib.hid hb10; clear hb10))
                  all_goals
                    go_wp2_with fail
                  all_goals
                    exact ⟨⟨k + 1, by go_num, by omega, HB10.out⟩, by simp [intOf]; omega⟩
                · skip
                  go_wp2_with fail
                  go_quiet (fail)
                  clear a0 a1 a2 b0 b1 b2
                  go_wp2_with fail
                  clear m0 mf
                  have HS2 := Lib.hid (HS1.out nq)
                  clear HS1
                  go_region_held3 (fun w' => w'.cell? ⟨w.heap.size + 1, i * 3, none⟩ = some (.bool (N i)) ∧ w'.cell? ⟨w.heap.size + 1, i * 3 + 1, none⟩ = some (.int .u64 (X i)) ∧ w'.cell? ⟨w.heap.size + 1, i * 3 + 2, none⟩ = some (.int .i64 (Y i)) ∧ w'.cell? ⟨w.heap.size + 1, k * 3, none⟩ = some (.bool (N k)) ∧ w'.cell? ⟨w.heap.size + 1, k * 3 + 1, none⟩ = some (.int .u64 (X k)) ∧ w'.cell? ⟨w.heap.size + 1, k * 3 + 2, none⟩ = some (.int .i64 (Y k)) ∧ In2 w w5.heap.size N X Y C (i * 3 + (k + 1)) w')
                    (first | exact In2.cells HS2.out hlt hkt | exact In2.cells (Hid.out (by assumption)) hlt hkt)
                    (first | (go_at_call 21; refine (HLK.out _ (by assumption) _ (In2.of (by assumption))).mono ?_; rintro e w8 ⟨rfl, hb8⟩; have HB8 := Lib.hid hb8; clear hb8) | (go_at_call 18; refine (HLD.out _ (In2.of (by assumption))).mono ?_; rintro e w10 ⟨rfl, hb10⟩; have HB10 := Lib.hid hb10; clear hb10))
                  all_goals
                    go_wp2_with fail
                  all_goals
                    exact ⟨⟨k + 1, by go_num, by omega, HB10.out⟩, by simp [intOf]; omega⟩
                · rw [e1] at a0
                  clear e1
                  go_wp2_with fail
                  go_quiet (fail)
                  clear a0 a1 a2 b0 b1 b2
                  go_wp2_with fail
                  clear m0 mf
                  have HS2 := Lib.hid (HS1.out nq)
                  clear HS1
                  go_region_held3 (fun w' => w'.cell? ⟨w.heap.size + 1, i * 3, none⟩ = some (.bool (N i)) ∧ w'.cell? ⟨w.heap.size + 1, i * 3 + 1, none⟩ = some (.int .u64 (X i)) ∧ w'.cell? ⟨w.heap.size + 1, i * 3 + 2, none⟩ = some (.int .i64 (Y i)) ∧ w'.cell? ⟨w.heap.size + 1, k * 3, none⟩ = some (.bool (N k)) ∧ w'.cell? ⟨w.heap.size + 1, k * 3 + 1, none⟩ = some (.int .u64 (X k)) ∧ w'.cell? ⟨w.heap.size + 1, k * 3 + 2, none⟩ = some (.int .i64 (Y k)) ∧ In2 w w5.heap.size N X Y C (i * 3 + (k + 1)) w')
                    (first | exact In2.cells HS2.out hlt hkt | exact In2.cells (Hid.out (by assumption)) hlt hkt)
                    (first | (go_at_call 21; refine (HLK.out _ (by assumption) _ (In2.of (by assumption))).mono ?_; rintro e w8 ⟨rfl, hb8⟩; have HB8 := Lib.hid hb8; clear hb8) | (go_at_call 18; refine (HLD.out _ (In2.of (by assumption))).mono ?_; rintro e w10 ⟨rfl, hb10⟩; have HB10 := Lib.hid hb10; clear hb10))
                  all_goals
                    go_wp2_with fail
                  all_goals
                    exact ⟨⟨k + 1, by go_num, by omega, HB10.out⟩, by simp [intOf]; omega⟩
                · rw [e1] at a0
                  rw [e2] at a1
                  clear e1 e2
                  go_wp2_with fail
                  go_quiet (fail)
                  clear a0 a1 a2 b0 b1 b2
                  go_wp2_with fail
                  clear m0 mf
                  have HS2 := Lib.hid (HS1.out nq)
                  clear HS1
                  go_region_held3 (fun w' => w'.cell? ⟨w.heap.size + 1, i * 3, none⟩ = some (.bool (N i)) ∧ w'.cell? ⟨w.heap.size + 1, i * 3 + 1, none⟩ = some (.int .u64 (X i)) ∧ w'.cell? ⟨w.heap.size + 1, i * 3 + 2, none⟩ = some (.int .i64 (Y i)) ∧ w'.cell? ⟨w.heap.size + 1, k * 3, none⟩ = some (.bool (N k)) ∧ w'.cell? ⟨w.heap.size + 1, k * 3 + 1, none⟩ = some (.int .u64 (X k)) ∧ w'.cell? ⟨w.heap.size + 1, k * 3 + 2, none⟩ = some (.int .i64 (Y k)) ∧ In2 w w5.heap.size N X Y C (i * 3 + (k + 1)) w')
                    (first | exact In2.cells HS2.out hlt hkt | exact In2.cells (Hid.out (by assumption)) hlt hkt)
                    (first | (go_at_call 21; refine (HLK.out _ (by assumption) _ (In2.of (by assumption))).mono ?_; rintro e w8 ⟨rfl, hb8⟩; have HB8 := Lib.hid hb8; clear hb8) | (go_at_call 18; refine (HLD.out _ (In2.of (by assumption))).mono ?_; rintro e w10 ⟨rfl, hb10⟩; have HB10 := Lib.hid hb10; clear hb10))
                  all_goals
                    go_wp2_with fail
                  all_goals
                    exact ⟨⟨k + 1, by go_num, by omega, HB10.out⟩, by simp [intOf]; omega⟩
            · obtain rfl : 3 = k := by omega
              have H6 := Lib.hid (show In2 w w5.heap.size N X Y C ((i + 1) * 3) wr by rw [Nat.succ_mul]; exact HK.out)
              clear HK
              go_wp2_with fail
              exact ⟨⟨i + 1, by go_num, by omega, H6.out⟩, by simp [intOf]; omega⟩
        · obtain rfl : 3 = i := by omega
          obtain ⟨w6, hw6⟩ : ∃ w6, w6 = wr := ⟨_, rfl⟩
          subst hw6
          obtain ⟨M, hM, hMC⟩ := HI.out.mat
          have hcell : ∀ i k, i < 3 → k < 3 → ∀ W, Same w6 W → W.cell? ⟨w5.heap.size, i * 3 + k, none⟩ = some (.int .i64 (C i k)) := by
            intro i k hi hk W hW
            rw [hW.cell, ints9_at hM hi hk, hMC _ (by omega), show (i * 3 + k) / 3 = i by omega, show (i * 3 + k) % 3 = k by omega]
          have HCE := Lib.hid hcell
          have H6 := Lib.hid HI.out.kept
          clear hcell hM hMC HI HL HCC HDD HSS
          go_wp2_with fail
          go_loopw [14] (fun v14 wr => ∃ i : Nat, v14 = .int .i64 i ∧ i ≤ 3 ∧ Hid (Same w6 wr)) (fun v14 _ => 3 - (intOf v14).toNat)
          case atStart => exact ⟨0, rfl, by omega, Same.refl _⟩
          case round =>
            obtain ⟨i, rfl, hi, HI⟩ := hrel
            by_cases hlt : i < 3
            · obtain ⟨w7, hw7⟩ : ∃ w7, w7 = wr := ⟨_, rfl⟩
              subst hw7
              have hi3 : (i : Int) < 3 := by omega
              have hi0 : (0 : Int) ≤ (i : Int) := by omega
              go_wp2_with fail
              go_loopw [15] (fun v15 wr => ∃ k : Nat, v15 = .int .i64 k ∧ k ≤ 3 ∧ Hid (Same w6 wr)) (fun v15 _ => 3 - (intOf v15).toNat)
              case atStart => exact ⟨0, rfl, by omega, HI.out⟩
              case round =>
                obtain ⟨k, rfl, hk, HK⟩ := hrel
                clear HI
                by_cases hkt : k < 3
                · have hk3 : (k : Int) < 3 := by omega
                  have hk0 : (0 : Int) ≤ (k : Int) := by omega
                  have r0 := HCE.out i k hlt hkt wr HK.out
                  have r1 := HCE.out k i hkt hlt wr HK.out
                  rw [HM.out.2.2.1 i k] at r0
                  obtain ⟨c, hc⟩ : ∃ c, C k i = c := ⟨_, rfl⟩
                  have hc1 : -1 ≤ c ∧ c ≤ 1 := by rw [← hc]; exact HM.out.1 k i
                  rw [hc] at r0 r1
                  have hw : IntKind.i64.wrap (-c) = -c := by rw [IntKind.wrap_i64]; omega
                  clear hc hc1
                  go_wp2_with fail
                  go_quiet (fail)
                  clear r0 r1
                  have H8 := Lib.hid (HK.out.trans (Same.drewN wr nq))
                  obtain ⟨w8, hw8⟩ : ∃ w8, w8 = wr.drewN nq := ⟨_, rfl⟩
                  rw [← hw8] at H8 ⊢
                  clear hw8 HK hw
                  go_wp2_with fail
                  go_loopw [16] (fun v16 wr => ∃ j : Nat, v16 = .int .i64 j ∧ j ≤ 3 ∧ w8 = wr) (fun v16 _ => 3 - (intOf v16).toNat)
                  case atStart => exact ⟨0, rfl, by omega, rfl⟩
                  case round =>
                    obtain ⟨j, rfl, hj, rfl⟩ := hrel
                    by_cases hjt : j < 3
                    · have hj3 : (j : Int) < 3 := by omega
                      have hj0 : (0 : Int) ≤ (j : Int) := by omega
                      have r0 := HCE.out i k hlt hkt w8 H8.out
                      have r1 := HCE.out k j hkt hjt w8 H8.out
                      have r2 := HCE.out i j hlt hjt w8 H8.out
                      have htr := HM.out.2.2.2 i k j
                      generalize C i k = a at r0 htr
                      generalize C k j = b at r1 htr
                      generalize C i j = d at r2 htr
                      have hf : ¬ a ≤ 0 ∨ (a ≤ 0 ∧ ¬ b ≤ 0) ∨ (a ≤ 0 ∧ b ≤ 0 ∧ ¬ 0 < d) := by omega
                      clear htr
                      rcases hf with f1 | ⟨f1, f2⟩ | ⟨f1, f2, f3⟩
                      all_goals
                        go_wp2_with fail
                        exact ⟨⟨j + 1, by go_num, by omega, by trivial⟩, by simp [intOf]; omega⟩
                    · obtain rfl : 3 = j := by omega
                      go_wp2_with fail
                      exact ⟨⟨k + 1, by go_num, by omega, H8.out⟩, by simp [intOf]; omega⟩
                · obtain rfl : 3 = k := by omega
                  go_wp2_with fail
                  exact ⟨⟨i + 1, by go_num, by omega, HK.out⟩, by simp [intOf]; omega⟩
            · obtain rfl : 3 = i := by omega
              have H9 := Lib.hid (H6.out.trans HI.out.below)
              clear HI H6
              go_wp2_with fail
              refine (awake_calls _ (HT.out.keep H9.out)).mono ?_
              rintro e w9 ⟨rfl, hb⟩
              have H10 := Lib.hid (below_then H9.out hb)
              clear hb H9
              go_wp2_with fail
              go_ret
              exact ⟨rfl, H10.out⟩
end Go.Proofs.YtmlandoecgldaaaDoor
