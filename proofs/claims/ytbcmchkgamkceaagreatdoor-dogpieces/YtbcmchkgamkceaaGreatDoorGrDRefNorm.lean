/-
  DRefNorm, DRefNorm2. No statement of the seat is proved here.
-/
import Derived.Test.YtbcmchkgamkceaaGreatDoorGrNText
import Derived.Test.YtbcmchkgamkceaaGreatDoorDRefDigits
import Derived.Deep.RegionHeld3
/-
  Contracts of the document's Normal and Check. No statement of the seat is proved here.
-/
namespace Go.Proofs.YtbcmchkgamkceaaGreatDoor.Dc
open Go.RowKit

theorem made_normal (d : D) : made d.neg (val (Lib.decDigits d.c)) d.e = (nVal d, (normal d).isSome) := by
  rw [(val_decDigits d.c).1]
  unfold made nVal normal
  cases norm d.c d.e <;> rfl

/-- A variable is laid before, or behind, a call that only makes memory. -/
theorem lay1 {w w3 : World} {x y z : Value} {k : Nat} (hb : Below ((w.alloc (.cells #[x, y, z] 51)).drewN k).heap.size ((w.alloc (.cells #[x, y, z] 51)).drewN k) w3) :
    Box w3 w.heap.size 51 [x, y, z] ∧ Below w.heap.size w w3 := by
  have h1 := (Box.new w 51 [x, y, z]).same (Same.drewN _ k)
  exact ⟨h1.keep hb, below_then (((Below.refl _ _).alloc (Nat.le_refl _) _).trans (Same.below (Same.drewN _ k))) hb⟩
theorem lay2 {w w3 : World} {x y z : Value} {k : Nat} {o : List Value} (hb : Below (((w.alloc (.cells #[x, y, z] 51)).drewN k).alloc (.cells o.toArray 51)).heap.size (((w.alloc (.cells #[x, y, z] 51)).drewN k).alloc (.cells o.toArray 51)) w3) :
    Box w3 w.heap.size 51 [x, y, z] ∧ Below w.heap.size w w3 ∧ Box w3 (w.heap.size + 1) 51 o := by
  have h1 := ((Box.new w 51 [x, y, z]).same (Same.drewN _ k)).alloc (.cells o.toArray 51)
  have h2 := Box.new ((w.alloc (.cells #[x, y, z] 51)).drewN k) 51 o
  have e : ((w.alloc (.cells #[x, y, z] 51)).drewN k).heap.size = w.heap.size + 1 := size_alloc _ _
  rw [e] at h2
  have h3 : Below w.heap.size w (((w.alloc (.cells #[x, y, z] 51)).drewN k).alloc (.cells o.toArray 51)) := (((Below.refl _ _).alloc (Nat.le_refl _) _).trans (Same.below (Same.drewN _ k))).alloc (by rw [e]; omega) _
  exact ⟨h1.keep hb, below_then h3 hb, h2.keep hb⟩

end Go.Proofs.YtbcmchkgamkceaaGreatDoor.Dc

/-
  Contract of the document's Normal. No statement of the seat is proved here.
-/
namespace Go.Proofs.YtbcmchkgamkceaaGreatDoor.Dc
open Go.RowKit

theorem lay3 {w w3 : World} {x y z : Value} {o : List Value} {k : Nat} (hb : Below (((w.alloc (.cells #[x, y, z] 51)).alloc (.cells o.toArray 51)).drewN k).heap.size (((w.alloc (.cells #[x, y, z] 51)).alloc (.cells o.toArray 51)).drewN k) w3) :
    Box w3 w.heap.size 51 [x, y, z] ∧ Below w.heap.size w w3 ∧ Box w3 (w.heap.size + 1) 51 o := by
  have h1 := ((Box.new w 51 [x, y, z]).alloc (.cells o.toArray 51)).same (Same.drewN _ k)
  have h2 := Box.new (w.alloc (.cells #[x, y, z] 51)) 51 o
  rw [size_alloc] at h2
  have h3 : Below w.heap.size w ((w.alloc (.cells #[x, y, z] 51)).alloc (.cells o.toArray 51)) := ((Below.refl _ _).alloc (Nat.le_refl _) _).alloc (by simp) _
  exact ⟨h1.keep hb, below_then (h3.trans (Same.below (Same.drewN _ k))) hb, (h2.same (Same.drewN _ k)).keep hb⟩
theorem lay4 {w w3 : World} {x y z : Value} {o o' : List Value} {k : Nat} (hb : Below ((((w.alloc (.cells #[x, y, z] 51)).alloc (.cells o.toArray 51)).drewN k).alloc (.cells o'.toArray 51)).heap.size ((((w.alloc (.cells #[x, y, z] 51)).alloc (.cells o.toArray 51)).drewN k).alloc (.cells o'.toArray 51)) w3) :
    Box w3 w.heap.size 51 [x, y, z] ∧ Below w.heap.size w w3 ∧ Box w3 (w.heap.size + 1) 51 o ∧ Box w3 (w.heap.size + 2) 51 o' := by
  have e : (((w.alloc (.cells #[x, y, z] 51)).alloc (.cells o.toArray 51)).drewN k).heap.size = w.heap.size + 2 := by
    show ((w.alloc (.cells #[x, y, z] 51)).alloc (.cells o.toArray 51)).heap.size = _
    rw [size_alloc, size_alloc]
  have hb' : Below (((w.alloc (.cells #[x, y, z] 51)).alloc (.cells o.toArray 51)).drewN k).heap.size (((w.alloc (.cells #[x, y, z] 51)).alloc (.cells o.toArray 51)).drewN k) w3 := below_then ((Below.refl _ _).alloc (Nat.le_refl _) _) hb
  obtain ⟨h1, h2, h3⟩ := lay3 hb'
  have h4 := Box.new (((w.alloc (.cells #[x, y, z] 51)).alloc (.cells o.toArray 51)).drewN k) 51 o'
  rw [e] at h4
  exact ⟨h1, h2, h3, h4.keep hb⟩

set_option maxRecDepth 100000 in
set_option maxHeartbeats 8000000 in
theorem rnormal_calls (d : D) (hf : d.Fits) (w : World) : Calls Tryz.prog 29 #[dV d] w fun e w' => e = .returned (.tuple #[dV (nVal d), .int .i64 (nErr d)]) ∧ Below w.heap.size w w' := by
  obtain ⟨x, hx⟩ : ∃ x : Int, x = (d.c : Int) := ⟨_, rfl⟩
  obtain ⟨y, hy⟩ : ∃ y : Int, y = d.e := ⟨_, rfl⟩
  obtain ⟨n, hn⟩ : ∃ n : Bool, n = d.neg := ⟨_, rfl⟩
  obtain ⟨x', hx'⟩ : ∃ x : Int, x = ((nVal d).c : Int) := ⟨_, rfl⟩
  obtain ⟨y', hy'⟩ : ∃ y : Int, y = (nVal d).e := ⟨_, rfl⟩
  obtain ⟨n', hn'⟩ : ∃ n : Bool, n = (nVal d).neg := ⟨_, rfl⟩
  obtain ⟨P, hP⟩ : ∃ P : ByteArray, P = ⟨(Lib.decDigits d.c).toArray⟩ := ⟨_, rfl⟩
  have hPs : Str P (Lib.decDigits d.c) := by rw [hP]; exact Str.mk _
  have hdg := fun W => digits_calls d.c hf.c W
  have hmk := fun W => make_calls d.neg P (Lib.decDigits d.c) hPs (val_decDigits d.c).2 (by have := decDigits_len20 hf.c; omega) d.e hf.lo hf.hi W
  rw [made_normal d] at hmk
  unfold dV at hmk ⊢
  simp only [← hP, ← hx] at hdg
  simp only [← hx', ← hy', ← hn', ← hn, ← hy] at hmk
  obtain ⟨ok, hok⟩ : ∃ ok, ok = (normal d).isSome := ⟨_, rfl⟩
  simp only [← hok] at hmk
  have hE : nErr d = if ok then 0 else 10 := by unfold nErr; rw [hok]
  have h0 : ok = false → n' = false ∧ x' = 0 ∧ y' = 0 := fun h => by
    have hnone : normal d = none := by
      cases hq : normal d with
      | none => rfl
      | some q => rw [hq] at hok; rw [h] at hok; cases hok
    have hv : nVal d = D0 := by unfold nVal; rw [hnone]; rfl
    rw [hv] at hx' hy' hn'
    exact ⟨hn', hx', hy'⟩
  rw [← hx, ← hy, ← hn, ← hx', ← hy', ← hn', hE]
  have HDG := Lib.hid hdg
  have HMK := Lib.hid hmk
  have H0 := Lib.hid h0
  clear h0 hf hx hy hn hx' hy' hn' hdg hmk hP hPs hok hE
  go_enter Tryz.func29, Tryz.ntmps29
  go_wp2_with fail
  go_region_held3 (fun w' => w'.cell? ⟨w.heap.size, 0, none⟩ = some (.bool n) ∧ w'.cell? ⟨w.heap.size, 1, none⟩ = some (.int .u64 x) ∧ w'.cell? ⟨w.heap.size, 2, none⟩ = some (.int .i64 y))
    (first | exact ⟨by assumption, by assumption, by assumption⟩ | (simp [go_sem, *]; done) | (trace "NOKEEP"; trace_state))
    (first | (go_at_call 62; refine (HDG.out _).mono ?_; rintro e w2 ⟨rfl, kk, rfl⟩) | (go_at_call 61; refine (HMK.out _).mono ?_; rintro e w3 ⟨rfl, hb⟩; first
      | (obtain ⟨k1, k3, k2, k4⟩ := lay4 (o := [.bool false, .int .u64 0, .int .i64 0]) (o' := [.bool false, .int .u64 0, .int .i64 0]) hb; have x0 := k1.cell 0; have x1 := k1.cell 1; have x2 := k1.cell 2; have r0 := k4.cell 0; have r1 := k4.cell 1; have r2 := k4.cell 2; have q0 := k2.cell 0; have q1 := k2.cell 1; have q2 := k2.cell 2; simp only [List.getElem?_cons_zero, List.getElem?_cons_succ] at x0 x1 x2 r0 r1 r2 q0 q1 q2; have g0 := k4.frozen 0; have g1 := k4.frozen 1; have g2 := k4.frozen 2; have e0 := k2.frozen 0; have e1 := k2.frozen 1; have e2 := k2.frozen 2; have HK3 := Lib.hid (And.intro k3 (And.intro k2 k4)); clear k1 k2 k3 k4 hb)
      | (obtain ⟨k1, k3, k2⟩ := lay3 (o := [.bool false, .int .u64 0, .int .i64 0]) hb; have x0 := k1.cell 0; have x1 := k1.cell 1; have x2 := k1.cell 2; have k2' := k2.alloc (.cells #[.bool n', .int .u64 x', .int .i64 y'] 51); have q0 := k2'.cell 0; have q1 := k2'.cell 1; have q2 := k2'.cell 2; simp only [List.getElem?_cons_zero, List.getElem?_cons_succ] at x0 x1 x2 q0 q1 q2; have e0 := k2'.frozen 0; have e1 := k2'.frozen 1; have e2 := k2'.frozen 2; have hlt := k1.lt; have HK3 := Lib.hid (And.intro k3 k2); clear k1 k2 k2' k3 hb)
      | (trace "NOLAY"; trace_state)))
  · clear x0 x1 x2
    cases ok
    · go_wp2_with fail
      refine ret_dec rfl rfl rfl rfl ((((HK3.out.2.alloc _).set 0 _).set 1 _).set 2 _) ⟨?_, below_set (below_set (below_set (HK3.out.1.alloc HK3.out.1.size _) (by omega) _ _) (by omega) _ _) (by omega) _ _⟩
      obtain ⟨e1, e2, e3⟩ := H0.out (by trivial)
      rw [e1, e2, e3]
      rfl
    · go_wp2_with fail
      refine ret_dec rfl rfl rfl rfl ((((HK3.out.2.alloc _).set 0 _).set 1 _).set 2 _) ⟨?_, below_set (below_set (below_set (HK3.out.1.alloc HK3.out.1.size _) (by omega) _ _) (by omega) _ _) (by omega) _ _⟩
      rfl
  · have c1 := ((HK3.out.2.1.far (q := ⟨w.heap.size + 1 + 1, 0, none⟩) (by show w.heap.size + 1 ≠ w.heap.size + 1 + 1; omega) (.bool n')).far (q := ⟨w.heap.size + 1 + 1, 1, none⟩) (by show w.heap.size + 1 ≠ w.heap.size + 1 + 1; omega) (.int .u64 x')).far (q := ⟨w.heap.size + 1 + 1, 2, none⟩) (by show w.heap.size + 1 ≠ w.heap.size + 1 + 1; omega) (.int .i64 y')
    have c2 : Box (((w3.setCell ⟨w.heap.size + 1 + 1, 0, none⟩ (.bool n')).setCell ⟨w.heap.size + 1 + 1, 1, none⟩ (.int .u64 x')).setCell ⟨w.heap.size + 1 + 1, 2, none⟩ (.int .i64 y')) (w.heap.size + 1 + 1) 51 [.bool n', .int .u64 x', .int .i64 y'] := ((HK3.out.2.2.set 0 _).set 1 _).set 2 _
    have c3 := below_set (below_set (below_set HK3.out.1 (show w.heap.size ≤ w.heap.size + 1 + 1 by omega) 0 (.bool n')) (show w.heap.size ≤ w.heap.size + 1 + 1 by omega) 1 (.int .u64 x')) (show w.heap.size ≤ w.heap.size + 1 + 1 by omega) 2 (.int .i64 y')
    generalize ((w3.setCell ⟨w.heap.size + 1 + 1, 0, none⟩ (.bool n')).setCell ⟨w.heap.size + 1 + 1, 1, none⟩ (.int .u64 x')).setCell ⟨w.heap.size + 1 + 1, 2, none⟩ (.int .i64 y') = W4 at c1 c2 c3 ⊢
    clear x0 x1 x2 r0 r1 r2 q0 q1 q2 g0 g1 g2 e0 e1 e2
    have r0 := c2.cell 0
    have r1 := c2.cell 1
    have r2 := c2.cell 2
    have q0 := c1.cell 0
    have q1 := c1.cell 1
    have q2 := c1.cell 2
    simp only [List.getElem?_cons_zero, List.getElem?_cons_succ] at r0 r1 r2 q0 q1 q2
    have e0 := c1.frozen 0
    have e1 := c1.frozen 1
    have e2 := c1.frozen 2
    have HC := Lib.hid (And.intro c1 c3)
    clear c1 c2 c3
    cases ok
    · go_wp2_with fail
      refine ret_dec rfl rfl rfl rfl (((HC.out.1.set 0 _).set 1 _).set 2 _) ⟨?_, below_set (below_set (below_set HC.out.2 (by omega) _ _) (by omega) _ _) (by omega) _ _⟩
      obtain ⟨e1, e2, e3⟩ := H0.out (by trivial)
      rw [e1, e2, e3]
      rfl
    · go_wp2_with fail
      refine ret_dec rfl rfl rfl rfl (((HC.out.1.set 0 _).set 1 _).set 2 _) ⟨?_, below_set (below_set (below_set HC.out.2 (by omega) _ _) (by omega) _ _) (by omega) _ _⟩
      rfl
  · have c1 := ((HK3.out.2.1.far (q := ⟨w.heap.size + 1 + 1, 0, none⟩) (by show w.heap.size + 1 ≠ w.heap.size + 1 + 1; omega) (.bool n')).far (q := ⟨w.heap.size + 1 + 1, 1, none⟩) (by show w.heap.size + 1 ≠ w.heap.size + 1 + 1; omega) (.int .u64 x')).far (q := ⟨w.heap.size + 1 + 1, 2, none⟩) (by show w.heap.size + 1 ≠ w.heap.size + 1 + 1; omega) (.int .i64 y')
    have c2 : Box (((w3.setCell ⟨w.heap.size + 1 + 1, 0, none⟩ (.bool n')).setCell ⟨w.heap.size + 1 + 1, 1, none⟩ (.int .u64 x')).setCell ⟨w.heap.size + 1 + 1, 2, none⟩ (.int .i64 y')) (w.heap.size + 1 + 1) 51 [.bool n', .int .u64 x', .int .i64 y'] := ((HK3.out.2.2.set 0 _).set 1 _).set 2 _
    have c3 := below_set (below_set (below_set HK3.out.1 (show w.heap.size ≤ w.heap.size + 1 + 1 by omega) 0 (.bool n')) (show w.heap.size ≤ w.heap.size + 1 + 1 by omega) 1 (.int .u64 x')) (show w.heap.size ≤ w.heap.size + 1 + 1 by omega) 2 (.int .i64 y')
    generalize ((w3.setCell ⟨w.heap.size + 1 + 1, 0, none⟩ (.bool n')).setCell ⟨w.heap.size + 1 + 1, 1, none⟩ (.int .u64 x')).setCell ⟨w.heap.size + 1 + 1, 2, none⟩ (.int .i64 y') = W4 at c1 c2 c3 ⊢
    clear x0 x1 x2 r0 r1 r2 q0 q1 q2 g0 g1 g2 e0 e1 e2
    have r0 := c2.cell 0
    have r1 := c2.cell 1
    have r2 := c2.cell 2
    have q0 := c1.cell 0
    have q1 := c1.cell 1
    have q2 := c1.cell 2
    simp only [List.getElem?_cons_zero, List.getElem?_cons_succ] at r0 r1 r2 q0 q1 q2
    have e0 := c1.frozen 0
    have e1 := c1.frozen 1
    have e2 := c1.frozen 2
    have HC := Lib.hid (And.intro c1 c3)
    clear c1 c2 c3
    cases ok
    · go_wp2_with fail
      refine ret_dec rfl rfl rfl rfl (((HC.out.1.set 0 _).set 1 _).set 2 _) ⟨?_, below_set (below_set (below_set HC.out.2 (by omega) _ _) (by omega) _ _) (by omega) _ _⟩
      obtain ⟨e1, e2, e3⟩ := H0.out (by trivial)
      rw [e1, e2, e3]
      rfl
    · go_wp2_with fail
      refine ret_dec rfl rfl rfl rfl (((HC.out.1.set 0 _).set 1 _).set 2 _) ⟨?_, below_set (below_set (below_set HC.out.2 (by omega) _ _) (by omega) _ _) (by omega) _ _⟩
      rfl
end Go.Proofs.YtbcmchkgamkceaaGreatDoor.Dc
