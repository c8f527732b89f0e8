/-
  DRefNorm, DRefNorm2. No statement of the seat is proved here.
-/
import Derived.Test.YtmaiggoinjldpaaGreatDoorDRefMake
import Derived.Test.YtmaiggoinjldpaaGreatDoorDRefDigits
import Derived.Deep.RegionHeld3
/-
  Contracts of the document's Normal and Check. No statement of the seat is proved here.
-/
namespace Go.Proofs.YtmaiggoinjldpaaGreatDoor.Dc
open Go.RowKit

theorem made_normal (d : D) : made d.neg (val (Lib.decDigits d.c)) d.e = (nVal d, (normal d).isSome) := by
  rw [(val_decDigits d.c).1]
  unfold made nVal normal
  cases norm d.c d.e <;> rfl

/-- A variable is laid before, or behind, a call that only makes memory. -/
theorem lay1 {w w3 : World} {x y z : Value} {k : Nat} (hb : Below ((w.alloc (.cells #[x, y, z] 41)).drewN k).heap.size ((w.alloc (.cells #[x, y, z] 41)).drewN k) w3) :
    Box w3 w.heap.size 41 [x, y, z] ∧ Below w.heap.size w w3 := by
  have h1 := (Box.new w 41 [x, y, z]).same (Same.drewN _ k)
  exact ⟨h1.keep hb, below_then (((Below.refl _ _).alloc (Nat.le_refl _) _).trans (Same.below (Same.drewN _ k))) hb⟩
theorem lay2 {w w3 : World} {x y z : Value} {k : Nat} {o : List Value} (hb : Below (((w.alloc (.cells #[x, y, z] 41)).drewN k).alloc (.cells o.toArray 41)).heap.size (((w.alloc (.cells #[x, y, z] 41)).drewN k).alloc (.cells o.toArray 41)) w3) :
    Box w3 w.heap.size 41 [x, y, z] ∧ Below w.heap.size w w3 ∧ Box w3 (w.heap.size + 1) 41 o := by
  have h1 := ((Box.new w 41 [x, y, z]).same (Same.drewN _ k)).alloc (.cells o.toArray 41)
  have h2 := Box.new ((w.alloc (.cells #[x, y, z] 41)).drewN k) 41 o
  have e : ((w.alloc (.cells #[x, y, z] 41)).drewN k).heap.size = w.heap.size + 1 := size_alloc _ _
  rw [e] at h2
  have h3 : Below w.heap.size w (((w.alloc (.cells #[x, y, z] 41)).drewN k).alloc (.cells o.toArray 41)) := (((Below.refl _ _).alloc (Nat.le_refl _) _).trans (Same.below (Same.drewN _ k))).alloc (by rw [e]; omega) _
  exact ⟨h1.keep hb, below_then h3 hb, h2.keep hb⟩

set_option maxRecDepth 100000 in
set_option maxHeartbeats 8000000 in
theorem rcheck_calls (d : D) (hf : d.Fits) (w : World) : Calls Tryz.prog 28 #[dV d] w fun e w' => e = .returned (.int .i64 (check d)) ∧ Below w.heap.size w w' := by
  obtain ⟨x, hx⟩ : ∃ x : Int, x = (d.c : Int) := ⟨_, rfl⟩
  obtain ⟨y, hy⟩ : ∃ y : Int, y = d.e := ⟨_, rfl⟩
  obtain ⟨n, hn⟩ : ∃ n : Bool, n = d.neg := ⟨_, rfl⟩
  have hx0 : 0 ≤ x := by omega
  obtain ⟨x', hx'⟩ : ∃ x : Int, x = ((nVal d).c : Int) := ⟨_, rfl⟩
  obtain ⟨y', hy'⟩ : ∃ y : Int, y = (nVal d).e := ⟨_, rfl⟩
  obtain ⟨n', hn'⟩ : ∃ n : Bool, n = (nVal d).neg := ⟨_, rfl⟩
  obtain ⟨P, hP⟩ : ∃ P : ByteArray, P = ⟨(Lib.decDigits d.c).toArray⟩ := ⟨_, rfl⟩
  have hPs : Str P (Lib.decDigits d.c) := by rw [hP]; exact Str.mk _
  have hdg := fun W => digits_calls d.c hf.c W
  have hmk := fun W => make_calls d.neg P (Lib.decDigits d.c) hPs (val_decDigits d.c).2 (by have := decDigits_len20 hf.c; omega) d.e hf.lo hf.hi W
  rw [made_normal d] at hmk
  unfold dV at hmk ⊢
  simp only [← hP, ← hx] at hdg
  simp only [← hx', ← hy', ← hn', ← hn, ← hy] at hmk
  rw [← hx, ← hy, ← hn]
  obtain ⟨ok, hok⟩ : ∃ ok, ok = (normal d).isSome := ⟨_, rfl⟩
  simp only [← hok] at hmk
  have HDG := Lib.hid hdg
  have HMK := Lib.hid hmk
  have HE := Lib.hid (And.intro hf (And.intro (And.intro hx (And.intro hy hn)) (And.intro hx' (And.intro hy' (And.intro hn' hok)))))
  clear hf hx hy hn hx' hy' hn' hdg hmk hP hPs hok
  go_enter Tryz.func28, Tryz.ntmps28
  by_cases hr : x ≠ 0 ∧ (y < -18 ∨ 18 < y)
  · have hc : check d = 10 := by
      obtain ⟨_, ⟨h1, h2, _⟩, _⟩ := HE.out
      unfold check; rw [if_pos]; exact ⟨by omega, by omega⟩
    rw [hc]
    obtain ⟨h0, h1⟩ := hr
    rcases h1 with h1 | h1
    · go_wp2_with fail
      go_ret
      exact ⟨rfl, (Below.refl _ _).alloc (Nat.le_refl _) _⟩
    · have h2 : ¬ y < -18 := by omega
      go_wp2_with fail
      go_ret
      exact ⟨rfl, (Below.refl _ _).alloc (Nat.le_refl _) _⟩
  · have hr2 : x = 0 ∨ (x ≠ 0 ∧ ¬ y < -18 ∧ ¬ 18 < y) := by omega
    have hchk : ok = true ∧ check d = if n' = n ∧ x' = x ∧ y' = y then 0 else 21 := by
      obtain ⟨hf, ⟨h1, h2, h3⟩, h4, h5, h6, h7⟩ := HE.out
      have : ∃ m, normal d = some m := by
        unfold normal
        rcases Nat.eq_zero_or_pos d.c with h0 | h0
        · rw [h0, norm_zero]; exact ⟨_, rfl⟩
        · obtain ⟨p, hp⟩ := norm_some (e := d.e) hf.c (by omega) (by omega)
          rw [hp]; exact ⟨_, rfl⟩
      obtain ⟨m, hm⟩ := this
      have hv : nVal d = m := by unfold nVal; rw [hm]; rfl
      rw [hv] at h4 h5 h6
      refine ⟨by rw [h7, hm]; rfl, ?_⟩
      unfold check
      rw [if_neg (by omega), hm]
      by_cases he : m = d
      · subst he
        rw [if_pos rfl, if_pos ⟨by rw [h6, h3], by omega, by omega⟩]
      · rw [if_neg (fun h => he (by injection h)), if_neg]
        rintro ⟨k1, k2, k3⟩
        exact he (D.ext' (by rw [← h6, ← h3, k1]) (by omega) (by omega))
    obtain ⟨rfl, hchk⟩ := hchk
    have HCK := Lib.hid hchk
    clear hchk hr HE
    rcases hr2 with rfl | ⟨h0, h1, h2⟩
    all_goals
      go_wp2_with fail
    · go_region_held3 (fun w' => w'.cell? ⟨w.heap.size, 0, none⟩ = some (.bool n) ∧ w'.cell? ⟨w.heap.size, 1, none⟩ = some (.int .u64 0) ∧ w'.cell? ⟨w.heap.size, 2, none⟩ = some (.int .i64 y))
        (first | exact ⟨by assumption, by assumption, by assumption⟩ | (simp [go_sem, *]; done) | (trace "NOKEEP"; trace_state))
        (first | (go_at_call 30; refine (HDG.out _).mono ?_; rintro e w2 ⟨rfl, kk, rfl⟩) | (go_at_call 57; refine (HMK.out _).mono ?_; rintro e w3 ⟨rfl, hb⟩; first
          | (obtain ⟨k1, k3, k2⟩ := lay2 (o := [.bool false, .int .u64 0, .int .i64 0]) hb; have x0 := k1.cell 0; have x1 := k1.cell 1; have x2 := k1.cell 2; have r0 := k2.cell 0; have r1 := k2.cell 1; have r2 := k2.cell 2; simp only [List.getElem?_cons_zero, List.getElem?_cons_succ] at x0 x1 x2 r0 r1 r2; have g0 := k2.frozen 0; have g1 := k2.frozen 1; have g2 := k2.frozen 2; have HK3 := Lib.hid k3; clear k1 k2 k3 hb)
          | (obtain ⟨k1, k3⟩ := lay1 hb; have x0 := k1.cell 0; have x1 := k1.cell 1; have x2 := k1.cell 2; simp only [List.getElem?_cons_zero, List.getElem?_cons_succ] at x0 x1 x2; have hlt := k1.lt; have HK3 := Lib.hid k3; clear k1 k3 hb)
          | (trace "NOLAY"; trace_state)))
      all_goals
        go_wp2_with fail
      all_goals
        have hck := HCK.out
        have hbe := HK3.out
        go_ret
        refine ⟨congrArg (fun z => Ending.returned (Value.int .i64 z)) (hck.trans ?_).symm, ?_⟩
        · split
          · first | rfl | (exfalso; simp_all; done)
          · first | rfl | (exfalso; simp_all; done)
        · first
            | exact hbe.alloc hbe.size _
            | exact below_set (below_set (below_set hbe (by omega) _ _) (by omega) _ _) (by omega) _ _
    · go_region_held3 (fun w' => w'.cell? ⟨w.heap.size, 0, none⟩ = some (.bool n) ∧ w'.cell? ⟨w.heap.size, 1, none⟩ = some (.int .u64 x) ∧ w'.cell? ⟨w.heap.size, 2, none⟩ = some (.int .i64 y))
        (first | exact ⟨by assumption, by assumption, by assumption⟩ | (simp [go_sem, *]; done) | (trace "NOKEEP"; trace_state))
        (first | (go_at_call 30; refine (HDG.out _).mono ?_; rintro e w2 ⟨rfl, kk, rfl⟩) | (go_at_call 57; refine (HMK.out _).mono ?_; rintro e w3 ⟨rfl, hb⟩; first
          | (obtain ⟨k1, k3, k2⟩ := lay2 (o := [.bool false, .int .u64 0, .int .i64 0]) hb; have x0 := k1.cell 0; have x1 := k1.cell 1; have x2 := k1.cell 2; have r0 := k2.cell 0; have r1 := k2.cell 1; have r2 := k2.cell 2; simp only [List.getElem?_cons_zero, List.getElem?_cons_succ] at x0 x1 x2 r0 r1 r2; have g0 := k2.frozen 0; have g1 := k2.frozen 1; have g2 := k2.frozen 2; have HK3 := Lib.hid k3; clear k1 k2 k3 hb)
          | (obtain ⟨k1, k3⟩ := lay1 hb; have x0 := k1.cell 0; have x1 := k1.cell 1; have x2 := k1.cell 2; simp only [List.getElem?_cons_zero, List.getElem?_cons_succ] at x0 x1 x2; have hlt := k1.lt; have HK3 := Lib.hid k3; clear k1 k3 hb)
          | (trace "NOLAY"; trace_state)))
      all_goals
        go_wp2_with fail
      all_goals
        have hck := HCK.out
        have hbe := HK3.out
        go_ret
        refine ⟨congrArg (fun z => Ending.returned (Value.int .i64 z)) (hck.trans ?_).symm, ?_⟩
        · split
          · first | rfl | (exfalso; simp_all; done)
          · first | rfl | (exfalso; simp_all; done)
        · first
            | exact hbe.alloc hbe.size _
            | exact below_set (below_set (below_set hbe (by omega) _ _) (by omega) _ _) (by omega) _ _
end Go.Proofs.YtmaiggoinjldpaaGreatDoor.Dc

/-
  Contract of the document's Normal. No statement of the seat is proved here.
-/
namespace Go.Proofs.YtmaiggoinjldpaaGreatDoor.Dc
open Go.RowKit

theorem lay3 {w w3 : World} {x y z : Value} {o : List Value} {k : Nat} (hb : Below (((w.alloc (.cells #[x, y, z] 41)).alloc (.cells o.toArray 41)).drewN k).heap.size (((w.alloc (.cells #[x, y, z] 41)).alloc (.cells o.toArray 41)).drewN k) w3) :
    Box w3 w.heap.size 41 [x, y, z] ∧ Below w.heap.size w w3 ∧ Box w3 (w.heap.size + 1) 41 o := by
  have h1 := ((Box.new w 41 [x, y, z]).alloc (.cells o.toArray 41)).same (Same.drewN _ k)
  have h2 := Box.new (w.alloc (.cells #[x, y, z] 41)) 41 o
  rw [size_alloc] at h2
  have h3 : Below w.heap.size w ((w.alloc (.cells #[x, y, z] 41)).alloc (.cells o.toArray 41)) := ((Below.refl _ _).alloc (Nat.le_refl _) _).alloc (by simp) _
  exact ⟨h1.keep hb, below_then (h3.trans (Same.below (Same.drewN _ k))) hb, (h2.same (Same.drewN _ k)).keep hb⟩
theorem lay4 {w w3 : World} {x y z : Value} {o o' : List Value} {k : Nat} (hb : Below ((((w.alloc (.cells #[x, y, z] 41)).alloc (.cells o.toArray 41)).drewN k).alloc (.cells o'.toArray 41)).heap.size ((((w.alloc (.cells #[x, y, z] 41)).alloc (.cells o.toArray 41)).drewN k).alloc (.cells o'.toArray 41)) w3) :
    Box w3 w.heap.size 41 [x, y, z] ∧ Below w.heap.size w w3 ∧ Box w3 (w.heap.size + 1) 41 o ∧ Box w3 (w.heap.size + 2) 41 o' := by
  have e : (((w.alloc (.cells #[x, y, z] 41)).alloc (.cells o.toArray 41)).drewN k).heap.size = w.heap.size + 2 := by
    show ((w.alloc (.cells #[x, y, z] 41)).alloc (.cells o.toArray 41)).heap.size = _
    rw [size_alloc, size_alloc]
  have hb' : Below (((w.alloc (.cells #[x, y, z] 41)).alloc (.cells o.toArray 41)).drewN k).heap.size (((w.alloc (.cells #[x, y, z] 41)).alloc (.cells o.toArray 41)).drewN k) w3 := below_then ((Below.refl _ _).alloc (Nat.le_refl _) _) hb
  obtain ⟨h1, h2, h3⟩ := lay3 hb'
  have h4 := Box.new (((w.alloc (.cells #[x, y, z] 41)).alloc (.cells o.toArray 41)).drewN k) 41 o'
  rw [e] at h4
  exact ⟨h1, h2, h3, h4.keep hb⟩

end Go.Proofs.YtmaiggoinjldpaaGreatDoor.Dc
