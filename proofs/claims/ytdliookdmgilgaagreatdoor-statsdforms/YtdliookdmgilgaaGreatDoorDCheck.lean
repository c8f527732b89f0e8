/-
  Contract of package dec's Check. No statement of the seat is proved here.
-/
import Derived.Test.YtdliookdmgilgaaGreatDoorGrDigs
namespace Go.Proofs.YtdliookdmgilgaaGreatDoor.Dc
open Go.RowKit

set_option maxRecDepth 100000 in
set_option maxHeartbeats 2000000 in
theorem check_calls (d : D) (hf : d.Fits) (w : World) : Calls Tryz.prog 48 #[dV d] w fun e w' => e = .returned (.int .i64 (check d)) ∧ Below w.heap.size w w' := by
  obtain ⟨x, hx⟩ : ∃ x : Int, x = (d.c : Int) := ⟨_, rfl⟩
  obtain ⟨y, hy⟩ : ∃ y : Int, y = d.e := ⟨_, rfl⟩
  obtain ⟨n, hn⟩ : ∃ n : Bool, n = d.neg := ⟨_, rfl⟩
  have hx0 : 0 ≤ x := by omega
  have HN0 := normal_calls d hf (w.alloc (.cells #[.bool n, .int .u64 x, .int .i64 y] 50))
  obtain ⟨x', hx'⟩ : ∃ x : Int, x = ((nVal d).c : Int) := ⟨_, rfl⟩
  obtain ⟨y', hy'⟩ : ∃ y : Int, y = (nVal d).e := ⟨_, rfl⟩
  obtain ⟨n', hn'⟩ : ∃ n : Bool, n = (nVal d).neg := ⟨_, rfl⟩
  unfold dV at HN0 ⊢
  rw [← hx, ← hy, ← hn, ← hx', ← hy', ← hn'] at HN0
  rw [← hx, ← hy, ← hn]
  have HNO := Lib.hid HN0
  have HE := Lib.hid (And.intro hf (And.intro (And.intro hx (And.intro hy hn)) (And.intro hx' (And.intro hy' hn'))))
  clear hf hx hy hn hx' hy' hn' HN0
  go_enter Tryz.func48, Tryz.ntmps48
  by_cases hr : x ≠ 0 ∧ (y < -18 ∨ 18 < y)
  · have hc : check d = 10 := by
      obtain ⟨_, ⟨h1, h2, _⟩, _⟩ := HE.out
      unfold check; rw [if_pos]; exact ⟨by omega, by omega⟩
    rw [hc]
    obtain ⟨h0, h1⟩ := hr
    rcases h1 with h1 | h1
    · go_wp2_with fail
      go_ret
      exact ⟨rfl, (Below.refl _ _).alloc (Nat.le_refl _) _⟩
    · have h2 : ¬ y < -18 := by omega
      go_wp2_with fail
      go_ret
      exact ⟨rfl, (Below.refl _ _).alloc (Nat.le_refl _) _⟩
  · have hr2 : x = 0 ∨ (x ≠ 0 ∧ ¬ y < -18 ∧ ¬ 18 < y) := by omega
    have HR := Lib.hid hr
    clear hr
    have hcell := Box.new w 50 [.bool n, .int .u64 x, .int .i64 y]
    have hchk : check d = if n' = n ∧ x' = x ∧ y' = y then 0 else 21 := by
      obtain ⟨hf, ⟨h1, h2, h3⟩, h4, h5, h6⟩ := HE.out
      have hr := HR.out
      have : ∃ m, normal d = some m := by
        unfold normal
        rcases Nat.eq_zero_or_pos d.c with h0 | h0
        · rw [h0, norm_zero]; exact ⟨_, rfl⟩
        · obtain ⟨p, hp⟩ := norm_some (e := d.e) hf.c (by omega) (by omega)
          rw [hp]; exact ⟨_, rfl⟩
      obtain ⟨m, hm⟩ := this
      have hv : nVal d = m := by unfold nVal; rw [hm]; rfl
      rw [hv] at h4 h5 h6
      unfold check
      rw [if_neg (by omega), hm]
      by_cases he : m = d
      · subst he
        rw [if_pos rfl, if_pos ⟨by rw [h6, h3], by omega, by omega⟩]
      · rw [if_neg (fun h => he (by injection h)), if_neg]
        rintro ⟨k1, k2, k3⟩
        exact he (D.ext' (by rw [← h6, ← h3, k1]) (by omega) (by omega))
    have HCK := Lib.hid hchk
    clear hchk HR HE
    rcases hr2 with rfl | ⟨h0, h1, h2⟩
    all_goals
      go_wp2_with fail
      refine HNO.out.mono ?_
      rintro e w1 ⟨rfl, hb⟩
      have b1 := hcell.keep hb
      clear hcell HNO
      have hb2 := Below.trans ((Below.refl _ _).alloc (Nat.le_refl _) _) (hb.mono (by simp))
      have HB := Lib.hid hb2
      have c0 := b1.cell 0
      have c1 := b1.cell 1
      have c2 := b1.cell 2
      simp only [List.getElem?_cons_zero, List.getElem?_cons_succ] at c0 c1 c2
      have hlt := b1.lt
      have hne : w1.heap.size ≠ w.heap.size := by omega
      clear hb hb2 b1
      go_wp2_with fail
    all_goals
      have hck := HCK.out
      have hbe := HB.out
      clear HCK HB c0 c1 c2 hne
      go_ret
      refine ⟨congrArg (fun z => Ending.returned (Value.int .i64 z)) (hck.trans ?_).symm, hbe.alloc hbe.size _⟩
      clear hck hbe
      split
      · first | rfl | (exfalso; simp_all)
      · first | rfl | (exfalso; simp_all)
end Go.Proofs.YtdliookdmgilgaaGreatDoor.Dc
