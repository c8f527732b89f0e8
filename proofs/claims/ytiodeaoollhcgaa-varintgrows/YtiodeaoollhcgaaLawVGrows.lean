/-
  The walk through VarintGrows: whatever numbers it is handed, it returns true, and changes nothing that was there. The statement itself is proved in the last text.
-/
import Derived.Test.YtiodeaoollhcgaaVAwake
import Derived.OpenShut
namespace Go.Proofs.Ytiodeaoollhcgaa
open Go.RowKit

/-- Each byte but the last one says that one more comes. -/
theorem digs_flag (n : Nat) : ∀ k, k < (digs n).length → ((k + 1 < (digs n).length ∧ 128 ≤ (digs n).getD k 0) ∨ (¬ k + 1 < (digs n).length ∧ (digs n).getD k 0 < 128)) := by
  induction n using Nat.strongRecOn with
  | _ n ih =>
    intro k hk
    by_cases h : n < 128
    · rw [digs_lt h] at hk ⊢
      simp at hk
      subst hk
      right
      simp
      omega
    · rw [digs_ge (by omega)] at hk ⊢
      rw [List.length_cons] at hk ⊢
      rcases k with _ | k
      · left
        have := digs_pos (n / 128)
        refine ⟨by omega, ?_⟩
        simp
        omega
      · have := ih (n / 128) (by omega) k (by omega)
        simp only [List.getD_cons_succ]
        omega

set_option maxRecDepth 100000 in
set_option maxHeartbeats 4000000 in
theorem grows_walk (a b x y : Nat) (w : World) (hab : a ≤ b) (hb : U64 b) (h : (x = a ∧ y = b ∧ ¬ y < x) ∨ (x = b ∧ y = a ∧ y < x)) :
    Calls Try.prog 8 #[.int .u64 x, .int .u64 y] w fun e w' => e = .returned (.bool true) ∧ Below w.heap.size w w' := by
  have HB := Lib.hid hb
  have ha : U64 a := by unfold U64 at hb ⊢; omega
  have HA := Lib.hid ha
  have hmono := digs_mono hab
  have hten := digs_ten hb
  obtain ⟨ka, hka⟩ : ∃ k, (digs a).length = k := ⟨_, rfl⟩
  obtain ⟨kb, hkb⟩ : ∃ k, (digs b).length = k := ⟨_, rfl⟩
  rw [hka, hkb] at hmono
  rw [hkb] at hten
  have HKA := Lib.hid hka
  have HKB := Lib.hid hkb
  obtain ⟨c, hc⟩ : ∃ c, c = a * 128 := ⟨_, rfl⟩
  have HC := Lib.hid hc
  have hml : ¬ kb < ka := by omega
  have hml' : ¬ (kb : Int) < (ka : Int) := by omega
  have hkk : ((kb : Int) == (kb : Int)) = true := by simp
  clear hb ha hka hkb hc hab
  rcases h with ⟨rfl, rfl, hx⟩ | ⟨rfl, rfl, hx⟩
  · have hx' : ¬ (y : Int) < (x : Int) := by omega
    go_enter Try.func8, Try.ntmps8
    go_wp2_with fail
    refine (len_calls x w HA.out).mono ?_
    rintro e w1 ⟨rfl, rfl⟩
    rw [HKA.out]
    go_wp2_with fail
    refine (len_calls y w HB.out).mono ?_
    rintro e w1 ⟨rfl, rfl⟩
    rw [HKB.out]
    go_wp2_with fail
    refine (put_calls y w HB.out).mono ?_
    rintro e w2 ⟨P, capP, rfl, hown, hb2⟩
    rw [by8_length, HKB.out] at hown
    rw [by8_length, HKB.out]
    have HP := Lib.hid (And.intro (Lies.of_own hown) hb2)
    clear hown hb2 hx hx'
    go_wp2_with fail
    go_loopw [6] (fun i wr => ∃ k : Nat, k ≤ kb ∧ i = .int .i64 k ∧ Same w2 wr) (fun i _ => kb - (intOf i).toNat)
    case atStart => exact ⟨0, Nat.zero_le _, rfl, .refl _⟩
    case round =>
      obtain ⟨k, hk, rfl, hsm⟩ := hrel
      have HSM := Lib.hid hsm
      clear hsm
      by_cases hlt : k < kb
      · obtain ⟨bl, off, hP, hcell⟩ := (HP.out.1.same HSM.out).at_ (i := k) (by rw [by8_length, HKB.out]; exact hlt)
        obtain ⟨z, hz⟩ : ∃ z, (digs y).getD k 0 = z := ⟨_, rfl⟩
        have hcell' : wr.cell? ⟨bl, off + k, none⟩ = some (.int .u8 z) := by
          rw [hcell, ← hz]
          simp [by8, show k < (digs y).length by rw [HKB.out]; exact hlt]
        have hfl := digs_flag y k (by rw [HKB.out]; exact hlt)
        rw [HKB.out, hz] at hfl
        subst hP
        clear hcell hz
        have hlt' : (k : Int) < (kb : Int) := by omega
        have hge' : (0 : Int) ≤ (k : Int) := by omega
        rcases hfl with ⟨f1, f2⟩ | ⟨f1, f2⟩
        · have f1' : (k : Int) < (kb : Int) - 1 := by omega
          go_wp2_with fail
          exact ⟨⟨k + 1, by omega, by go_num, HSM.out⟩, by simp [intOf]; omega⟩
        · have f1' : ¬ (k : Int) < (kb : Int) - 1 := by omega
          have f2' : ¬ (128 : Int) ≤ z := by omega
          go_wp2_with fail
          exact ⟨⟨k + 1, by omega, by go_num, HSM.out⟩, by simp [intOf]; omega⟩
      · obtain rfl : kb = k := by omega
        have hlt' : ¬ (kb : Int) < (kb : Int) := by omega
        have HW := Lib.hid (HP.out.2.trans HSM.out.below)
        clear HP HSM
        obtain ⟨xi, hxi⟩ : ∃ xi : Int, (x : Int) = xi := ⟨_, rfl⟩
        rw [hxi]
        have HXI := Lib.hid hxi
        by_cases hmid : 0 < x ∧ x < 144115188075855872
        · have hm0 : (0 : Int) < xi := by omega
          have hm1 : xi < 144115188075855872 := by omega
          have hcm : IntKind.u64.wrap (xi * 128) = (c : Int) := by rw [IntKind.wrap_u64]; have := HC.out; omega
          have hka1 : ((ka : Int) + 1 != (ka : Int) + 1) = false := by simp
          have HLC := Lib.hid (show (digs c).length = ka + 1 by rw [HC.out, digs_times hmid.1, HKA.out])
          have HUC := Lib.hid (show U64 c by unfold U64; have := HC.out; omega)
          clear hmid hxi
          go_wp2_with fail
          refine (len_calls c wr HUC.out).mono ?_
          rintro e w1 ⟨rfl, rfl⟩
          rw [HLC.out]
          clear hcm
          go_wp2_with fail
          rw [← HXI.out]
          refine (len_calls x wr HA.out).mono ?_
          rintro e w1 ⟨rfl, rfl⟩
          rw [HKA.out]
          go_wp2_with fail
          refine (len_calls y wr HB.out).mono ?_
          rintro e w1 ⟨rfl, rfl⟩
          rw [HKB.out]
          go_wp2_with fail
          refine (awake_calls _).mono ?_
          rintro e w9 ⟨rfl, hb9⟩
          have HW9 := Lib.hid (below_then HW.out hb9)
          clear hb9
          go_wp2_with fail
          go_ret
          exact ⟨rfl, HW9.out⟩
        · have hform : ¬ (0 : Int) < xi ∨ ((0 : Int) < xi ∧ ¬ xi < 144115188075855872) := by omega
          clear hmid hxi
          rcases hform with hm0 | ⟨hm0, hm1⟩
          all_goals go_wp2_with fail
          all_goals refine (len_calls y wr HB.out).mono ?_
          all_goals rintro e w1 ⟨rfl, rfl⟩
          all_goals rw [HKB.out]
          all_goals go_wp2_with fail
          all_goals refine (awake_calls _).mono ?_
          all_goals rintro e w9 ⟨rfl, hb9⟩
          all_goals have HW9 := Lib.hid (below_then HW.out hb9)
          all_goals clear hb9
          all_goals go_wp2_with fail
          all_goals go_ret
          all_goals exact ⟨rfl, HW9.out⟩
  · have hx' : (y : Int) < (x : Int) := by omega
    go_enter Try.func8, Try.ntmps8
    go_wp2_with fail
    refine (len_calls y w HA.out).mono ?_
    rintro e w1 ⟨rfl, rfl⟩
    rw [HKA.out]
    go_wp2_with fail
    refine (len_calls x w HB.out).mono ?_
    rintro e w1 ⟨rfl, rfl⟩
    rw [HKB.out]
    go_wp2_with fail
    refine (put_calls x w HB.out).mono ?_
    rintro e w2 ⟨P, capP, rfl, hown, hb2⟩
    rw [by8_length, HKB.out] at hown
    rw [by8_length, HKB.out]
    have HP := Lib.hid (And.intro (Lies.of_own hown) hb2)
    clear hown hb2 hx hx'
    go_wp2_with fail
    go_loopw [6] (fun i wr => ∃ k : Nat, k ≤ kb ∧ i = .int .i64 k ∧ Same w2 wr) (fun i _ => kb - (intOf i).toNat)
    case atStart => exact ⟨0, Nat.zero_le _, rfl, .refl _⟩
    case round =>
      obtain ⟨k, hk, rfl, hsm⟩ := hrel
      have HSM := Lib.hid hsm
      clear hsm
      by_cases hlt : k < kb
      · obtain ⟨bl, off, hP, hcell⟩ := (HP.out.1.same HSM.out).at_ (i := k) (by rw [by8_length, HKB.out]; exact hlt)
        obtain ⟨z, hz⟩ : ∃ z, (digs x).getD k 0 = z := ⟨_, rfl⟩
        have hcell' : wr.cell? ⟨bl, off + k, none⟩ = some (.int .u8 z) := by
          rw [hcell, ← hz]
          simp [by8, show k < (digs x).length by rw [HKB.out]; exact hlt]
        have hfl := digs_flag x k (by rw [HKB.out]; exact hlt)
        rw [HKB.out, hz] at hfl
        subst hP
        clear hcell hz
        have hlt' : (k : Int) < (kb : Int) := by omega
        have hge' : (0 : Int) ≤ (k : Int) := by omega
        rcases hfl with ⟨f1, f2⟩ | ⟨f1, f2⟩
        · have f1' : (k : Int) < (kb : Int) - 1 := by omega
          go_wp2_with fail
          exact ⟨⟨k + 1, by omega, by go_num, HSM.out⟩, by simp [intOf]; omega⟩
        · have f1' : ¬ (k : Int) < (kb : Int) - 1 := by omega
          have f2' : ¬ (128 : Int) ≤ z := by omega
          go_wp2_with fail
          exact ⟨⟨k + 1, by omega, by go_num, HSM.out⟩, by simp [intOf]; omega⟩
      · obtain rfl : kb = k := by omega
        have hlt' : ¬ (kb : Int) < (kb : Int) := by omega
        have HW := Lib.hid (HP.out.2.trans HSM.out.below)
        clear HP HSM
        obtain ⟨xi, hxi⟩ : ∃ xi : Int, (y : Int) = xi := ⟨_, rfl⟩
        rw [hxi]
        have HXI := Lib.hid hxi
        by_cases hmid : 0 < y ∧ y < 144115188075855872
        · have hm0 : (0 : Int) < xi := by omega
          have hm1 : xi < 144115188075855872 := by omega
          have hcm : IntKind.u64.wrap (xi * 128) = (c : Int) := by rw [IntKind.wrap_u64]; have := HC.out; omega
          have hka1 : ((ka : Int) + 1 != (ka : Int) + 1) = false := by simp
          have HLC := Lib.hid (show (digs c).length = ka + 1 by rw [HC.out, digs_times hmid.1, HKA.out])
          have HUC := Lib.hid (show U64 c by unfold U64; have := HC.out; omega)
          clear hmid hxi
          go_wp2_with fail
          refine (len_calls c wr HUC.out).mono ?_
          rintro e w1 ⟨rfl, rfl⟩
          rw [HLC.out]
          clear hcm
          go_wp2_with fail
          rw [← HXI.out]
          refine (len_calls y wr HA.out).mono ?_
          rintro e w1 ⟨rfl, rfl⟩
          rw [HKA.out]
          go_wp2_with fail
          refine (len_calls x wr HB.out).mono ?_
          rintro e w1 ⟨rfl, rfl⟩
          rw [HKB.out]
          go_wp2_with fail
          refine (awake_calls _).mono ?_
          rintro e w9 ⟨rfl, hb9⟩
          have HW9 := Lib.hid (below_then HW.out hb9)
          clear hb9
          go_wp2_with fail
          go_ret
          exact ⟨rfl, HW9.out⟩
        · have hform : ¬ (0 : Int) < xi ∨ ((0 : Int) < xi ∧ ¬ xi < 144115188075855872) := by omega
          clear hmid hxi
          rcases hform with hm0 | ⟨hm0, hm1⟩
          all_goals go_wp2_with fail
          all_goals refine (len_calls x wr HB.out).mono ?_
          all_goals rintro e w1 ⟨rfl, rfl⟩
          all_goals rw [HKB.out]
          all_goals go_wp2_with fail
          all_goals refine (awake_calls _).mono ?_
          all_goals rintro e w9 ⟨rfl, hb9⟩
          all_goals have HW9 := Lib.hid (below_then HW.out hb9)
          all_goals clear hb9
          all_goals go_wp2_with fail
          all_goals go_ret
          all_goals exact ⟨rfl, HW9.out⟩

theorem grows_walk_in (x y : Int) (w : World) (hx : (Lit.int .u64 x).wf = true) (hy : (Lit.int .u64 y).wf = true) :
    Calls Try.prog 8 #[.int .u64 x, .int .u64 y] w fun e w' => e = .returned (.bool true) ∧ Below w.heap.size w w' := by
  have bx := bounds_u64 hx
  have b_y := bounds_u64 hy
  obtain ⟨n, rfl⟩ := Int.eq_ofNat_of_zero_le bx.1
  obtain ⟨m, rfl⟩ := Int.eq_ofNat_of_zero_le b_y.1
  rcases Nat.lt_or_ge m n with h | h
  · exact grows_walk m n n m w (by omega) (by unfold U64; omega) (.inr ⟨rfl, rfl, h⟩)
  · exact grows_walk n m n m w h (by unfold U64; omega) (.inl ⟨rfl, rfl, by omega⟩)
end Go.Proofs.Ytiodeaoollhcgaa
