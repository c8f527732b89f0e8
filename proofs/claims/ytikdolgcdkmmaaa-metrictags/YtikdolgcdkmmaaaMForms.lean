/-
  Package metric: oneForms. No statement of the seat is proved here.
-/
import Derived.Test.YtikdolgcdkmmaaaMCheck
import Derived.OwnWalk
namespace Go.Proofs.Ytikdolgcdkmmaaa
open Go.RowKit
open Dc (D D0)

theorem own_slice_at {w : World} {base n : Nat} {v : Value} {ds : List D} (h : w.ownsRow base 39 3 v n (flatD ds)) : ∃ A cap, v = .slice A n cap ∧ n ≤ cap := by
  obtain ⟨A, cap, e, h1, _⟩ := own_slice h
  exact ⟨A, cap, e, h1⟩

set_option maxRecDepth 100000 in
set_option maxHeartbeats 4000000 in
theorem forms_calls {w : World} {A : Option Addr} {n cap : Nat} {ds : List D} (hn : ds.length = n) (hA : Decs w A ds) (hz : n ≤ 1000) (hf : ∀ d ∈ ds, d.Fits) :
    Calls Try.prog 32 #[.slice A n cap] w fun e w' => (∃ v, e = .returned v ∧ w'.ownsRow w.heap.size 39 3 v n (flatD (ds.map form))) ∧ Below w.heap.size w w' := by
  have HA := Lib.hid (And.intro hn (And.intro hA hf))
  clear hn hA hf
  obtain ⟨ti, hi, hz0, hz1, hz2⟩ := info_parts (rowDec).info
  obtain ⟨wm, hmk, hown, hgr⟩ := run_make_own (P := Try.prog) w w.heap.size 22 39 ti _ 3 Try.underlying22 hi hz0 hz1 .i64 .i64 n (by rw [hz2]; omega) (by unfold maxLen; omega) (Nat.le_refl _)
  have HM := Lib.hid (And.intro hown ((Below.refl w.heap.size w).grown hgr (Nat.le_refl _) (by intro k hk; cases hk)))
  clear hi hz0 hz1 hz2 hown hgr
  go_enter Try.func32, Try.ntmps32
  go_wp2_with fail
  go_loopw [3, 13] (fun v3 v13 wr => ∃ i : Nat, v13 = .int .i64 i ∧ i ≤ n ∧ Hid (Below w.heap.size w wr ∧ wr.ownsRow w.heap.size 39 3 v3 i (flatD ((ds.take i).map form)))) (fun _ v13 _ => n - (intOf v13).toNat)
  case atStart => exact ⟨0, rfl, by omega, ⟨HM.out.2, HM.out.1⟩⟩
  case round =>
    obtain ⟨i, rfl, hi, hrel⟩ := hrel
    clear HM hmk
    by_cases hlt : i < n
    · have g1 : (i : Int) < (n : Int) := by omega
      have g2 : (0 : Int) ≤ (i : Int) := by omega
      obtain ⟨hn, hA, hf⟩ := HA.out
      have l0 : i < ds.length := by omega
      obtain ⟨b, off, p, x, y, e1, c0, c1, c2, hd⟩ := (hA.keep hrel.out.1).get l0
      subst e1
      have hC := fun W => Dc.normal_calls ds[i] (hf _ (List.getElem_mem l0)) W
      unfold Dc.dV at hC
      simp only [← hd.neg, ← hd.c, ← hd.e] at hC
      obtain ⟨x', hx'⟩ : ∃ x : Int, x = ((Dc.nVal ds[i]).c : Int) := ⟨_, rfl⟩
      obtain ⟨y', hy'⟩ : ∃ y : Int, y = (Dc.nVal ds[i]).e := ⟨_, rfl⟩
      obtain ⟨p', hp'⟩ : ∃ n : Bool, n = (Dc.nVal ds[i]).neg := ⟨_, rfl⟩
      obtain ⟨ok, hok⟩ : ∃ ok, (Dc.normal ds[i]).isSome = ok := ⟨_, rfl⟩
      have hE : Dc.nErr ds[i] = if ok then 0 else 10 := by unfold Dc.nErr; rw [hok]
      simp only [← hx', ← hy', ← hp', hE] at hC
      have hfm : Dl p x y (form ds[i]) ∨ ok = true := by
        cases ok
        · left
          have : form ds[i] = ds[i] := by
            unfold form
            cases hq : Dc.normal ds[i] with
            | none => rfl
            | some q => rw [hq] at hok; cases hok
          rw [this]; exact hd
        · exact .inr rfl
      have hfm2 : ok = true → Dl p' x' y' (form ds[i]) := fun h => by
        rw [← form_nVal (by rw [hok]; exact h)]
        exact ⟨hp', hx', hy'⟩
      have HD := Lib.hid (And.intro hfm (And.intro hfm2 (show (ds.take (i + 1)).map form = (ds.take i).map form ++ [form ds[i]] by rw [List.take_add_one, List.getElem?_eq_getElem l0]; simp only [Option.toList, List.map_append, List.map_cons, List.map_nil])))
      have HC := Lib.hid hC
      have HB := Lib.hid (Box.new wr 39 [.bool p, .int .u64 x, .int .i64 y])
      clear hn hA hf hC hd hx' hy' hp' hok hE hfm hfm2
      go_wp2_with fail
      refine (HC.out _).mono ?_
      rintro e w2 ⟨rfl, hb⟩
      have b5 := (HB.out.keep hb).alloc (.cells #[.bool p', .int .u64 x', .int .i64 y'] 39)
      have hb2 : Below wr.heap.size wr (w2.alloc (.cells #[.bool p', .int .u64 x', .int .i64 y'] 39)) := (((Below.refl _ _).alloc (Nat.le_refl _) _).trans (hb.mono (by simp))).alloc (Nat.le_trans (by simp) hb.size) _
      have a0 := b5.cell 0
      have a1 := b5.cell 1
      have a2 := b5.cell 2
      simp only [List.getElem?_cons_zero, List.getElem?_cons_succ] at a0 a1 a2
      have f0 := b5.frozen 0
      have f1 := b5.frozen 1
      have f2 := b5.frozen 2
      have HB2 := Lib.hid (And.intro b5 hb2)
      clear hb HB HC b5 hb2 c0 c1 c2
      cases ok
      · have HG := Lib.hid (show Dl p x y (form ds[i]) by rcases HD.out.1 with h | h; exact h; cases h)
        have HW1 := Lib.hid (HB2.out.2.alloc HB2.out.2.size (.cells #[.bool p, .int .u64 x, .int .i64 y] 39))
        have HW := Lib.hid (below_then hrel.out.1 HW1.out)
        have HO := Lib.hid (own_keep hrel.out.2 HW1.out)
        go_wp2_with (first | (at_builtin; refine wpList_append_rows _ rowDec rfl (.tmp 25) (.tmp 27) rfl w.heap.size u3 i _ rfl HO.out (some ⟨w2.heap.size + 1, 0, none⟩) 1 1 (flatD [form ds[i]]) rfl rfl (decs_at (size_alloc _ _) HG.out) flatD_cells (by omega) HW.out.size ?_; intro v8 w8 hown8 hgr8 hob8; have HW8 := Lib.hid (And.intro (grown_own HW.out HO.out hgr8) hown8); clear hown8 hgr8 hob8))
        refine ⟨⟨i + 1, by go_num, by omega, ⟨HW8.out.1, ?_⟩⟩, by simp [intOf]; omega⟩
        rw [HD.out.2.2, flatD_append]
        exact HW8.out.2
      · have HG := Lib.hid (HD.out.2.1 rfl)
        have HW0 := Lib.hid (below_set (below_set (below_set HB2.out.2 (Nat.le_refl _) 0 (.bool p')) (Nat.le_refl _) 1 (.int .u64 x')) (Nat.le_refl _) 2 (.int .i64 y'))
        have HW1 := Lib.hid (HW0.out.alloc HW0.out.size (.cells #[.bool p', .int .u64 x', .int .i64 y'] 39))
        have HW := Lib.hid (below_then hrel.out.1 HW1.out)
        have HO := Lib.hid (own_keep hrel.out.2 HW1.out)
        go_wp2_with (first | (at_builtin; refine wpList_append_rows _ rowDec rfl (.tmp 25) (.tmp 27) rfl w.heap.size u3 i _ rfl HO.out (some ⟨w2.heap.size + 1, 0, none⟩) 1 1 (flatD [form ds[i]]) rfl rfl (decs_at (by simp) HG.out) flatD_cells (by omega) HW.out.size ?_; intro v8 w8 hown8 hgr8 hob8; have HW8 := Lib.hid (And.intro (grown_own HW.out HO.out hgr8) hown8); clear hown8 hgr8 hob8))
        refine ⟨⟨i + 1, by go_num, by omega, ⟨HW8.out.1, ?_⟩⟩, by simp [intOf]; omega⟩
        rw [HD.out.2.2, flatD_append]
        exact HW8.out.2
    · have g1 : ¬ (i : Int) < (n : Int) := by omega
      go_wp2_with fail
      go_ret
      obtain rfl : i = n := by omega
      have h2 := hrel.out.2
      rw [List.take_of_length_le (by have := HA.out.1; omega)] at h2
      exact ⟨⟨_, rfl, h2⟩, hrel.out.1⟩
end Go.Proofs.Ytikdolgcdkmmaaa
