/-
  The walk of NumTexts. No statement of the seat is proved here.
-/
import Derived.Test.YtgcacbkoilmofaaDoorNAwake
import Derived.Test.YtgcacbkoilmofaaDoorNRefRate
namespace Go.Proofs.YtgcacbkoilmofaaDoor
open Go.RowKit

theorem digits5_below (n : Nat) (h : n < Two64) (w : World) : Calls Tryd.prog 15 #[.int .u64 n] w fun e w' => e = .returned (.string ⟨(Lib.decDigits n).toArray⟩) ∧ Below w.heap.size w w' := by
  refine (digits5_calls n h w).mono ?_
  rintro e w' ⟨rfl, k, rfl⟩
  exact ⟨rfl, Same.below (Same.drewN _ _)⟩

set_option maxRecDepth 100000 in
set_option maxHeartbeats 4000000 in
theorem ntexts_walk (n : Int) (hb : -9223372036854775808 ≤ n ∧ n ≤ 9223372036854775807) (w : World) (ht : Tab w) : Calls Tryd.prog 4 #[.int .i64 n] w fun e w' => e = .returned (.bool true) ∧ Below w.heap.size w w' := by
  have HT := Lib.hid ht
  clear ht
  have HN := Lib.hid (fun W h => ntext_calls n hb.2 W h)
  have HR := Lib.hid (fun W h => ratetext_calls n W h)
  by_cases h0 : n < 0
  · have e1 : textN n = [] := by unfold textN; rw [if_pos h0]
    have e2 : errN n = 10 := by unfold errN; rw [if_pos h0]
    have e0 : isRate n = false := by unfold isRate; rw [decide_eq_false_iff_not]; omega
    have e3 : textR n = [] := by unfold textR; rw [e0]; rfl
    have e4 : errR n = 10 := by unfold errR; rw [e0]; rfl
    rw [e1, e2] at HN
    rw [e3, e4] at HR
    have h1 : n < 1 := by omega
    clear e0 e1 e2 e3 e4
    go_enter Tryd.func4, Tryd.ntmps4
    go_wp2_with fail
    refine (HN.out _ HT.out).mono ?_
    rintro e w1 ⟨rfl, hb⟩
    have HB1 := Lib.hid hb
    clear hb HN
    go_wp2_with fail
    refine (HR.out _ (HT.out.keep HB1.out)).mono ?_
    rintro e w2 ⟨rfl, hb⟩
    have HB2 := Lib.hid (below_then HB1.out hb)
    clear hb HR HB1
    go_wp2_with fail
    refine (awake5_calls _ (HT.out.keep HB2.out)).mono ?_
    rintro e w3 ⟨rfl, hb⟩
    have HB3 := Lib.hid (below_then HB2.out hb)
    clear hb HB2
    go_wp2_with fail
    go_ret
    exact ⟨rfl, HB3.out⟩
  · have e1 : textN n = Lib.decDigits n.toNat := by unfold textN; rw [if_neg h0]
    have e2 : errN n = 0 := by unfold errN; rw [if_neg h0]
    rw [e1, e2] at HN
    have hd := fun W => digits5_below n.toNat (by unfold Two64; omega) W
    have hcu : IntKind.u64.wrap n = n := by rw [IntKind.wrap_u64]; omega
    rw [show ((n.toNat : Nat) : Int) = n by omega] at hd
    unfold Told2 at HN HR
    generalize (⟨(Lib.decDigits n.toNat).toArray⟩ : ByteArray) = P at HN hd
    have HD := Lib.hid hd
    clear hd e1 e2
    by_cases hr : 1 ≤ n ∧ n ≤ 1000000
    · have e0 : isRate n = true := (isRate_iff n).2 hr
      have e3 : textR n = rateText n.toNat := by unfold textR; rw [e0]; rfl
      have e4 : errR n = 0 := by unfold errR; rw [e0]; rfl
      rw [e3, e4] at HR
      have hq := fun W => rratetext_calls n hr.1 hr.2 W
      generalize (⟨(rateText n.toNat).toArray⟩ : ByteArray) = Q at HR hq
      have HQ := Lib.hid hq
      have h1 : ¬ n < 1 := by omega
      have h2 : ¬ 1000000 < n := by omega
      clear hq e0 e3 e4 hr
      go_enter Tryd.func4, Tryd.ntmps4
      go_wp2_with fail
      refine (HN.out _ HT.out).mono ?_
      rintro e w1 ⟨rfl, hb⟩
      have HB1 := Lib.hid hb
      clear hb HN
      go_wp2_with fail
      refine (HR.out _ (HT.out.keep HB1.out)).mono ?_
      rintro e w2 ⟨rfl, hb⟩
      have HB2 := Lib.hid (below_then HB1.out hb)
      clear hb HR HB1
      go_wp2_with fail
      refine (HQ.out _).mono ?_
      rintro e w3 ⟨rfl, hb⟩
      have HB3 := Lib.hid (below_then HB2.out hb)
      clear hb HQ HB2
      go_wp2_with fail
      refine (HD.out _).mono ?_
      rintro e w4 ⟨rfl, hb⟩
      have HB4 := Lib.hid (below_then HB3.out hb)
      clear hb HD HB3
      go_wp2_with fail
      refine (awake5_calls _ (HT.out.keep HB4.out)).mono ?_
      rintro e w5 ⟨rfl, hb⟩
      have HB5 := Lib.hid (below_then HB4.out hb)
      clear hb HB4
      go_wp2_with fail
      go_ret
      exact ⟨rfl, HB5.out⟩
    · have e0 : isRate n = false := by unfold isRate; rw [decide_eq_false_iff_not]; exact hr
      have e3 : textR n = [] := by unfold textR; rw [e0]; rfl
      have e4 : errR n = 10 := by unfold errR; rw [e0]; rfl
      rw [e3, e4] at HR
      have hc : n < 1 ∨ (¬ n < 1 ∧ 1000000 < n) := by omega
      clear e0 e3 e4 hr
      rcases hc with h1 | ⟨h1, h2⟩
      all_goals
        go_enter Tryd.func4, Tryd.ntmps4
        go_wp2_with fail
        refine (HN.out _ HT.out).mono ?_
        rintro e w1 ⟨rfl, hb⟩
        have HB1 := Lib.hid hb
        clear hb HN
        go_wp2_with fail
        refine (HR.out _ (HT.out.keep HB1.out)).mono ?_
        rintro e w2 ⟨rfl, hb⟩
        have HB2 := Lib.hid (below_then HB1.out hb)
        clear hb HR HB1
        go_wp2_with fail
        refine (HD.out _).mono ?_
        rintro e w4 ⟨rfl, hb⟩
        have HB4 := Lib.hid (below_then HB2.out hb)
        clear hb HD HB2
        go_wp2_with fail
        refine (awake5_calls _ (HT.out.keep HB4.out)).mono ?_
        rintro e w5 ⟨rfl, hb⟩
        have HB5 := Lib.hid (below_then HB4.out hb)
        clear hb HB4
        go_wp2_with fail
        go_ret
        exact ⟨rfl, HB5.out⟩
end Go.Proofs.YtgcacbkoilmofaaDoor
