/-
  Package metric: allRight, of Decs and of tags. No statement of the seat is proved here.
-/
import Derived.Test.YtgnpakcofkhdkaaMRows
import Derived.Test.YtgnpakcofkhdkaaDCheck
import Derived.Test.YtgnpakcofkhdkaaTCheck
import Derived.Test.YtgnpakcofkhdkaaTGet
import Derived.Test.YtgnpakcofkhdkaaMMath
namespace Go.Proofs.Ytgnpakcofkhdkaa
open Go.RowKit
open Dc (D D0)

set_option maxRecDepth 100000 in
set_option maxHeartbeats 4000000 in
theorem allD_calls {w : World} {A : Option Addr} {n cap : Nat} {ds : List D} (hn : ds.length = n) (hA : Decs w A ds) (hz : n ≤ 1000) (hf : ∀ d ∈ ds, d.Fits) (lo hi : Int) :
    Calls Try.prog 41 #[.slice A n cap, .int .i64 lo, .int .i64 hi, .func (.func 42) #[] #[]] w fun e w' => e = .returned (.bool (okV ds && decide (lo ≤ n ∧ (n : Int) ≤ hi))) ∧ Below w.heap.size w w' := by
  obtain ⟨q, hq⟩ : ∃ q, okV ds = q := ⟨_, rfl⟩
  rw [hq]
  have HQ := Lib.hid hq
  have HA := Lib.hid (And.intro hn (And.intro hA hf))
  clear hq hn hA hf
  go_enter Try.func41, Try.ntmps41
  by_cases h1 : (n : Int) < lo
  · have HE : Hid ((q && decide (lo ≤ (n : Int) ∧ (n : Int) ≤ hi)) = false) := Lib.hid (by rw [decide_eq_false (by omega), Bool.and_false])
    rw [HE.out]
    go_wp2_with fail
    go_ret
    exact ⟨rfl, Below.refl _ _⟩
  · by_cases h2 : hi < (n : Int)
    · have HE : Hid ((q && decide (lo ≤ (n : Int) ∧ (n : Int) ≤ hi)) = false) := Lib.hid (by rw [decide_eq_false (by omega), Bool.and_false])
      rw [HE.out]
      go_wp2_with fail
      go_ret
      exact ⟨rfl, Below.refl _ _⟩
    · have HE : Hid ((q && decide (lo ≤ (n : Int) ∧ (n : Int) ≤ hi)) = q) := Lib.hid (by rw [decide_eq_true (by omega), Bool.and_true])
      rw [HE.out]
      clear HE
      go_wp2_with fail
      go_loopw [23] (fun v wr => ∃ i : Nat, v = .int .i64 i ∧ i ≤ n ∧ Hid (Below w.heap.size w wr ∧ ∀ j (h : j < ds.length), j < i → Dc.check ds[j] = 0)) (fun v _ => n - (intOf v).toNat)
      case atStart => exact ⟨0, rfl, by omega, ⟨Below.refl _ _, fun j _ hj => absurd hj (by omega)⟩⟩
      case round =>
        obtain ⟨i, rfl, hin, hrel⟩ := hrel
        by_cases hlt : i < n
        · have g1 : (i : Int) < (n : Int) := by omega
          obtain ⟨hn, hA, hf⟩ := HA.out
          have l0 : i < ds.length := by omega
          obtain ⟨b, off, p, x, y, e1, c0, c1, c2, hd⟩ := (hA.keep hrel.out.1).get l0
          subst e1
          have hC := fun W => Dc.check_calls ds[i] (hf _ (List.getElem_mem l0)) W
          unfold Dc.dV at hC
          simp only [← hd.neg, ← hd.c, ← hd.e] at hC
          obtain ⟨r, hr⟩ : ∃ r, Dc.check ds[i] = r := ⟨_, rfl⟩
          rw [hr] at hC
          have HC := Lib.hid hC
          have HR := Lib.hid hr
          have hb1 := hrel.out.1.alloc hrel.out.1.size (.cells #[.bool p, .int .u64 x, .int .i64 y] 41)
          have HB := Lib.hid hb1
          clear hn hA hf hC hr hb1 hd
          go_wp2_with fail
          refine (HC.out _).mono ?_
          rintro e w2 ⟨rfl, hb⟩
          have HB2 := Lib.hid (below_then HB.out hb)
          clear hb HB HC c0 c1 c2
          by_cases hr0 : r = 0
          · have HE := Lib.hid (HR.out.trans hr0)
            go_wp2_with fail
            refine ⟨⟨i + 1, by go_num, by omega, ⟨HB2.out, fun j h hj => ?_⟩⟩, by simp [intOf]; omega⟩
            rcases Nat.lt_or_ge j i with h' | h'
            · exact hrel.out.2 j h h'
            · obtain rfl : i = j := by omega
              exact HE.out
          · have HE := Lib.hid (show q = false by
              rw [← HQ.out]
              refine Bool.eq_false_iff.2 fun h => hr0 ?_
              rw [← HR.out]
              unfold okV at h
              exact of_decide_eq_true (List.all_eq_true.1 h _ (List.getElem_mem l0)))
            go_wp2_with fail
            go_ret
            exact ⟨by rw [HE.out]; first | done | rfl, HB2.out⟩
        · have g1 : ¬ (i : Int) < (n : Int) := by omega
          have HE := Lib.hid (show q = true by
            rw [← HQ.out]
            unfold okV
            refine List.all_eq_true.2 fun d hd => decide_eq_true ?_
            obtain ⟨j, hj, rfl⟩ := List.mem_iff_getElem.1 hd
            exact hrel.out.2 j hj (by have := HA.out.1; omega))
          go_wp2_with fail
          go_ret
          exact ⟨by rw [HE.out]; first | done | rfl, hrel.out.1⟩

theorem chkT_ok {t : Tg} : chkT t = 0 ↔ rightT t = true := by
  unfold chkT; split
  · exact ⟨fun _ => by assumption, fun _ => rfl⟩
  · exact ⟨fun h => absurd h (by decide), fun h => absurd h (by assumption)⟩

set_option maxRecDepth 100000 in
set_option maxHeartbeats 4000000 in
theorem allT_calls {w : World} {A : Option Addr} {n cap : Nat} {ts : List Tg} (hn : ts.length = n) (hA : Tags w A ts) (hz : n ≤ 1000) (hf : ∀ t ∈ ts, t.1.length ≤ 1000 ∧ t.2.length ≤ 1000) (lo hi : Int) :
    Calls Try.prog 43 #[.slice A n cap, .int .i64 lo, .int .i64 hi, .func (.func 44) #[] #[]] w fun e w' => e = .returned (.bool (ts.all rightT && decide (lo ≤ n ∧ (n : Int) ≤ hi))) ∧ Below w.heap.size w w' := by
  obtain ⟨q, hq⟩ : ∃ q, ts.all rightT = q := ⟨_, rfl⟩
  rw [hq]
  have HQ := Lib.hid hq
  have HA := Lib.hid (And.intro hn (And.intro hA hf))
  clear hq hn hA hf
  go_enter Try.func43, Try.ntmps43
  by_cases h1 : (n : Int) < lo
  · have HE : Hid ((q && decide (lo ≤ (n : Int) ∧ (n : Int) ≤ hi)) = false) := Lib.hid (by rw [decide_eq_false (by omega), Bool.and_false])
    rw [HE.out]
    go_wp2_with fail
    go_ret
    exact ⟨rfl, Below.refl _ _⟩
  · by_cases h2 : hi < (n : Int)
    · have HE : Hid ((q && decide (lo ≤ (n : Int) ∧ (n : Int) ≤ hi)) = false) := Lib.hid (by rw [decide_eq_false (by omega), Bool.and_false])
      rw [HE.out]
      go_wp2_with fail
      go_ret
      exact ⟨rfl, Below.refl _ _⟩
    · have HE : Hid ((q && decide (lo ≤ (n : Int) ∧ (n : Int) ≤ hi)) = q) := Lib.hid (by rw [decide_eq_true (by omega), Bool.and_true])
      rw [HE.out]
      clear HE
      go_wp2_with fail
      go_loopw [23] (fun v wr => ∃ i : Nat, v = .int .i64 i ∧ i ≤ n ∧ Hid (Below w.heap.size w wr ∧ ∀ j (h : j < ts.length), j < i → rightT ts[j] = true)) (fun v _ => n - (intOf v).toNat)
      case atStart => exact ⟨0, rfl, by omega, ⟨Below.refl _ _, fun j _ hj => absurd hj (by omega)⟩⟩
      case round =>
        obtain ⟨i, rfl, hin, hrel⟩ := hrel
        by_cases hlt : i < n
        · have g1 : (i : Int) < (n : Int) := by omega
          obtain ⟨hn, hA, hf⟩ := HA.out
          have l0 : i < ts.length := by omega
          obtain ⟨b, off, s, u, e1, c0, c1, hs, hu⟩ := (hA.keep hrel.out.1).get l0
          subst e1
          have hl := hf _ (List.getElem_mem l0)
          have n1 := hs.size
          have n2 := hu.size
          have hC := fun W => check_calls hs hu (by omega) (by omega) W
          obtain ⟨r, hr⟩ : ∃ r, chkT ts[i] = r := ⟨_, rfl⟩
          rw [hr] at hC
          have HC := Lib.hid hC
          have HR := Lib.hid hr
          have hb1 := hrel.out.1.alloc hrel.out.1.size (.cells #[.string s, .string u] 38)
          have HB := Lib.hid hb1
          clear hn hA hf hC hr hb1 hs hu hl n1 n2
          go_wp2_with fail
          refine (HC.out _).mono ?_
          rintro e w2 ⟨rfl, hb⟩
          have HB2 := Lib.hid (below_then HB.out hb)
          clear hb HB HC c0 c1
          by_cases hr0 : r = 0
          · have HE := Lib.hid (chkT_ok.1 (HR.out.trans hr0))
            go_wp2_with fail
            refine ⟨⟨i + 1, by go_num, by omega, ⟨HB2.out, fun j h hj => ?_⟩⟩, by simp [intOf]; omega⟩
            rcases Nat.lt_or_ge j i with h' | h'
            · exact hrel.out.2 j h h'
            · obtain rfl : i = j := by omega
              exact HE.out
          · have HE := Lib.hid (show q = false by
              rw [← HQ.out]
              refine Bool.eq_false_iff.2 fun h => hr0 ?_
              rw [← HR.out]
              exact chkT_ok.2 (List.all_eq_true.1 h _ (List.getElem_mem l0)))
            go_wp2_with fail
            go_ret
            exact ⟨by rw [HE.out]; first | done | rfl, HB2.out⟩
        · have g1 : ¬ (i : Int) < (n : Int) := by omega
          have HE := Lib.hid (show q = true by
            rw [← HQ.out]
            refine List.all_eq_true.2 fun d hd => ?_
            obtain ⟨j, hj, rfl⟩ := List.mem_iff_getElem.1 hd
            exact hrel.out.2 j hj (by have := HA.out.1; omega))
          go_wp2_with fail
          go_ret
          exact ⟨by rw [HE.out]; first | done | rfl, hrel.out.1⟩
end Go.Proofs.Ytgnpakcofkhdkaa
