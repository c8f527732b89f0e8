/-
  Layer 7: the document's Rest and Check. No statement of the seat is proved here.
-/
import Derived.Test.YtgnpakcofkhdkaaMRef1
namespace Go.Proofs.Ytgnpakcofkhdkaa
open Go.RowKit
open Dc (D D0)

section
variable {m : Mt} {ok : Bool}
theorem rest15 (h : nameR m.name = false) : restM m ok = 15 := by unfold restM; rw [if_pos h]
theorem rest16 (h0 : nameR m.name = true) (h : kindR m.kind = false) : restM m ok = 16 := by unfold restM; simp [h0, h]
theorem rest17 (h0 : nameR m.name = true) (h1 : kindR m.kind = true) (h : valsR ok m.vals.length = false) : restM m ok = 17 := by unfold restM; simp [h0, h1, h]
theorem rest18 (h0 : nameR m.name = true) (h1 : kindR m.kind = true) (h2 : valsR ok m.vals.length = true) (h : rateR m.kind m.rate = false) : restM m ok = 18 := by unfold restM; simp [h0, h1, h2, h]
theorem rest19 (h0 : nameR m.name = true) (h1 : kindR m.kind = true) (h2 : valsR ok m.vals.length = true) (h3 : rateR m.kind m.rate = true) (h : tagsR m.tags = false) : restM m ok = 19 := by unfold restM; simp [h0, h1, h2, h3, h]
theorem rest20 (h0 : nameR m.name = true) (h1 : kindR m.kind = true) (h2 : valsR ok m.vals.length = true) (h3 : rateR m.kind m.rate = true) (h4 : tagsR m.tags = true) (h : timeR m.time = false) : restM m ok = 20 := by unfold restM; simp [h0, h1, h2, h3, h4, h]
theorem rest0 (h0 : nameR m.name = true) (h1 : kindR m.kind = true) (h2 : valsR ok m.vals.length = true) (h3 : rateR m.kind m.rate = true) (h4 : tagsR m.tags = true) (h : timeR m.time = true) : restM m ok = 0 := by unfold restM; simp [h0, h1, h2, h3, h4, h]
end

section
variable {w : World} {s : ByteArray} {A B : Option Addr} {n k ca cb : Nat} {m : Mt}
set_option maxRecDepth 100000 in
set_option maxHeartbeats 8000000 in
theorem rest_calls (h : MIs w s A n B k m) (hz : Small m) (ok : Bool) : Calls Try.prog 30 #[mV s m.kind A n ca m.rate B k cb m.time, .bool ok] w fun e w' => e = .returned (.int .i64 (restM m ok)) ∧ Below w.heap.size w w' := by
  obtain ⟨q, hq⟩ : ∃ q, restM m ok = q := ⟨_, rfl⟩
  rw [hq]
  have HQ := Lib.hid hq
  have hN := fun W => rname_calls h.name hz.name W
  obtain ⟨qn, hqn⟩ : ∃ q, nameR m.name = q := ⟨_, rfl⟩
  rw [hqn] at hN
  have HN := Lib.hid hN
  have HH := Lib.hid (And.intro h (And.intro hz hqn))
  obtain ⟨kd, hkd⟩ : ∃ x, x = m.kind := ⟨_, rfl⟩
  obtain ⟨rt, hrt⟩ : ∃ x, x = m.rate := ⟨_, rfl⟩
  obtain ⟨tm, htm⟩ : ∃ x, x = m.time := ⟨_, rfl⟩
  rw [← hkd, ← hrt, ← htm]
  have HK := Lib.hid (And.intro hkd (And.intro hrt (And.intro htm (And.intro h.vlen h.tlen))))
  have b0 := (Kb.start w).push 25 (mC s kd A n ca rt B k cb tm)
  unfold mC at b0
  have HB := Lib.hid b0
  have hk200 : k ≤ 200 := by have := h.tlen; have := hz.tags; omega
  unfold mV
  clear hq hN hqn hkd hrt htm b0 h hz
  go_enter Try.func30, Try.ntmps30
  go_wp2_with fail
  refine (HN.out _).mono ?_
  rintro e w1 ⟨rfl, hb⟩
  have HB1 := Lib.hid (HB.out.next hb)
  have c1 : w1.cell? ⟨w.heap.size, 1, none⟩ = some (.int .i64 kd) := HB1.out.cell (.head _) rfl
  have c2 : w1.cell? ⟨w.heap.size, 2, none⟩ = some (.slice A n ca) := HB1.out.cell (.head _) rfl
  have c3 : w1.cell? ⟨w.heap.size, 3, none⟩ = some (.int .i64 rt) := HB1.out.cell (.head _) rfl
  have c4 : w1.cell? ⟨w.heap.size, 4, none⟩ = some (.slice B k cb) := HB1.out.cell (.head _) rfl
  have c5 : w1.cell? ⟨w.heap.size, 5, none⟩ = some (.int .i64 tm) := HB1.out.cell (.head _) rfl
  clear hb HB HN
  cases qn
  · have HE := Lib.hid (show q = 15 by rw [← HQ.out]; exact rest15 HH.out.2.2)
    go_wp2_with fail
    go_ret
    exact ⟨by rw [HE.out]; rfl, HB1.out.kept⟩
  have H0 := Lib.hid HH.out.2.2
  rcases (by omega : kd < 1 ∨ (¬ kd < 1 ∧ 5 < kd) ∨ (¬ kd < 1 ∧ ¬ 5 < kd)) with k1 | ⟨k1, k2⟩ | ⟨k1, k2⟩
  · have HE := Lib.hid (show q = 16 by rw [← HQ.out]; refine rest16 H0.out ?_; rw [← HK.out.1]; exact decide_eq_false (by omega))
    go_wp2_with fail
    go_ret
    exact ⟨by rw [HE.out]; rfl, HB1.out.kept⟩
  · have HE := Lib.hid (show q = 16 by rw [← HQ.out]; refine rest16 H0.out ?_; rw [← HK.out.1]; exact decide_eq_false (by omega))
    go_wp2_with fail
    go_ret
    exact ⟨by rw [HE.out]; rfl, HB1.out.kept⟩
  have H1 := Lib.hid (show kindR m.kind = true by rw [← HK.out.1]; exact decide_eq_true (by omega))
  rcases (by cases ok <;> simp <;> omega : ok = false ∨ (ok = true ∧ (n : Int) < 1) ∨ (ok = true ∧ ¬ (n : Int) < 1 ∧ 64 < (n : Int)) ∨ (ok = true ∧ ¬ (n : Int) < 1 ∧ ¬ 64 < (n : Int))) with rfl | ⟨rfl, v1⟩ | ⟨rfl, v1, v2⟩ | ⟨rfl, v1, v2⟩
  · have HE := Lib.hid (show q = 17 by rw [← HQ.out]; exact rest17 H0.out H1.out rfl)
    go_wp2_with fail
    go_ret
    exact ⟨by rw [HE.out]; rfl, HB1.out.kept⟩
  · have HE := Lib.hid (show q = 17 by rw [← HQ.out]; refine rest17 H0.out H1.out ?_; rw [HK.out.2.2.2.1]; unfold valsR; rw [decide_eq_false (by omega)]; rfl)
    go_wp2_with fail
    go_ret
    exact ⟨by rw [HE.out]; rfl, HB1.out.kept⟩
  · have HE := Lib.hid (show q = 17 by rw [← HQ.out]; refine rest17 H0.out H1.out ?_; rw [HK.out.2.2.2.1]; unfold valsR; rw [decide_eq_false (by omega)]; rfl)
    go_wp2_with fail
    go_ret
    exact ⟨by rw [HE.out]; rfl, HB1.out.kept⟩
  have H2 := Lib.hid (show valsR true m.vals.length = true by rw [HK.out.2.2.2.1]; unfold valsR; rw [decide_eq_true (by omega)]; rfl)
  rcases (by omega : rt < 1 ∨ (¬ rt < 1 ∧ 1000000 < rt) ∨ (¬ rt < 1 ∧ ¬ 1000000 < rt ∧ kd = 2 ∧ rt ≠ 1000000) ∨ (¬ rt < 1 ∧ ¬ 1000000 < rt ∧ (kd ≠ 2 ∨ rt = 1000000))) with r1 | ⟨r1, r2⟩ | ⟨r1, r2, r3, r4⟩ | ⟨r1, r2, r3⟩
  · have HE := Lib.hid (show q = 18 by rw [← HQ.out]; refine rest18 H0.out H1.out H2.out ?_; rw [← HK.out.1, ← HK.out.2.1]; exact decide_eq_false (by omega))
    go_wp2_with fail
    go_ret
    exact ⟨by rw [HE.out]; rfl, HB1.out.kept⟩
  · have HE := Lib.hid (show q = 18 by rw [← HQ.out]; refine rest18 H0.out H1.out H2.out ?_; rw [← HK.out.1, ← HK.out.2.1]; exact decide_eq_false (by omega))
    go_wp2_with fail
    go_ret
    exact ⟨by rw [HE.out]; rfl, HB1.out.kept⟩
  · have HE := Lib.hid (show q = 18 by rw [← HQ.out]; refine rest18 H0.out H1.out H2.out ?_; rw [← HK.out.1, ← HK.out.2.1]; exact decide_eq_false (by omega))
    subst r3
    have r5 : (rt != 1000000) = true := by simpa using r4
    go_wp2_with fail
    go_ret
    exact ⟨by rw [HE.out]; rfl, HB1.out.kept⟩
  have H3 := Lib.hid (show rateR m.kind m.rate = true by rw [← HK.out.1, ← HK.out.2.1]; exact decide_eq_true (by omega))
  have hrate : ((kd == 2) = false) ∨ (kd = 2 ∧ rt = 1000000) := by
    by_cases h : kd = 2
    · exact .inr ⟨h, by omega⟩
    · exact .inl (by simpa using h)
  clear r3
  by_cases t1 : 32 < (k : Int)
  · have HE := Lib.hid (show q = 19 by rw [← HQ.out]; refine rest19 H0.out H1.out H2.out H3.out ?_; unfold tagsR; rw [HK.out.2.2.2.2, decide_eq_false (by omega)]; rfl)
    rcases hrate with h | ⟨rfl, rfl⟩
    all_goals
      go_wp2_with fail
      go_ret
      exact ⟨by rw [HE.out]; rfl, HB1.out.kept⟩
  rcases hrate with hr | ⟨rfl, rfl⟩
  all_goals
    go_wp2_with fail
    go_loopw [5] (fun v wr => ∃ i : Nat, v = .int .i64 i ∧ i ≤ k ∧ Hid (Kb w [(w.heap.size, 25, [.string s, .int .i64 _, .slice A n ca, .int .i64 _, .slice B k cb, .int .i64 tm])] [] wr ∧ ∀ j (h : j < m.tags.length), j < i → rightT m.tags[j] = true)) (fun v _ => k - (intOf v).toNat)
    case atStart => exact ⟨0, rfl, by omega, ⟨HB1.out, fun j _ hj => absurd hj (by omega)⟩⟩
    case round =>
      obtain ⟨i, rfl, hin, hrel⟩ := hrel
      clear HB1 c1 c2 c3 c4 c5
      have c4 : wr.cell? ⟨w.heap.size, 4, none⟩ = some (.slice B k cb) := hrel.out.1.cell (.head _) rfl
      have c5 : wr.cell? ⟨w.heap.size, 5, none⟩ = some (.int .i64 tm) := hrel.out.1.cell (.head _) rfl
      by_cases hlt : i < k
      · have g1 : (i : Int) < (k : Int) := by omega
        have g2 : (0 : Int) ≤ (i : Int) := by omega
        obtain ⟨hm, hz, _⟩ := HH.out
        have l0 : i < m.tags.length := by rw [hm.tlen]; exact hlt
        obtain ⟨b, off, s1, u1, e1, d0, d1, hs, hu⟩ := (hm.tags.keep hrel.out.1.kept).get l0
        subst e1
        have hl := hz.lens _ (List.getElem_mem l0)
        have n1 := hs.size
        have n2 := hu.size
        have hC := fun W => rcheckT_calls hs hu (by omega) (by omega) W
        obtain ⟨r, hr2⟩ : ∃ r, rightT m.tags[i] = r := ⟨_, rfl⟩
        have hr3 : chkT m.tags[i] = if r = true then 0 else 19 := by unfold chkT; rw [hr2]
        rw [hr3] at hC
        have HC := Lib.hid hC
        have HR := Lib.hid hr2
        clear hm hz hs hu hl n1 n2 hC hr2 hr3
        go_wp2_with fail
        refine (HC.out _).mono ?_
        rintro e w2 ⟨rfl, hb⟩
        have HB2 := Lib.hid (hrel.out.1.next hb)
        clear hb HC d0 d1 c4 c5
        cases r
        · have HE := Lib.hid (show q = 19 by
            rw [← HQ.out]; refine rest19 H0.out H1.out H2.out H3.out ?_
            unfold tagsR
            rw [Bool.and_eq_false_iff]; right
            refine Bool.eq_false_iff.2 fun h => ?_
            have := List.all_eq_true.1 h _ (List.getElem_mem l0)
            rw [HR.out] at this; cases this)
          go_wp2_with fail
          go_ret
          exact ⟨by rw [HE.out]; rfl, HB2.out.kept⟩
        · go_wp2_with fail
          refine ⟨⟨i + 1, by go_num, by omega, ⟨HB2.out, fun j h hj => ?_⟩⟩, by simp [intOf]; omega⟩
          rcases Nat.lt_or_ge j i with h' | h'
          · exact hrel.out.2 j h h'
          · obtain rfl : i = j := by omega
            exact HR.out
      · have g1 : ¬ (i : Int) < (k : Int) := by omega
        have H4 := Lib.hid (show tagsR m.tags = true by
          unfold tagsR
          rw [HK.out.2.2.2.2, decide_eq_true (by omega), Bool.true_and]
          refine List.all_eq_true.2 fun t ht => ?_
          obtain ⟨j, hj, rfl⟩ := List.mem_iff_getElem.1 ht
          exact hrel.out.2 j hj (by have := HK.out.2.2.2.2; omega))
        rcases (by omega : tm < 0 ∨ (¬ tm < 0 ∧ 1099511627776 < tm) ∨ (¬ tm < 0 ∧ ¬ 1099511627776 < tm)) with k1 | ⟨k1, k2⟩ | ⟨k1, k2⟩
        · have HE := Lib.hid (show q = 20 by rw [← HQ.out]; refine rest20 H0.out H1.out H2.out H3.out H4.out ?_; rw [← HK.out.2.2.1]; exact decide_eq_false (by omega))
          go_wp2_with fail
          go_ret
          exact ⟨by rw [HE.out]; rfl, hrel.out.1.kept⟩
        · have HE := Lib.hid (show q = 20 by rw [← HQ.out]; refine rest20 H0.out H1.out H2.out H3.out H4.out ?_; rw [← HK.out.2.2.1]; exact decide_eq_false (by omega))
          go_wp2_with fail
          go_ret
          exact ⟨by rw [HE.out]; rfl, hrel.out.1.kept⟩
        · have HE := Lib.hid (show q = 0 by rw [← HQ.out]; refine rest0 H0.out H1.out H2.out H3.out H4.out ?_; rw [← HK.out.2.2.1]; exact decide_eq_true (by omega))
          go_wp2_with fail
          go_ret
          exact ⟨by rw [HE.out]; rfl, hrel.out.1.kept⟩
end
end Go.Proofs.Ytgnpakcofkhdkaa
