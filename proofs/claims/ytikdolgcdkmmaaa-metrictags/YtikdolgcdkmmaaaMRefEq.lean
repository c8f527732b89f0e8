/-
  Layer 7: the document's Equal. No statement of the seat is proved here.
-/
import Derived.Test.YtikdolgcdkmmaaaMNormal
namespace Go.Proofs.Ytikdolgcdkmmaaa
open Go.RowKit
open Dc (D D0)

section
variable {w : World} {s s' : ByteArray} {A B A' B' : Option Addr} {n k n' k' ca cb ca' cb' : Nat} {a b : Mt}
/-- Both metrics lie. -/
structure TwoM (w : World) (s : ByteArray) (kd : Int) (A : Option Addr) (n ca : Nat) (rt : Int) (B : Option Addr) (k cb : Nat) (tm : Int) (s' : ByteArray) (kd' : Int) (A' : Option Addr) (n' ca' : Nat) (rt' : Int) (B' : Option Addr) (k' cb' : Nat) (tm' : Int) (w' : World) : Prop where
  kept : Below w.heap.size w w'
  one : Box w' w.heap.size 25 (mC s kd A n ca rt B k cb tm)
  two : Box w' (w.heap.size + 1) 25 (mC s' kd' A' n' ca' rt' B' k' cb' tm')
theorem TwoM.next {w1 w2 : World} {kd rt tm kd' rt' tm' : Int} (h : TwoM w s kd A n ca rt B k cb tm s' kd' A' n' ca' rt' B' k' cb' tm' w1) (hb : Below w1.heap.size w1 w2) : TwoM w s kd A n ca rt B k cb tm s' kd' A' n' ca' rt' B' k' cb' tm' w2 := ⟨below_then h.kept hb, h.one.keep hb, h.two.keep hb⟩
theorem TwoM.drewN {w1 : World} {kd rt tm kd' rt' tm' : Int} (h : TwoM w s kd A n ca rt B k cb tm s' kd' A' n' ca' rt' B' k' cb' tm' w1) (j : Nat) : TwoM w s kd A n ca rt B k cb tm s' kd' A' n' ca' rt' B' k' cb' tm' (w1.drewN j) := h.next (Same.below (Same.drewN _ _))

set_option maxRecDepth 100000 in
set_option maxHeartbeats 8000000 in
theorem requal_calls (ha : MIs w s A n B k a) (hb : MIs w s' A' n' B' k' b) (za : Small a) :
    Calls Try.prog 12 #[mV s a.kind A n ca a.rate B k cb a.time, mV s' b.kind A' n' ca' b.rate B' k' cb' b.time] w fun e w' => e = .returned (.bool (decide (a = b))) ∧ Below w.heap.size w w' := by
  obtain ⟨q, hq⟩ : ∃ q, decide (a = b) = q := ⟨_, rfl⟩
  rw [hq]
  have HQ := Lib.hid hq
  clear hq
  obtain ⟨kd, hkd⟩ : ∃ x, x = a.kind := ⟨_, rfl⟩
  obtain ⟨rt, hrt⟩ : ∃ x, x = a.rate := ⟨_, rfl⟩
  obtain ⟨tm, htm⟩ : ∃ x, x = a.time := ⟨_, rfl⟩
  obtain ⟨kd', hkd'⟩ : ∃ x, x = b.kind := ⟨_, rfl⟩
  obtain ⟨rt', hrt'⟩ : ∃ x, x = b.rate := ⟨_, rfl⟩
  obtain ⟨tm', htm'⟩ : ∃ x, x = b.time := ⟨_, rfl⟩
  rw [← hkd, ← hrt, ← htm, ← hkd', ← hrt', ← htm']
  have HY := Lib.hid (And.intro hkd (And.intro hrt (And.intro htm (And.intro hkd' (And.intro hrt' htm')))))
  have hse := str_eq ha.name hb.name
  obtain ⟨qn, hqn⟩ : ∃ q, (a.name == b.name) = q := ⟨_, rfl⟩
  rw [hqn] at hse
  have HN := Lib.hid hqn
  have b0 := ((Kb.start w).push 25 (mC s kd A n ca rt B k cb tm)).push 25 (mC s' kd' A' n' ca' rt' B' k' cb' tm')
  rw [size_alloc] at b0
  have b1 : TwoM w s kd A n ca rt B k cb tm s' kd' A' n' ca' rt' B' k' cb' tm' _ := ⟨b0.kept, b0.box _ (.tail _ (.head _)), b0.box _ (.head _)⟩
  unfold mC at b1
  have HL := Lib.hid b1
  have HH := Lib.hid (And.intro ha (And.intro hb za))
  have z1 : n ≤ 1000 := by have := ha.vlen; have := za.vals; omega
  have z2 : k ≤ 1000 := by have := ha.tlen; have := za.tags; omega
  have hg := dguard
  have hg2 := tguard
  unfold mV
  clear b0 b1 hkd hrt htm hkd' hrt' htm' hqn ha hb za
  go_enter Try.func12, Try.ntmps12
  have hse' : (s.toList != s'.toList) = !qn := by rw [bne, hse]
  cases qn
  · have HZ := Lib.hid (show q = false by
      rw [← HQ.out]; exact decide_eq_false fun h => by have := HN.out; rw [(mt_ext.1 h).1] at this; simp at this)
    go_wp2_with fail
    go_ret
    exact ⟨by rw [HZ.out]; first | done | rfl, HL.out.kept⟩
  rcases (by omega : kd ≠ kd' ∨ (kd = kd' ∧ rt ≠ rt') ∨ (kd = kd' ∧ rt = rt' ∧ tm ≠ tm') ∨ (kd = kd' ∧ rt = rt' ∧ tm = tm' ∧ n ≠ n') ∨ (kd = kd' ∧ rt = rt' ∧ tm = tm' ∧ n = n' ∧ k ≠ k') ∨ (kd = kd' ∧ rt = rt' ∧ tm = tm' ∧ n = n' ∧ k = k')) with h | ⟨rfl, h⟩ | ⟨rfl, rfl, h⟩ | ⟨rfl, rfl, rfl, h⟩ | ⟨rfl, rfl, rfl, rfl, h⟩ | ⟨rfl, rfl, rfl, rfl, rfl⟩
  · have HZ := Lib.hid (show q = false by
      obtain ⟨h1, h2, h3, h4, h5, h6⟩ := HY.out
      rw [← HQ.out]; exact decide_eq_false fun e => h (by rw [h1, h4, e]))
    have h1 : (kd != kd') = true := by simpa using h
    go_wp2_with fail
    go_ret
    exact ⟨by rw [HZ.out]; first | done | rfl, HL.out.kept⟩
  · have HZ := Lib.hid (show q = false by
      obtain ⟨h1, h2, h3, h4, h5, h6⟩ := HY.out
      rw [← HQ.out]; exact decide_eq_false fun e => h (by rw [h2, h5, e]))
    have h1 : (rt != rt') = true := by simpa using h
    go_wp2_with fail
    go_ret
    exact ⟨by rw [HZ.out]; first | done | rfl, HL.out.kept⟩
  · have HZ := Lib.hid (show q = false by
      obtain ⟨h1, h2, h3, h4, h5, h6⟩ := HY.out
      rw [← HQ.out]; exact decide_eq_false fun e => h (by rw [h3, h6, e]))
    have h1 : (tm != tm') = true := by simpa using h
    go_wp2_with fail
    go_ret
    exact ⟨by rw [HZ.out]; first | done | rfl, HL.out.kept⟩
  · have HZ := Lib.hid (show q = false by
      rw [← HQ.out]; exact decide_eq_false fun e => h (by rw [← HH.out.1.vlen, ← HH.out.2.1.vlen, e]))
    have h1 : ((n : Int) != (n' : Int)) = true := by simp; omega
    go_wp2_with fail
    go_ret
    exact ⟨by rw [HZ.out]; first | done | rfl, HL.out.kept⟩
  · have HZ := Lib.hid (show q = false by
      rw [← HQ.out]; exact decide_eq_false fun e => h (by rw [← HH.out.1.tlen, ← HH.out.2.1.tlen, e]))
    have h1 : ((k : Int) != (k' : Int)) = true := by simp; omega
    go_wp2_with fail
    go_ret
    exact ⟨by rw [HZ.out]; first | done | rfl, HL.out.kept⟩
  go_wp2_with fail
  go_loopw [5] (fun v wr => ∃ i : Nat, v = .int .i64 i ∧ i ≤ n ∧ Hid (TwoM w s kd A n ca rt B k cb tm s' kd A' n ca' rt B' k cb' tm wr ∧ ∀ j (h : j < a.vals.length) (g : j < b.vals.length), j < i → a.vals[j] = b.vals[j])) (fun v _ => n - (intOf v).toNat)
  case atStart => exact ⟨0, rfl, by omega, ⟨HL.out, fun j _ _ hj => absurd hj (by omega)⟩⟩
  case round =>
    obtain ⟨i, rfl, hin, hrel⟩ := hrel
    clear HL
    have m2 : wr.cell? ⟨w.heap.size, 2, none⟩ = some (.slice A n ca) := hrel.out.1.one.cell 2
    by_cases hlt : i < n
    · have g1 : (i : Int) < (n : Int) := by omega
      have g2 : (0 : Int) ≤ (i : Int) := by omega
      have p2 : wr.cell? ⟨w.heap.size + 1, 2, none⟩ = some (.slice A' n ca') := hrel.out.1.two.cell 2
      obtain ⟨ha, hb, _⟩ := HH.out
      have l1 : i < a.vals.length := by rw [ha.vlen]; exact hlt
      have l2 : i < b.vals.length := by rw [hb.vlen]; exact hlt
      obtain ⟨bb, off, p, x, y, e1, c0, c1, c2, hd⟩ := (ha.vals.keep hrel.out.1.kept).get l1
      obtain ⟨b', off', p', x', y', e2, d0, d1, d2, hd'⟩ := (hb.vals.keep hrel.out.1.kept).get l2
      subst e1 e2
      by_cases he : a.vals[i] = b.vals[i]
      · have kk := dne_run hd hd' (decide_eq_true he)
        have HE := Lib.hid he
        clear ha hb hd hd' he
        go_wp2_with fail
        go_quiet (fail)
        go_wp2_with fail
        refine ⟨⟨i + 1, by go_num, by omega, ⟨hrel.out.1.drewN _, fun j h g hj => ?_⟩⟩, by simp [intOf]; omega⟩
        rcases Nat.lt_or_ge j i with h' | h'
        · exact hrel.out.2 j h g h'
        · obtain rfl : i = j := by omega
          exact HE.out
      · have kk := dne_run hd hd' (decide_eq_false he)
        have HE := Lib.hid (show q = false by rw [← HQ.out]; exact decide_eq_false fun h => he (by subst h; rfl))
        clear ha hb hd hd' he
        go_wp2_with fail
        go_quiet (fail)
        go_wp2_with fail
        go_ret
        exact ⟨by rw [HE.out]; first | done | rfl, (hrel.out.1.drewN _).kept⟩
    · have g1 : ¬ (i : Int) < (n : Int) := by omega
      have HV := Lib.hid (show a.vals = b.vals by
        obtain ⟨ha, hb, _⟩ := HH.out
        exact List.ext_getElem (by rw [ha.vlen, hb.vlen]) fun j h g => hrel.out.2 j h g (by have := ha.vlen; omega))
      have HL := Lib.hid hrel.out.1
      clear hrel hlt
      obtain ⟨wo, hwo⟩ : ∃ wo, wo = wr := ⟨_, rfl⟩
      subst hwo
      go_wp2_with fail
      go_loopw [6] (fun v wr => ∃ i : Nat, v = .int .i64 i ∧ i ≤ k ∧ Hid (TwoM w s kd A n ca rt B k cb tm s' kd A' n ca' rt B' k cb' tm wr ∧ ∀ j (h : j < a.tags.length) (g : j < b.tags.length), j < i → a.tags[j] = b.tags[j])) (fun v _ => k - (intOf v).toNat)
      case atStart => exact ⟨0, rfl, by omega, ⟨HL.out, fun j _ _ hj => absurd hj (by omega)⟩⟩
      case round =>
        obtain ⟨i, rfl, hin, hrel⟩ := hrel
        clear HL m2 g1
        have m4 : wr.cell? ⟨w.heap.size, 4, none⟩ = some (.slice B k cb) := hrel.out.1.one.cell 4
        by_cases hlt : i < k
        · have g1 : (i : Int) < (k : Int) := by omega
          have g2 : (0 : Int) ≤ (i : Int) := by omega
          have p4 : wr.cell? ⟨w.heap.size + 1, 4, none⟩ = some (.slice B' k cb') := hrel.out.1.two.cell 4
          obtain ⟨ha, hb, _⟩ := HH.out
          have l1 : i < a.tags.length := by rw [ha.tlen]; exact hlt
          have l2 : i < b.tags.length := by rw [hb.tlen]; exact hlt
          obtain ⟨bb, off, s1, t1, e1, c0, c1, hs, ht⟩ := (ha.tags.keep hrel.out.1.kept).get l1
          obtain ⟨b', off', s2, t2, e2, d0, d1, hs', ht'⟩ := (hb.tags.keep hrel.out.1.kept).get l2
          subst e1 e2
          by_cases he : a.tags[i] = b.tags[i]
          · have kk := tne_run hs ht hs' ht' (decide_eq_true he)
            have HE := Lib.hid he
            clear ha hb hs ht hs' ht' he
            go_wp2_with fail
            go_quiet (fail)
            go_wp2_with fail
            refine ⟨⟨i + 1, by go_num, by omega, ⟨hrel.out.1.drewN _, fun j h g hj => ?_⟩⟩, by simp [intOf]; omega⟩
            rcases Nat.lt_or_ge j i with h' | h'
            · exact hrel.out.2 j h g h'
            · obtain rfl : i = j := by omega
              exact HE.out
          · have kk := tne_run hs ht hs' ht' (decide_eq_false he)
            have HE := Lib.hid (show q = false by rw [← HQ.out]; exact decide_eq_false fun h => he (by subst h; rfl))
            clear ha hb hs ht hs' ht' he
            go_wp2_with fail
            go_quiet (fail)
            go_wp2_with fail
            go_ret
            exact ⟨by rw [HE.out]; first | done | rfl, (hrel.out.1.drewN _).kept⟩
        · have g1 : ¬ (i : Int) < (k : Int) := by omega
          have HE := Lib.hid (show q = true by
            obtain ⟨ha, hb, _⟩ := HH.out
            obtain ⟨h1, h2, h3, h4, h5, h6⟩ := HY.out
            rw [← HQ.out]
            refine decide_eq_true (mt_ext.2 ⟨by simpa using HN.out, by rw [← h1, h4], by rw [← h2, h5], by rw [← h3, h6], HV.out, ?_⟩)
            exact List.ext_getElem (by rw [ha.tlen, hb.tlen]) fun j h g => hrel.out.2 j h g (by have := ha.tlen; omega))
          go_wp2_with fail
          go_ret
          exact ⟨by rw [HE.out]; first | done | rfl, hrel.out.1.kept⟩
end
end Go.Proofs.Ytikdolgcdkmmaaa
