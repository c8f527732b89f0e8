/-
  MSame, MRefEq, TKeep, MAwake. No statement of the seat is proved here.
-/
import Derived.Test.YteffankkelbhiaaMNormal
import Derived.Test.YteffankkelbhiaaTN0
/-
  Package metric: Is and Same. No statement of the seat is proved here.
-/
namespace Go.Proofs.Yteffankkelbhiaa
open Go.RowKit
open Dc (D D0)

section
variable {w : World} {s s' : ByteArray} {A B A' B' : Option Addr} {n k ca cb n' k' ca' cb' : Nat} {m a b : Mt}

end
end Go.Proofs.Yteffankkelbhiaa

/-
  Layer 7: the document's Equal. No statement of the seat is proved here.
-/
namespace Go.Proofs.Yteffankkelbhiaa
open Go.RowKit
open Dc (D D0)

section
variable {w : World} {s s' : ByteArray} {A B A' B' : Option Addr} {n k n' k' ca cb ca' cb' : Nat} {a b : Mt}
/-- Both metrics lie. -/
structure TwoM (w : World) (s : ByteArray) (kd : Int) (A : Option Addr) (n ca : Nat) (rt : Int) (B : Option Addr) (k cb : Nat) (tm : Int) (s' : ByteArray) (kd' : Int) (A' : Option Addr) (n' ca' : Nat) (rt' : Int) (B' : Option Addr) (k' cb' : Nat) (tm' : Int) (w' : World) : Prop where
  kept : Below w.heap.size w w'
  one : Box w' w.heap.size 25 (mC s kd A n ca rt B k cb tm)
  two : Box w' (w.heap.size + 1) 25 (mC s' kd' A' n' ca' rt' B' k' cb' tm')
theorem TwoM.next {w1 w2 : World} {kd rt tm kd' rt' tm' : Int} (h : TwoM w s kd A n ca rt B k cb tm s' kd' A' n' ca' rt' B' k' cb' tm' w1) (hb : Below w1.heap.size w1 w2) : TwoM w s kd A n ca rt B k cb tm s' kd' A' n' ca' rt' B' k' cb' tm' w2 := ⟨below_then h.kept hb, h.one.keep hb, h.two.keep hb⟩
theorem TwoM.drewN {w1 : World} {kd rt tm kd' rt' tm' : Int} (h : TwoM w s kd A n ca rt B k cb tm s' kd' A' n' ca' rt' B' k' cb' tm' w1) (j : Nat) : TwoM w s kd A n ca rt B k cb tm s' kd' A' n' ca' rt' B' k' cb' tm' (w1.drewN j) := h.next (Same.below (Same.drewN _ _))

set_option maxRecDepth 100000 in
set_option maxHeartbeats 8000000 in
theorem requal_calls (ha : MIs w s A n B k a) (hb : MIs w s' A' n' B' k' b) (za : Small a) :
    Calls Try.prog 29 #[mV s a.kind A n ca a.rate B k cb a.time, mV s' b.kind A' n' ca' b.rate B' k' cb' b.time] w fun e w' => e = .returned (.bool (decide (a = b))) ∧ Below w.heap.size w w' := by
  obtain ⟨q, hq⟩ : ∃ q, decide (a = b) = q := ⟨_, rfl⟩
  rw [hq]
  have HQ := Lib.hid hq
  clear hq
  obtain ⟨kd, hkd⟩ : ∃ x, x = a.kind := ⟨_, rfl⟩
  obtain ⟨rt, hrt⟩ : ∃ x, x = a.rate := ⟨_, rfl⟩
  obtain ⟨tm, htm⟩ : ∃ x, x = a.time := ⟨_, rfl⟩
  obtain ⟨kd', hkd'⟩ : ∃ x, x = b.kind := ⟨_, rfl⟩
  obtain ⟨rt', hrt'⟩ : ∃ x, x = b.rate := ⟨_, rfl⟩
  obtain ⟨tm', htm'⟩ : ∃ x, x = b.time := ⟨_, rfl⟩
  rw [← hkd, ← hrt, ← htm, ← hkd', ← hrt', ← htm']
  have HY := Lib.hid (And.intro hkd (And.intro hrt (And.intro htm (And.intro hkd' (And.intro hrt' htm')))))
  have hse := str_eq ha.name hb.name
  obtain ⟨qn, hqn⟩ : ∃ q, (a.name == b.name) = q := ⟨_, rfl⟩
  rw [hqn] at hse
  have HN := Lib.hid hqn
  have b0 := ((Kb.start w).push 25 (mC s kd A n ca rt B k cb tm)).push 25 (mC s' kd' A' n' ca' rt' B' k' cb' tm')
  rw [size_alloc] at b0
  have b1 : TwoM w s kd A n ca rt B k cb tm s' kd' A' n' ca' rt' B' k' cb' tm' _ := ⟨b0.kept, b0.box _ (.tail _ (.head _)), b0.box _ (.head _)⟩
  unfold mC at b1
  have HL := Lib.hid b1
  have HH := Lib.hid (And.intro ha (And.intro hb za))
  have z1 : n ≤ 1000 := by have := ha.vlen; have := za.vals; omega
  have z2 : k ≤ 1000 := by have := ha.tlen; have := za.tags; omega
  have hg := dguard
  have hg2 := tguard
  unfold mV
  clear b0 b1 hkd hrt htm hkd' hrt' htm' hqn ha hb za
  go_enter Try.func29, Try.ntmps29
  have hse' : (s.toList != s'.toList) = !qn := by rw [bne, hse]
  cases qn
  · have HZ := Lib.hid (show q = false by
      rw [← HQ.out]; exact decide_eq_false fun h => by have := HN.out; rw [(mt_ext.1 h).1] at this; simp at this)
    go_wp2_with fail
    go_ret
    exact ⟨by rw [HZ.out]; first | done | rfl, HL.out.kept⟩
  rcases (by omega : kd ≠ kd' ∨ (kd = kd' ∧ rt ≠ rt') ∨ (kd = kd' ∧ rt = rt' ∧ tm ≠ tm') ∨ (kd = kd' ∧ rt = rt' ∧ tm = tm' ∧ n ≠ n') ∨ (kd = kd' ∧ rt = rt' ∧ tm = tm' ∧ n = n' ∧ k ≠ k') ∨ (kd = kd' ∧ rt = rt' ∧ tm = tm' ∧ n = n' ∧ k = k')) with h | ⟨rfl, h⟩ | ⟨rfl, rfl, h⟩ | ⟨rfl, rfl, rfl, h⟩ | ⟨rfl, rfl, rfl, rfl, h⟩ | ⟨rfl, rfl, rfl, rfl, rfl⟩
  · have HZ := Lib.hid (show q = false by
      obtain ⟨h1, h2, h3, h4, h5, h6⟩ := HY.out
      rw [← HQ.out]; exact decide_eq_false fun e => h (by rw [h1, h4, e]))
    have h1 : (kd != kd') = true := by simpa using h
    go_wp2_with fail
    go_ret
    exact ⟨by rw [HZ.out]; first | done | rfl, HL.out.kept⟩
  · have HZ := Lib.hid (show q = false by
      obtain ⟨h1, h2, h3, h4, h5, h6⟩ := HY.out
      rw [← HQ.out]; exact decide_eq_false fun e => h (by rw [h2, h5, e]))
    have h1 : (rt != rt') = true := by simpa using h
    go_wp2_with fail
    go_ret
    exact ⟨by rw [HZ.out]; first | done | rfl, HL.out.kept⟩
  · have HZ := Lib.hid (show q = false by
      obtain ⟨h1, h2, h3, h4, h5, h6⟩ := HY.out
      rw [← HQ.out]; exact decide_eq_false fun e => h (by rw [h3, h6, e]))
    have h1 : (tm != tm') = true := by simpa using h
    go_wp2_with fail
    go_ret
    exact ⟨by rw [HZ.out]; first | done | rfl, HL.out.kept⟩
  · have HZ := Lib.hid (show q = false by
      rw [← HQ.out]; exact decide_eq_false fun e => h (by rw [← HH.out.1.vlen, ← HH.out.2.1.vlen, e]))
    have h1 : ((n : Int) != (n' : Int)) = true := by simp; omega
    go_wp2_with fail
    go_ret
    exact ⟨by rw [HZ.out]; first | done | rfl, HL.out.kept⟩
  · have HZ := Lib.hid (show q = false by
      rw [← HQ.out]; exact decide_eq_false fun e => h (by rw [← HH.out.1.tlen, ← HH.out.2.1.tlen, e]))
    have h1 : ((k : Int) != (k' : Int)) = true := by simp; omega
    go_wp2_with fail
    go_ret
    exact ⟨by rw [HZ.out]; first | done | rfl, HL.out.kept⟩
  go_wp2_with fail
  go_loopw [5] (fun v wr => ∃ i : Nat, v = .int .i64 i ∧ i ≤ n ∧ Hid (TwoM w s kd A n ca rt B k cb tm s' kd A' n ca' rt B' k cb' tm wr ∧ ∀ j (h : j < a.vals.length) (g : j < b.vals.length), j < i → a.vals[j] = b.vals[j])) (fun v _ => n - (intOf v).toNat)
  case atStart => exact ⟨0, rfl, by omega, ⟨HL.out, fun j _ _ hj => absurd hj (by omega)⟩⟩
  case round =>
    obtain ⟨i, rfl, hin, hrel⟩ := hrel
    clear HL
    have m2 : wr.cell? ⟨w.heap.size, 2, none⟩ = some (.slice A n ca) := hrel.out.1.one.cell 2
    by_cases hlt : i < n
    · have g1 : (i : Int) < (n : Int) := by omega
      have g2 : (0 : Int) ≤ (i : Int) := by omega
      have p2 : wr.cell? ⟨w.heap.size + 1, 2, none⟩ = some (.slice A' n ca') := hrel.out.1.two.cell 2
      obtain ⟨ha, hb, _⟩ := HH.out
      have l1 : i < a.vals.length := by rw [ha.vlen]; exact hlt
      have l2 : i < b.vals.length := by rw [hb.vlen]; exact hlt
      obtain ⟨bb, off, p, x, y, e1, c0, c1, c2, hd⟩ := (ha.vals.keep hrel.out.1.kept).get l1
      obtain ⟨b', off', p', x', y', e2, d0, d1, d2, hd'⟩ := (hb.vals.keep hrel.out.1.kept).get l2
      subst e1 e2
      by_cases he : a.vals[i] = b.vals[i]
      · have kk := dne_run hd hd' (decide_eq_true he)
        have HE := Lib.hid he
        clear ha hb hd hd' he
        go_wp2_with fail
        go_quiet (fail)
        go_wp2_with fail
        refine ⟨⟨i + 1, by go_num, by omega, ⟨hrel.out.1.drewN _, fun j h g hj => ?_⟩⟩, by simp [intOf]; omega⟩
        rcases Nat.lt_or_ge j i with h' | h'
        · exact hrel.out.2 j h g h'
        · obtain rfl : i = j := by omega
          exact HE.out
      · have kk := dne_run hd hd' (decide_eq_false he)
        have HE := Lib.hid (show q = false by rw [← HQ.out]; exact decide_eq_false fun h => he (by subst h; rfl))
        clear ha hb hd hd' he
        go_wp2_with fail
        go_quiet (fail)
        go_wp2_with fail
        go_ret
        exact ⟨by rw [HE.out]; first | done | rfl, (hrel.out.1.drewN _).kept⟩
    · have g1 : ¬ (i : Int) < (n : Int) := by omega
      have HV := Lib.hid (show a.vals = b.vals by
        obtain ⟨ha, hb, _⟩ := HH.out
        exact List.ext_getElem (by rw [ha.vlen, hb.vlen]) fun j h g => hrel.out.2 j h g (by have := ha.vlen; omega))
      have HL := Lib.hid hrel.out.1
      clear hrel hlt
      obtain ⟨wo, hwo⟩ : ∃ wo, wo = wr := ⟨_, rfl⟩
      subst hwo
      go_wp2_with fail
      go_loopw [6] (fun v wr => ∃ i : Nat, v = .int .i64 i ∧ i ≤ k ∧ Hid (TwoM w s kd A n ca rt B k cb tm s' kd A' n ca' rt B' k cb' tm wr ∧ ∀ j (h : j < a.tags.length) (g : j < b.tags.length), j < i → a.tags[j] = b.tags[j])) (fun v _ => k - (intOf v).toNat)
      case atStart => exact ⟨0, rfl, by omega, ⟨HL.out, fun j _ _ hj => absurd hj (by omega)⟩⟩
      case round =>
        obtain ⟨i, rfl, hin, hrel⟩ := hrel
        clear HL m2 g1
        have m4 : wr.cell? ⟨w.heap.size, 4, none⟩ = some (.slice B k cb) := hrel.out.1.one.cell 4
        by_cases hlt : i < k
        · have g1 : (i : Int) < (k : Int) := by omega
          have g2 : (0 : Int) ≤ (i : Int) := by omega
          have p4 : wr.cell? ⟨w.heap.size + 1, 4, none⟩ = some (.slice B' k cb') := hrel.out.1.two.cell 4
          obtain ⟨ha, hb, _⟩ := HH.out
          have l1 : i < a.tags.length := by rw [ha.tlen]; exact hlt
          have l2 : i < b.tags.length := by rw [hb.tlen]; exact hlt
          obtain ⟨bb, off, s1, t1, e1, c0, c1, hs, ht⟩ := (ha.tags.keep hrel.out.1.kept).get l1
          obtain ⟨b', off', s2, t2, e2, d0, d1, hs', ht'⟩ := (hb.tags.keep hrel.out.1.kept).get l2
          subst e1 e2
          by_cases he : a.tags[i] = b.tags[i]
          · have kk := tne_run hs ht hs' ht' (decide_eq_true he)
            have HE := Lib.hid he
            clear ha hb hs ht hs' ht' he
            go_wp2_with fail
            go_quiet (fail)
            go_wp2_with fail
            refine ⟨⟨i + 1, by go_num, by omega, ⟨hrel.out.1.drewN _, fun j h g hj => ?_⟩⟩, by simp [intOf]; omega⟩
            rcases Nat.lt_or_ge j i with h' | h'
            · exact hrel.out.2 j h g h'
            · obtain rfl : i = j := by omega
              exact HE.out
          · have kk := tne_run hs ht hs' ht' (decide_eq_false he)
            have HE := Lib.hid (show q = false by rw [← HQ.out]; exact decide_eq_false fun h => he (by subst h; rfl))
            clear ha hb hs ht hs' ht' he
            go_wp2_with fail
            go_quiet (fail)
            go_wp2_with fail
            go_ret
            exact ⟨by rw [HE.out]; first | done | rfl, (hrel.out.1.drewN _).kept⟩
        · have g1 : ¬ (i : Int) < (k : Int) := by omega
          have HE := Lib.hid (show q = true by
            obtain ⟨ha, hb, _⟩ := HH.out
            obtain ⟨h1, h2, h3, h4, h5, h6⟩ := HY.out
            rw [← HQ.out]
            refine decide_eq_true (mt_ext.2 ⟨by simpa using HN.out, by rw [← h1, h4], by rw [← h2, h5], by rw [← h3, h6], HV.out, ?_⟩)
            exact List.ext_getElem (by rw [ha.tlen, hb.tlen]) fun j h g => hrel.out.2 j h g (by have := ha.tlen; omega))
          go_wp2_with fail
          go_ret
          exact ⟨by rw [HE.out]; first | done | rfl, hrel.out.1.kept⟩
end
end Go.Proofs.Yteffankkelbhiaa

/-
  What lies so while a law goes on: cells, and rows of tags. No statement of the seat is proved here.
-/
namespace Go.Proofs.Yteffankkelbhiaa
open Go.RowKit

/-- These cells, and these rows of tags, lie so, and nothing old has changed. -/
structure Kp (w0 : World) (L : List (Addr × Value)) (R : List (Option Addr × List Tg)) (w : World) : Prop where
  kept : Below w0.heap.size w0 w
  has : ∀ x ∈ L, w.cell? x.1 = some x.2
  rows : ∀ x ∈ R, Tags w x.1 x.2
section
variable {w0 w w' : World} {L : List (Addr × Value)} {R : List (Option Addr × List Tg)}
theorem Kp.start (w : World) : Kp w [] [] w := ⟨Below.refl _ _, by simp, by simp⟩
theorem Kp.next (h : Kp w0 L R w) (k : Below w.heap.size w w') : Kp w0 L R w' := ⟨below_then h.kept k, fun x hx => (k.cell (cell_lt (h.has x hx))).trans (h.has x hx), fun x hx => (h.rows x hx).keep k⟩
theorem Kp.drew (h : Kp w0 L R w) : Kp w0 L R w.drew := h.next (Same.below (Same.drewN w 1))
theorem Kp.alloc (h : Kp w0 L R w) (o : Obj) : Kp w0 L R (w.alloc o) := h.next ((Below.refl _ _).alloc (Nat.le_refl _) o)
theorem Kp.push (h : Kp w0 L R w) (t : TypeId) (a b : Value) : Kp w0 ((⟨w.heap.size, 0, none⟩, a) :: (⟨w.heap.size, 1, none⟩, b) :: L) R (w.alloc (.cells #[a, b] t)) := by
  have h' := h.alloc (.cells #[a, b] t)
  refine ⟨h'.kept, fun x hx => ?_, h'.rows⟩
  have hb := Box.new w t [a, b]
  rcases List.mem_cons.1 hx with rfl | hx
  · exact hb.cell 0
  · rcases List.mem_cons.1 hx with rfl | hx
    · exact hb.cell 1
    · exact h'.has x hx
theorem Kp.row (h : Kp w0 L R w) {A : Option Addr} {ts : List Tg} (ha : Tags w A ts) : Kp w0 L ((A, ts) :: R) w := ⟨h.kept, h.has, fun x hx => by
  rcases List.mem_cons.1 hx with rfl | hx
  · exact ha
  · exact h.rows x hx⟩
theorem Kp.cell {a : Addr} {v : Value} (h : Kp w0 L R w) (hm : (a, v) ∈ L) : w.cell? a = some v := h.has (a, v) hm
theorem Kp.tags {A : Option Addr} {ts : List Tg} (h : Kp w0 L R w) (hm : (A, ts) ∈ R) : Tags w A ts := h.rows (A, ts) hm
end

theorem tags_lit {w : World} {n : Nat} (hn : w.heap.size = n) (ts : List Tg) : Tags (w.alloc (.cells (flat ts).toArray 47)) (some ⟨n, 0, none⟩) ts := by
  subst hn
  intro i u hu
  exact ⟨w.heap.size, 0, rfl, by rw [Nat.zero_add, (Box.new w 47 (flat ts)).cell i]; exact hu⟩

theorem Tags.drew {w : World} {A : Option Addr} {ts : List Tg} (h : Tags w A ts) : Tags w.drew A ts := h.keep (Same.below (Same.drewN w 1))
theorem Tags.alloc {w : World} {A : Option Addr} {ts : List Tg} (h : Tags w A ts) (o : Obj) : Tags (w.alloc o) A ts := h.keep ((Below.refl _ _).alloc (Nat.le_refl _) o)
end Go.Proofs.Yteffankkelbhiaa

/-
  Layer 7: Few and awake. No statement of the seat is proved here.
-/
namespace Go.Proofs.Yteffankkelbhiaa
open Go.RowKit
open Dc (D D0)

/-- A name of up to 300 bytes, up to 80 values, up to 40 tags of up to 150 bytes each. -/
def fewM (m : Mt) : Bool := decide (m.name.length ≤ 300 ∧ m.vals.length ≤ 80 ∧ m.tags.length ≤ 40 ∧ ∀ t ∈ m.tags, t.1.length ≤ 150 ∧ t.2.length ≤ 150)
theorem few_small {m : Mt} (h : fewM m = true) (hf : ∀ d ∈ m.vals, d.Fits) : Small m := by
  obtain ⟨h1, h2, h3, h4⟩ := of_decide_eq_true h
  exact ⟨by omega, by omega, hf, by omega, fun t ht => by have := h4 t ht; omega⟩

section
variable {w : World} {s : ByteArray} {A B : Option Addr} {n k ca cb : Nat} {m : Mt}
set_option maxRecDepth 100000 in
set_option maxHeartbeats 4000000 in
theorem fewm_calls (h : MIs w s A n B k m) : Calls Try.prog 8 #[mV s m.kind A n ca m.rate B k cb m.time] w fun e w' => e = .returned (.bool (fewM m)) ∧ Below w.heap.size w w' := by
  obtain ⟨q, hq⟩ : ∃ q, fewM m = q := ⟨_, rfl⟩
  rw [hq]
  have HQ := Lib.hid hq
  have n1 := h.name.size
  generalize m.kind = kd
  generalize m.rate = rt
  generalize m.time = tm
  have b0 := (Kb.start w).push 25 (mC s kd A n ca rt B k cb tm)
  unfold mC at b0
  have HB := Lib.hid b0
  have HH := Lib.hid (And.intro h n1)
  unfold mV
  clear b0 hq h n1
  go_enter Try.func8, Try.ntmps8
  rcases (by omega : 300 < (s.size : Int) ∨ (¬ 300 < (s.size : Int) ∧ 80 < (n : Int)) ∨ (¬ 300 < (s.size : Int) ∧ ¬ 80 < (n : Int) ∧ 40 < (k : Int)) ∨ (¬ 300 < (s.size : Int) ∧ ¬ 80 < (n : Int) ∧ ¬ 40 < (k : Int))) with h1 | ⟨h1, h2⟩ | ⟨h1, h2, h3⟩ | ⟨h1, h2, h3⟩
  · have HE := Lib.hid (show q = false by rw [← HQ.out]; exact decide_eq_false fun ⟨h, _⟩ => by have := HH.out.2; omega)
    go_wp2_with fail
    go_ret
    exact ⟨by rw [HE.out]; first | done | rfl, HB.out.kept⟩
  · have HE := Lib.hid (show q = false by rw [← HQ.out]; exact decide_eq_false fun ⟨_, h, _⟩ => by have := HH.out.1.vlen; omega)
    go_wp2_with fail
    go_ret
    exact ⟨by rw [HE.out]; first | done | rfl, HB.out.kept⟩
  · have HE := Lib.hid (show q = false by rw [← HQ.out]; exact decide_eq_false fun ⟨_, _, h, _⟩ => by have := HH.out.1.tlen; omega)
    go_wp2_with fail
    go_ret
    exact ⟨by rw [HE.out]; first | done | rfl, HB.out.kept⟩
  · have HZ := Lib.hid (show m.name.length ≤ 300 ∧ m.vals.length ≤ 80 ∧ m.tags.length ≤ 40 by
      have a1 := HH.out.2
      have a2 := HH.out.1.vlen
      have a3 := HH.out.1.tlen
      omega)
    go_wp2_with fail
    go_loopw [3] (fun v wr => ∃ i : Nat, v = .int .i64 i ∧ i ≤ k ∧ Hid (Kb w [(w.heap.size, 25, [.string s, .int .i64 kd, .slice A n ca, .int .i64 rt, .slice B k cb, .int .i64 tm])] [] wr ∧ ∀ j (h : j < m.tags.length), j < i → m.tags[j].1.length ≤ 150 ∧ m.tags[j].2.length ≤ 150)) (fun v _ => k - (intOf v).toNat)
    case atStart => exact ⟨0, rfl, by omega, ⟨HB.out, fun j _ hj => absurd hj (by omega)⟩⟩
    case round =>
      obtain ⟨i, rfl, hin, hrel⟩ := hrel
      clear HB
      have c4 : wr.cell? ⟨w.heap.size, 4, none⟩ = some (.slice B k cb) := hrel.out.1.cell (.head _) rfl
      by_cases hlt : i < k
      · have g1 : (i : Int) < (k : Int) := by omega
        have g2 : (0 : Int) ≤ (i : Int) := by omega
        have hm := HH.out.1
        have l0 : i < m.tags.length := by rw [hm.tlen]; exact hlt
        obtain ⟨b, off, s1, t1, e1, d0, d1, hs, ht⟩ := (hm.tags.keep hrel.out.1.kept).get l0
        subst e1
        have z1 := hs.size
        have z2 := ht.size
        rcases (by omega : 150 < (s1.size : Int) ∨ (¬ 150 < (s1.size : Int) ∧ 150 < (t1.size : Int)) ∨ (¬ 150 < (s1.size : Int) ∧ ¬ 150 < (t1.size : Int))) with k1 | ⟨k1, k2⟩ | ⟨k1, k2⟩
        · have HE := Lib.hid (show q = false by
            rw [← HQ.out]
            exact decide_eq_false fun ⟨_, _, _, h⟩ => by have := (h _ (List.getElem_mem l0)).1; omega)
          clear hm hs ht z1 z2
          go_wp2_with fail
          go_ret
          exact ⟨by rw [HE.out]; first | done | rfl, hrel.out.1.kept⟩
        · have HE := Lib.hid (show q = false by
            rw [← HQ.out]
            exact decide_eq_false fun ⟨_, _, _, h⟩ => by have := (h _ (List.getElem_mem l0)).2; omega)
          clear hm hs ht z1 z2
          go_wp2_with fail
          go_ret
          exact ⟨by rw [HE.out]; first | done | rfl, hrel.out.1.kept⟩
        · have HE := Lib.hid (show m.tags[i].1.length ≤ 150 ∧ m.tags[i].2.length ≤ 150 by omega)
          clear hm hs ht z1 z2
          go_wp2_with fail
          refine ⟨⟨i + 1, by go_num, by omega, ⟨hrel.out.1, fun j h hj => ?_⟩⟩, by simp [intOf]; omega⟩
          rcases Nat.lt_or_ge j i with h' | h'
          · exact hrel.out.2 j h h'
          · obtain rfl : i = j := by omega
            exact HE.out
      · have g1 : ¬ (i : Int) < (k : Int) := by omega
        have HE := Lib.hid (show q = true by
          rw [← HQ.out]
          obtain ⟨z1, z2, z3⟩ := HZ.out
          refine decide_eq_true ⟨z1, z2, z3, fun t ht => ?_⟩
          obtain ⟨j, hj, rfl⟩ := List.mem_iff_getElem.1 ht
          exact hrel.out.2 j hj (by have := HH.out.1.tlen; omega))
        go_wp2_with fail
        go_ret
        exact ⟨by rw [HE.out]; first | done | rfl, hrel.out.1.kept⟩
end

def mA : Mt := ⟨[97], 1, [⟨false, 10, 0⟩], 1000000, [([98], []), ([97], []), ([98], [])], 0⟩
def mB : Mt := ⟨[97], 1, [⟨false, 1, 1⟩], 1000000, [([97], []), ([98], [])], 0⟩
theorem awN : Dc.normal ⟨false, 10, 0⟩ = some ⟨false, 1, 1⟩ := by
  unfold Dc.normal
  show Option.map _ (Dc.norm (1 * 10) 0) = _
  rw [Dc.norm_ten, Dc.norm_fix (.inr ⟨by decide, by decide, by decide, by decide, by decide⟩)]
  rfl
theorem awH : hasN mA.vals = true := by unfold hasN mA; simp [awN]
theorem awC : codeM mA = 0 := by
  show restM mA (hasN mA.vals) = 0
  rw [awH]; decide +kernel
theorem awF : nM mA = mB := by
  rw [nM_ok awC]
  unfold formM mA mB
  simp only [List.map_cons, List.map_nil, Mt.mk.injEq, true_and, and_true]
  refine ⟨by unfold form; rw [awN]; rfl, by decide +kernel⟩
theorem awK : checkM mA = 17 := by
  show restM mA (okV mA.vals) = 17
  have : okV mA.vals = false := by
    unfold okV mA
    simp only [List.all_cons, List.all_nil, Bool.and_true]
    refine decide_eq_false fun h => ?_
    have := Dc.normal_fix (Dc.check_ok.1 h)
    rw [awN] at this
    cases this
  rw [this]; decide +kernel
theorem small_mA : Small mA := ⟨by decide, by decide, by intro d hd; simp [mA] at hd; subst hd; exact ⟨by decide, by decide, by decide⟩, by decide, by decide⟩
theorem small_mB : Small mB := ⟨by decide, by decide, by intro d hd; simp [mB] at hd; subst hd; exact ⟨by decide, by decide, by decide⟩, by decide, by decide⟩
theorem mis_mA {w : World} {g h : Nat} (hg : w.heap.size = g) (hh : w.heap.size + 1 = h) : MIs ((w.alloc (.cells #[.bool false, .int .u64 10, .int .i64 0] 45)).alloc (.cells #[.string ⟨#[98]⟩, .string ⟨#[]⟩, .string ⟨#[97]⟩, .string ⟨#[]⟩, .string ⟨#[98]⟩, .string ⟨#[]⟩] 47)) ⟨#[97]⟩ (some ⟨g, 0, none⟩) 1 (some ⟨h, 0, none⟩) 3 mA :=
  ⟨rfl, rfl, (decs_lit (w := w) hg [⟨false, 10, 0⟩]).alloc _, rfl, tags_lit (by rw [size_alloc]; exact hh) [([98], []), ([97], []), ([98], [])]⟩
theorem mis_mB {w : World} {g h : Nat} (hg : w.heap.size = g) (hh : w.heap.size + 1 = h) : MIs ((w.alloc (.cells #[.bool false, .int .u64 1, .int .i64 1] 45)).alloc (.cells #[.string ⟨#[97]⟩, .string ⟨#[]⟩, .string ⟨#[98]⟩, .string ⟨#[]⟩] 47)) ⟨#[97]⟩ (some ⟨g, 0, none⟩) 1 (some ⟨h, 0, none⟩) 2 mB :=
  ⟨rfl, rfl, (decs_lit (w := w) hg [⟨false, 1, 1⟩]).alloc _, rfl, tags_lit (by rw [size_alloc]; exact hh) [([97], []), ([98], [])]⟩

end Go.Proofs.Yteffankkelbhiaa
