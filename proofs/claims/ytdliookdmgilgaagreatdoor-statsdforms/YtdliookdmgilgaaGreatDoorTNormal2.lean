/-
  Package tag: Normal and Is. No statement of the seat is proved here.
-/
import Derived.Test.YtdliookdmgilgaaGreatDoorGrMForms
namespace Go.Proofs.YtdliookdmgilgaaGreatDoor
open Go.RowKit

theorem tags_nil_of {w : World} {ts : List Tg} (h : Tags w none ts) : ts = [] := by
  rcases ts with _ | ⟨t, ts⟩
  · rfl
  · obtain ⟨b, off, e, _⟩ := h 0 _ rfl
    cases e

theorem own_rowT {w : World} {base g n cap : Nat} {ts : List Tg} (h : w.ownsRow base 54 2 (.slice (some ⟨g, 0, none⟩) n cap) n (flat ts)) (hn : ts.length = n) : RowT w g cap ts ∧ base ≤ g := by
  rcases h.2 with ⟨e, _⟩ | ⟨g', cap', cur, e, hg, hh, h1, h2, h3, h4⟩
  · cases e
  · injection e with e1 _ e3
    injection e1 with e1
    injection e1 with e1
    subst e1 e3
    exact ⟨⟨cur, hh, h3, by rw [hn]; exact h4, by omega⟩, hg⟩

/-- What Normal tells. -/
def NormP (w : World) (r : List Tg) (e : Ending) (w' : World) : Prop := (∃ A cap, e = .returned (.slice A r.length cap) ∧ Tags w' A r) ∧ Below w.heap.size w w'
/-- A slice that lies in new memory, if it lies anywhere. -/
def Fresh (lo : Nat) (A : Option Addr) : Prop := ∀ a, A = some a → lo ≤ a.block
theorem Fresh.low {lo lo' : Nat} {A : Option Addr} (h : Fresh lo A) (hl : lo' ≤ lo) : Fresh lo' A := fun a ha => Nat.le_trans hl (h a ha)
theorem Fresh.none_ (lo : Nat) : Fresh lo none := fun a h => by cases h
theorem Fresh.own {w : World} {base size n cap : Nat} {el : TypeId} {A : Option Addr} {xs : List Value} (h : w.ownsRow base el size (.slice A n cap) n xs) : Fresh base A := fun a ha => by
  rcases h.2 with ⟨h1, _⟩ | ⟨g, c, cur, hv, hg, _⟩
  · injection h1 with h1; rw [h1] at ha; cases ha
  · injection hv with hv; rw [hv] at ha; injection ha with ha; subst ha; exact hg
/-- The same, in new memory. -/
def NormF (w : World) (r : List Tg) (e : Ending) (w' : World) : Prop := (∃ A cap, e = .returned (.slice A r.length cap) ∧ Tags w' A r ∧ Fresh w.heap.size A) ∧ Below w.heap.size w w'
theorem NormF.p {w w' : World} {r : List Tg} {e : Ending} (h : NormF w r e w') : NormP w r e w' := by obtain ⟨⟨A, cap, h1, h2, _⟩, hb⟩ := h; exact ⟨⟨A, cap, h1, h2⟩, hb⟩

/-- These cells lie so, and nothing old has changed. -/
structure Cs (w0 : World) (L : List (Addr × Value)) (w : World) : Prop where
  kept : Below w0.heap.size w0 w
  has : ∀ x ∈ L, w.cell? x.1 = some x.2
section
variable {w0 w w' : World} {L : List (Addr × Value)}
theorem Cs.next (h : Cs w0 L w) (k : Below w.heap.size w w') : Cs w0 L w' := ⟨below_then h.kept k, fun x hx => (k.cell (cell_lt (h.has x hx))).trans (h.has x hx)⟩
theorem Cs.drew (h : Cs w0 L w) : Cs w0 L w.drew := h.next (Same.below (Same.drewN w 1))
theorem Cs.four {a b c d : Addr} {p q r s : Value} (h : Cs w0 [(a, p), (b, q), (c, r), (d, s)] w) : w.cell? a = some p ∧ w.cell? b = some q ∧ w.cell? c = some r ∧ w.cell? d = some s ∧ Cs w0 [(a, p), (b, q), (c, r), (d, s)] w :=
  ⟨h.has (a, p) (by simp), h.has (b, q) (by simp), h.has (c, r) (by simp), h.has (d, s) (by simp), h⟩
theorem Cs.of4 {P1 P2 P3 P4 : Prop} (h : P1 ∧ P2 ∧ P3 ∧ P4 ∧ Cs w0 L w) : Cs w0 L w := h.2.2.2.2
theorem Cs.mk4 {a b c d : Addr} {p q r s : Value} (h : Below w0.heap.size w0 w) (h1 : w.cell? a = some p) (h2 : w.cell? b = some q) (h3 : w.cell? c = some r) (h4 : w.cell? d = some s) : Cs w0 [(a, p), (b, q), (c, r), (d, s)] w :=
  ⟨h, fun x hx => by simp at hx; rcases hx with rfl | rfl | rfl | rfl <;> assumption⟩
end

set_option maxRecDepth 100000 in
set_option maxHeartbeats 4000000 in
theorem is_calls6 {w : World} {A : Option Addr} {n cap : Nat} {ts : List Tg} (hn : ts.length = n) (hA : Tags w A ts) (hz : n ≤ 1000) :
    Calls Tryz.prog 47 #[.slice A n cap] w fun e w' => e = .returned (.bool (decide (ts = norm ts))) ∧ Below w.heap.size w w' := by
  obtain ⟨q, hq⟩ : ∃ q, decide (ts = norm ts) = q := ⟨_, rfl⟩
  rw [hq]
  have HQ := Lib.hid hq
  have HA := Lib.hid (And.intro hn hA)
  clear hq hn hA
  go_enter Tryz.func47, Tryz.ntmps47
  go_wp2_with fail
  go_loopw [3] (fun v wr => ∃ i : Nat, v = .int .i64 ((i : Int) + 1) ∧ i ≤ n ∧ Hid (Below w.heap.size w wr ∧ ∀ j (h : j + 1 < ts.length), j < i → ltT (ts[j]'(by omega)) ts[j + 1] = true)) (fun v _ => n + 1 - (intOf v).toNat)
  case atStart => exact ⟨0, by go_num, by omega, ⟨Below.refl _ _, fun j _ hj => absurd hj (by omega)⟩⟩
  case round =>
    obtain ⟨i, rfl, hin, hrel⟩ := hrel
    by_cases hlt : i + 1 < n
    · have g1 : (i : Int) + 1 < (n : Int) := by omega
      obtain ⟨hn, hA⟩ := HA.out
      have l1 : i + 1 < ts.length := by omega
      have l0 : i < ts.length := by omega
      have hA' := hA.keep hrel.out.1
      obtain ⟨b, off, e1, c0, c1⟩ := hA'.at_ l1
      subst e1
      obtain ⟨d0, d1⟩ := hA'.cells l0
      have hL := fun W => less_calls (Str.mk ts[i].1) (Str.mk ts[i].2) (Str.mk ts[i + 1].1) (Str.mk ts[i + 1].2) W
      generalize (⟨ts[i + 1].1.toArray⟩ : ByteArray) = s at c0 hL
      generalize (⟨ts[i + 1].2.toArray⟩ : ByteArray) = t at c1 hL
      generalize (⟨ts[i].1.toArray⟩ : ByteArray) = s' at d0 hL
      generalize (⟨ts[i].2.toArray⟩ : ByteArray) = t' at d1 hL
      obtain ⟨p, hp⟩ : ∃ p, ltT ts[i] ts[i + 1] = p := ⟨_, rfl⟩
      rw [hp] at hL
      have HP := Lib.hid hp
      have HL := Lib.hid (fun w' (h : Cs w [(⟨b, off + i * 2, none⟩, .string s'), (⟨b, off + i * 2 + 1, none⟩, .string t'), (⟨b, off + (i + 1) * 2, none⟩, .string s), (⟨b, off + (i + 1) * 2 + 1, none⟩, .string t)] w') => (hL w').mono fun e w'' (k : _ ∧ _) => And.intro k.1 (h.next k.2.below))
      have HS := Lib.hid (Cs.mk4 hrel.out.1 d0 d1 c0 c1).drew
      clear hn hA hA' hL hp
      have hwp : IntKind.i64.wrap (i : Int) = (i : Int) := by rw [IntKind.wrap_i64]; omega
      have g0 : (0 : Int) ≤ (i : Int) + 1 := by omega
      have g2 : (0 : Int) ≤ (i : Int) := by omega
      have g3 : (i : Int) < (n : Int) := by omega
      have g4 : ((i : Int) + 1).toNat = i + 1 := by omega
      go_wp2_with fail
      clear c0 c1 d0 d1
      go_region_held3 (fun w' => w'.cell? ⟨b, off + i * 2, none⟩ = some (.string s') ∧ w'.cell? ⟨b, off + i * 2 + 1, none⟩ = some (.string t') ∧ w'.cell? ⟨b, off + (i + 1) * 2, none⟩ = some (.string s) ∧ w'.cell? ⟨b, off + (i + 1) * 2 + 1, none⟩ = some (.string t) ∧ Cs w [(⟨b, off + i * 2, none⟩, .string s'), (⟨b, off + i * 2 + 1, none⟩, .string t'), (⟨b, off + (i + 1) * 2, none⟩, .string s), (⟨b, off + (i + 1) * 2 + 1, none⟩, .string t)] w')
        (first | exact Cs.four HS.out | exact Cs.four HB6.out)
        (first | (go_at_call 81; refine (HL.out _ (Cs.of4 (by assumption))).mono ?_; rintro e w6 ⟨rfl, hb6⟩; have HB6 := Lib.hid hb6; clear hb6))
      cases p
      · have HE := Lib.hid (show q = false by
          rw [← HQ.out]
          refine decide_eq_false fun e => ?_
          have := asc_up.2 (up_iff.2 e) i l1
          rw [HP.out] at this; cases this)
        go_wp2_with fail
        go_ret
        exact ⟨by rw [HE.out]; first | done | rfl, HB6.out.kept⟩
      · go_wp2_with fail
        refine ⟨⟨i + 1, by go_num, by omega, ⟨HB6.out.kept, fun j h hj => ?_⟩⟩, by simp [intOf]; omega⟩
        rcases Nat.lt_or_ge j i with h' | h'
        · exact hrel.out.2 j h h'
        · obtain rfl : i = j := by omega
          exact HP.out
    · have g1 : ¬ (i : Int) + 1 < (n : Int) := by omega
      have HE := Lib.hid (show q = true by
        rw [← HQ.out]
        refine decide_eq_true (up_iff.1 (asc_up.1 fun j h => hrel.out.2 j h ?_))
        have := HA.out.1
        omega)
      go_wp2_with fail
      go_ret
      exact ⟨by rw [HE.out]; first | done | rfl, hrel.out.1⟩
end Go.Proofs.YtdliookdmgilgaaGreatDoor
