/-
  Package tag: Normal and Is. No statement of the seat is proved here.
-/
import Derived.Test.YtgnpakcofkhdkaaTNormal
namespace Go.Proofs.Ytgnpakcofkhdkaa
open Go.RowKit
open Go.Lib (compactUpTo)

theorem tags_nil_of {w : World} {ts : List Tg} (h : Tags w none ts) : ts = [] := by
  rcases ts with _ | ⟨t, ts⟩
  · rfl
  · obtain ⟨b, off, e, _⟩ := h 0 _ rfl
    cases e

theorem own_rowT {w : World} {base g n cap : Nat} {ts : List Tg} (h : w.ownsRow base 38 2 (.slice (some ⟨g, 0, none⟩) n cap) n (flat ts)) (hn : ts.length = n) : RowT w g cap ts ∧ base ≤ g := by
  rcases h.2 with ⟨e, _⟩ | ⟨g', cap', cur, e, hg, hh, h1, h2, h3, h4⟩
  · cases e
  · injection e with e1 _ e3
    injection e1 with e1
    injection e1 with e1
    subst e1 e3
    exact ⟨⟨cur, hh, h3, by rw [hn]; exact h4, by omega⟩, hg⟩

set_option maxRecDepth 100000 in
theorem clone_calls {w : World} {A : Option Addr} {n cap : Nat} {ts : List Tg} (hn : ts.length = n) (hA : Tags w A ts) (hz : n ≤ 1000) :
    Calls Try.prog 39 #[.slice A n cap] w fun e w' => Below w.heap.size w w' ∧ ((e = .returned (.slice none 0 0) ∧ ts = []) ∨ ∃ g cap', e = .returned (.slice (some ⟨g, 0, none⟩) n cap') ∧ RowT w' g cap' ts ∧ w.heap.size ≤ g) := by
  have hq := Lib.run_eql_slice_nil (P := Try.prog)
  rcases A with _ | ad
  · have h0 := tags_nil_of hA
    subst h0
    obtain rfl : 0 = n := hn
    clear hA
    go_enter Try.func39, Try.ntmps39
    go_wp2_with fail
    go_ret
    exact ⟨Below.refl _ _, .inl ⟨rfl, by trivial⟩⟩
  · have HA := Lib.hid (And.intro hn hA)
    clear hn hA
    go_enter Try.func39, Try.ntmps39
    go_wp2_with (first | (at_builtin; refine wpList_append_tags _ rfl (.tmp 5) (.tmp 6) rfl w.heap.size _ 0 [] rfl (own_empty w) (some ad) n cap ts rfl HA.out.1 (HA.out.2.keep ((Below.refl _ _).alloc (Nat.le_refl _) _)) (by omega) (by simp) ?_; intro v' w' hown hgr hob))
    go_ret
    have hb : Below w.heap.size w w' := ((Below.refl _ _).alloc (Nat.le_refl _) _).grown hgr (by simp) (by intro k hk; cases hk; exact Nat.le_refl _)
    refine ⟨hb, ?_⟩
    rw [Nat.zero_add, List.nil_append] at hown
    rcases hown.2 with ⟨rfl, h⟩ | ⟨g, cp, cur, rfl, hg, hh, h1, h2, h3, h4⟩
    · refine .inl ⟨rfl, List.eq_nil_of_length_eq_zero (by rw [HA.out.1]; exact h)⟩
    · exact .inr ⟨g, cp, rfl, (own_rowT hown HA.out.1).1, hg⟩

/-- What Normal tells. -/
def NormP (w : World) (r : List Tg) (e : Ending) (w' : World) : Prop := (∃ A cap, e = .returned (.slice A r.length cap) ∧ Tags w' A r) ∧ Below w.heap.size w w'

theorem sortnil_calls (w : World) : Calls Try.prog 50 #[.slice none 0 0, .func (.func 51) #[] #[]] w fun e w' => e = .returned (.tuple #[]) ∧ w' = w := AnyF.slices_SortFunc_none Try.laysSort none 0 _ w
set_option maxRecDepth 100000 in
theorem compactnil_calls (w : World) : Calls Try.prog 52 #[.slice none 0 0] w fun e w' => e = .returned (.slice none 0 0) ∧ w' = w := by
  go_enter Try.func52, Try.ntmps52
  go_wp2_with fail
  go_ret
  exact ⟨rfl, rfl⟩

set_option maxRecDepth 100000 in
set_option maxHeartbeats 2000000 in
theorem normal_calls {w : World} {A : Option Addr} {n cap : Nat} {ts : List Tg} (hn : ts.length = n) (hA : Tags w A ts) (hz : n ≤ 1000) :
    Calls Try.prog 32 #[.slice A n cap] w (NormP w (norm ts)) := by
  have HC := Lib.hid (clone_calls (cap := cap) hn hA hz)
  have HN := Lib.hid hn
  clear hn hA
  go_enter Try.func32, Try.ntmps32
  go_wp2_with fail
  refine HC.out.mono ?_
  rintro e w1 ⟨hb, h⟩
  clear HC
  rcases h with ⟨rfl, h0⟩ | ⟨g, cap', rfl, hr, hg⟩
  · have HB := Lib.hid (And.intro hb h0)
    clear hb h0
    go_wp2_with fail
    refine (sortnil_calls _).mono ?_
    rintro e w2 ⟨rfl, rfl⟩
    go_wp2_with fail
    refine (compactnil_calls _).mono ?_
    rintro e w3 ⟨rfl, rfl⟩
    go_wp2_with fail
    go_ret
    refine ⟨⟨none, 0, by rw [HB.out.2]; rfl, by rw [HB.out.2]; exact Tags.nil⟩, HB.out.1⟩
  · have hsort := sort_calls hr (by rw [HN.out]; exact hz)
    rw [HN.out] at hsort
    have HB := Lib.hid (And.intro hb hg)
    have HS := Lib.hid hsort
    clear hb hr hg hsort
    go_wp2_with fail
    refine HS.out.mono ?_
    rintro e w2 ⟨rfl, hbut, d, hd, hrow, hcomp⟩
    have hcc := compact_calls hrow (by omega)
    rw [hcomp, hd] at hcc
    have HB2 := Lib.hid (And.intro (HB.out.1.trans (hbut.below HB.out.2 HB.out.1.size)) HB.out.2)
    have HK := Lib.hid hcc
    clear hbut hrow hcomp hcc HS HB hd
    go_wp2_with fail
    refine HK.out.mono ?_
    rintro e w3 ⟨rfl, ht, hbut⟩
    have HR := Lib.hid (And.intro ht (HB2.out.1.trans (hbut.below HB2.out.2 HB2.out.1.size)))
    clear ht hbut HK HB2
    go_wp2_with fail
    go_ret
    exact ⟨⟨_, _, rfl, HR.out.1⟩, HR.out.2⟩

theorem normal_says {w : World} {A : Option Addr} {n cap : Nat} {ts r : List Tg} (hn : ts.length = n) (hA : Tags w A ts) (hz : n ≤ 1000) (hr : norm ts = r) :
    Calls Try.prog 32 #[.slice A n cap] w (NormP w r) := by subst hr; exact normal_calls hn hA hz

/-- These cells lie so, and nothing old has changed. -/
structure Cs (w0 : World) (L : List (Addr × Value)) (w : World) : Prop where
  kept : Below w0.heap.size w0 w
  has : ∀ x ∈ L, w.cell? x.1 = some x.2
section
variable {w0 w w' : World} {L : List (Addr × Value)}
theorem Cs.next (h : Cs w0 L w) (k : Below w.heap.size w w') : Cs w0 L w' := ⟨below_then h.kept k, fun x hx => (k.cell (cell_lt (h.has x hx))).trans (h.has x hx)⟩
theorem Cs.drew (h : Cs w0 L w) : Cs w0 L w.drew := h.next (Same.below (Same.drewN w 1))
theorem Cs.four {a b c d : Addr} {p q r s : Value} (h : Cs w0 [(a, p), (b, q), (c, r), (d, s)] w) : w.cell? a = some p ∧ w.cell? b = some q ∧ w.cell? c = some r ∧ w.cell? d = some s ∧ Cs w0 [(a, p), (b, q), (c, r), (d, s)] w :=
  ⟨h.has (a, p) (by simp), h.has (b, q) (by simp), h.has (c, r) (by simp), h.has (d, s) (by simp), h⟩
theorem Cs.of4 {P1 P2 P3 P4 : Prop} (h : P1 ∧ P2 ∧ P3 ∧ P4 ∧ Cs w0 L w) : Cs w0 L w := h.2.2.2.2
theorem Cs.mk4 {a b c d : Addr} {p q r s : Value} (h : Below w0.heap.size w0 w) (h1 : w.cell? a = some p) (h2 : w.cell? b = some q) (h3 : w.cell? c = some r) (h4 : w.cell? d = some s) : Cs w0 [(a, p), (b, q), (c, r), (d, s)] w :=
  ⟨h, fun x hx => by simp at hx; rcases hx with rfl | rfl | rfl | rfl <;> assumption⟩
end

set_option maxRecDepth 100000 in
set_option maxHeartbeats 4000000 in
theorem is_calls6 {w : World} {A : Option Addr} {n cap : Nat} {ts : List Tg} (hn : ts.length = n) (hA : Tags w A ts) (hz : n ≤ 1000) :
    Calls Try.prog 19 #[.slice A n cap] w fun e w' => e = .returned (.bool (decide (ts = norm ts))) ∧ Below w.heap.size w w' := by
  obtain ⟨q, hq⟩ : ∃ q, decide (ts = norm ts) = q := ⟨_, rfl⟩
  rw [hq]
  have HQ := Lib.hid hq
  have HA := Lib.hid (And.intro hn hA)
  clear hq hn hA
  go_enter Try.func19, Try.ntmps19
  go_wp2_with fail
  go_loopw [3] (fun v wr => ∃ i : Nat, v = .int .i64 ((i : Int) + 1) ∧ i ≤ n ∧ Hid (Below w.heap.size w wr ∧ ∀ j (h : j + 1 < ts.length), j < i → ltT (ts[j]'(by omega)) ts[j + 1] = true)) (fun v _ => n + 1 - (intOf v).toNat)
  case atStart => exact ⟨0, by go_num, by omega, ⟨Below.refl _ _, fun j _ hj => absurd hj (by omega)⟩⟩
  case round =>
    obtain ⟨i, rfl, hin, hrel⟩ := hrel
    by_cases hlt : i + 1 < n
    · have g1 : (i : Int) + 1 < (n : Int) := by omega
      obtain ⟨hn, hA⟩ := HA.out
      have l1 : i + 1 < ts.length := by omega
      have l0 : i < ts.length := by omega
      have hA' := hA.keep hrel.out.1
      obtain ⟨b, off, e1, c0, c1⟩ := hA'.at_ l1
      subst e1
      obtain ⟨d0, d1⟩ := hA'.cells l0
      have hL := fun W => less_calls (Str.mk ts[i].1) (Str.mk ts[i].2) (Str.mk ts[i + 1].1) (Str.mk ts[i + 1].2) W
      generalize (⟨ts[i + 1].1.toArray⟩ : ByteArray) = s at c0 hL
      generalize (⟨ts[i + 1].2.toArray⟩ : ByteArray) = t at c1 hL
      generalize (⟨ts[i].1.toArray⟩ : ByteArray) = s' at d0 hL
      generalize (⟨ts[i].2.toArray⟩ : ByteArray) = t' at d1 hL
      obtain ⟨p, hp⟩ : ∃ p, ltT ts[i] ts[i + 1] = p := ⟨_, rfl⟩
      rw [hp] at hL
      have HP := Lib.hid hp
      have HL := Lib.hid (fun w' (h : Cs w [(⟨b, off + i * 2, none⟩, .string s'), (⟨b, off + i * 2 + 1, none⟩, .string t'), (⟨b, off + (i + 1) * 2, none⟩, .string s), (⟨b, off + (i + 1) * 2 + 1, none⟩, .string t)] w') => (hL w').mono fun e w'' (k : _ ∧ _) => And.intro k.1 (h.next k.2.below))
      have HS := Lib.hid (Cs.mk4 hrel.out.1 d0 d1 c0 c1).drew
      clear hn hA hA' hL hp
      have hwp : IntKind.i64.wrap (i : Int) = (i : Int) := by rw [IntKind.wrap_i64]; omega
      have g0 : (0 : Int) ≤ (i : Int) + 1 := by omega
      have g2 : (0 : Int) ≤ (i : Int) := by omega
      have g3 : (i : Int) < (n : Int) := by omega
      have g4 : ((i : Int) + 1).toNat = i + 1 := by omega
      go_wp2_with fail
      clear c0 c1 d0 d1
      go_region_held3 (fun w' => w'.cell? ⟨b, off + i * 2, none⟩ = some (.string s') ∧ w'.cell? ⟨b, off + i * 2 + 1, none⟩ = some (.string t') ∧ w'.cell? ⟨b, off + (i + 1) * 2, none⟩ = some (.string s) ∧ w'.cell? ⟨b, off + (i + 1) * 2 + 1, none⟩ = some (.string t) ∧ Cs w [(⟨b, off + i * 2, none⟩, .string s'), (⟨b, off + i * 2 + 1, none⟩, .string t'), (⟨b, off + (i + 1) * 2, none⟩, .string s), (⟨b, off + (i + 1) * 2 + 1, none⟩, .string t)] w')
        (first | exact Cs.four HS.out | exact Cs.four HB6.out)
        (first | (go_at_call 37; refine (HL.out _ (Cs.of4 (by assumption))).mono ?_; rintro e w6 ⟨rfl, hb6⟩; have HB6 := Lib.hid hb6; clear hb6))
      cases p
      · have HE := Lib.hid (show q = false by
          rw [← HQ.out]
          refine decide_eq_false fun e => ?_
          have := asc_up.2 (up_iff.2 e) i l1
          rw [HP.out] at this; cases this)
        go_wp2_with fail
        go_ret
        exact ⟨by rw [HE.out]; first | done | rfl, HB6.out.kept⟩
      · go_wp2_with fail
        refine ⟨⟨i + 1, by go_num, by omega, ⟨HB6.out.kept, fun j h hj => ?_⟩⟩, by simp [intOf]; omega⟩
        rcases Nat.lt_or_ge j i with h' | h'
        · exact hrel.out.2 j h h'
        · obtain rfl : i = j := by omega
          exact HP.out
    · have g1 : ¬ (i : Int) + 1 < (n : Int) := by omega
      have HE := Lib.hid (show q = true by
        rw [← HQ.out]
        refine decide_eq_true (up_iff.1 (asc_up.1 fun j h => hrel.out.2 j h ?_))
        have := HA.out.1
        omega)
      go_wp2_with fail
      go_ret
      exact ⟨by rw [HE.out]; first | done | rfl, hrel.out.1⟩
end Go.Proofs.Ytgnpakcofkhdkaa
