/-
  The walk of ClassParts. No statement of the seat is proved here.
-/
import Derived.Test.YtfkdoimjeegljaaLawKTexts
namespace Go.Proofs.Ytfkdoimjeegljaa
open Go.RowKit

theorem bad_left {c : Int} {l m : List UInt8} {k : Nat} (hk : k < l.length) (ha : ∀ i (h : i < l.length), i < k → isOf c l[i].toNat = true) (hb : isOf c l[k].toNat = false) : bad c (l ++ m) = k := by
  refine bad_at (by rw [List.length_append]; omega) ?_ ?_
  · intro i h hi
    rw [List.getElem_append_left (by omega)]
    exact ha i (by omega) hi
  · rw [List.getElem_append_left hk]; exact hb
theorem bad_right {c : Int} {l m : List UInt8} {k : Nat} (hl : ∀ i (h : i < l.length), isOf c l[i].toNat = true) (hk : k < m.length) (ha : ∀ i (h : i < m.length), i < k → isOf c m[i].toNat = true) (hb : isOf c m[k].toNat = false) : bad c (l ++ m) = k + l.length := by
  have := bad_at (c := c) (l := l ++ m) (k := k + l.length) (by rw [List.length_append]; omega) ?_ ?_
  · rw [this]; omega
  · intro i h hi
    by_cases h1 : i < l.length
    · rw [List.getElem_append_left h1]; exact hl i h1
    · rw [List.getElem_append_right (by omega)]; exact ha _ _ (by omega)
  · rw [List.getElem_append_right (by omega)]
    have e : k + l.length - l.length = k := by omega
    simp only [e]
    exact hb
theorem bad_both {c : Int} {l m : List UInt8} (hl : ∀ i (h : i < l.length), isOf c l[i].toNat = true) (ha : ∀ i (h : i < m.length), isOf c m[i].toNat = true) : bad c (l ++ m) = -1 := by
  refine bad_none ?_
  intro i h
  by_cases h1 : i < l.length
  · rw [List.getElem_append_left h1]; exact hl i h1
  · rw [List.getElem_append_right (by omega)]; exact ha _ _

theorem isOf_says' {c x : Int} {o : Bool} (h : isOf c x = o) (W : World) : Calls Try.prog 10 #[.int .i64 c, .int .u8 x] W fun e w' => e = .returned (.bool o) ∧ Below W.heap.size W w' := by
  rw [← h]; exact is_calls c x W

/-- Where the statement stands: the two texts lie. -/
structure PAt (w : World) (s t : ByteArray) (w' : World) : Prop where
  kept : Below w.heap.size w w'
  pair : Box w' w.heap.size 38 [.string s, .string t]
theorem PAt.next {w w1 w2 : World} {s t : ByteArray} (h : PAt w s t w1) (k : Below w1.heap.size w1 w2) : PAt w s t w2 :=
  ⟨Below.trans h.kept (k.mono h.kept.size), h.pair.keep k⟩

set_option maxRecDepth 100000 in
set_option maxHeartbeats 4000000 in
theorem parts_walk (c : Int) (s t : ByteArray) (hm : s.size ≤ maxLen) (hm' : t.size ≤ maxLen) (w : World) : Calls Try.prog 6 #[.int .i64 c, .agg #[.string s, .string t]] w fun e w' => e = .returned (.bool true) ∧ Below w.heap.size w w' := by
  unfold maxLen at hm hm'
  rcases (by omega : 200 < (s.size : Int) ∨ (¬ 200 < (s.size : Int) ∧ 200 < (t.size : Int)) ∨ (¬ 200 < (s.size : Int) ∧ ¬ 200 < (t.size : Int))) with hlong | ⟨hs, hlong⟩ | ⟨hs, ht⟩
  · go_enter Try.func6, Try.ntmps6
    go_wp2_with fail
    refine (awake_calls _).mono ?_
    rintro e w1 ⟨rfl, hb⟩
    have HB1 := Lib.hid (Below.trans ((Below.refl w.heap.size w).alloc (Nat.le_refl _) (.cells #[.string s, .string t] 38)) (hb.mono (by simp)))
    clear hb
    go_wp2_with fail
    go_ret
    exact ⟨rfl, HB1.out⟩
  · go_enter Try.func6, Try.ntmps6
    go_wp2_with fail
    refine (awake_calls _).mono ?_
    rintro e w1 ⟨rfl, hb⟩
    have HB1 := Lib.hid (Below.trans ((Below.refl w.heap.size w).alloc (Nat.le_refl _) (.cells #[.string s, .string t] 38)) (hb.mono (by simp)))
    clear hb
    go_wp2_with fail
    go_ret
    exact ⟨rfl, HB1.out⟩
  · have hst := Str.self s
    obtain ⟨l, hl⟩ : ∃ l, l = s.data.toList := ⟨_, rfl⟩
    rw [← hl] at hst
    clear hl
    have htt := Str.self t
    obtain ⟨m, hl⟩ : ∃ l, l = t.data.toList := ⟨_, rfl⟩
    rw [← hl] at htt
    clear hl
    have hst2 := hst.append htt
    have hz1 := hst.size
    have hz2 := htt.size
    obtain ⟨q, hq⟩ : ∃ q, isCls c = q := ⟨_, rfl⟩
    obtain ⟨a, ha⟩ : ∃ z, badC c l = z := ⟨_, rfl⟩
    obtain ⟨b, hb⟩ : ∃ z, badC c m = z := ⟨_, rfl⟩
    obtain ⟨d, hd⟩ : ∃ z, badC c (l ++ m) = z := ⟨_, rfl⟩
    obtain ⟨er, her⟩ : ∃ er, errC c = er := ⟨_, rfl⟩
    have HA := Lib.hid (bad_says hst (by omega) ha her)
    have HB := Lib.hid (bad_says htt (by omega) hb her)
    have HD := Lib.hid (bad_says hst2 (by rw [hst2.size, List.length_append]; omega) hd her)
    have H0 := Lib.hid (show PAt w s t (w.alloc (.cells #[.string s, .string t] 38)) from ⟨(Below.refl w.heap.size w).alloc (Nat.le_refl _) _, Box.new _ _ [_, _]⟩)
    have HL := Lib.hid (And.intro hst (And.intro htt (And.intro hq (And.intro ha (And.intro hb (And.intro hd (And.intro her (And.intro hz1 hz2))))))))
    have hcat : (s.size : Int) + (t.size : Int) ≤ 400 := by omega
    clear hst htt hst2 hq ha hb hd her hz1 hz2
    go_enter Try.func6, Try.ntmps6
    go_wp2_with fail
    refine (HA.out _).mono ?_
    rintro e w1 ⟨rfl, hb⟩
    have H1 := Lib.hid (H0.out.next hb)
    clear hb H0 HA
    have r0 : w1.cell? ⟨w.heap.size, 0, none⟩ = some (.string s) := H1.out.pair.cell 0
    have r1 : w1.cell? ⟨w.heap.size, 1, none⟩ = some (.string t) := H1.out.pair.cell 1
    go_wp2_with fail
    refine (HB.out _).mono ?_
    rintro e w2 ⟨rfl, hb⟩
    have H2 := Lib.hid (H1.out.next hb)
    clear hb H1 HB r0 r1
    have r0 : w2.cell? ⟨w.heap.size, 0, none⟩ = some (.string s) := H2.out.pair.cell 0
    have r1 : w2.cell? ⟨w.heap.size, 1, none⟩ = some (.string t) := H2.out.pair.cell 1
    go_wp2_with fail
    refine (HD.out _).mono ?_
    rintro e w3 ⟨rfl, hb⟩
    have H3 := Lib.hid (H2.out.next hb)
    clear hb H2 HD r0 r1
    have r0 : w3.cell? ⟨w.heap.size, 0, none⟩ = some (.string s) := H3.out.pair.cell 0
    have r1 : w3.cell? ⟨w.heap.size, 1, none⟩ = some (.string t) := H3.out.pair.cell 1
    cases q
    · obtain ⟨_, _, hq, ha, hb, hd, her, _, _⟩ := HL.out
      rw [badC_no hq] at ha hb hd
      rw [errC_no hq] at her
      subst ha hb hd her
      have hc2 : c < 1 ∨ (¬ c < 1 ∧ 4 < c) := by unfold isCls at hq; rw [decide_eq_false_iff_not] at hq; omega
      clear hq HL
      rcases hc2 with hc | ⟨hc, hc'⟩
      all_goals
        go_wp2_with fail
        refine (awake_calls _).mono ?_
        rintro e w5 ⟨rfl, hb⟩
        have HB5 := Lib.hid (H3.out.next hb).kept
        clear hb H3 r0 r1
        go_wp2_with fail
        go_ret
        exact ⟨rfl, HB5.out⟩
    · obtain ⟨hst, htt, hq, ha, hb, hd, her, hz1, hz2⟩ := HL.out
      rw [badC_yes hq] at ha hb hd
      rw [errC_yes hq] at her
      subst her
      rcases bad_cases c l with ⟨k, hk, e1, e2, e3⟩ | ⟨e1, e2⟩
      · have e4 : bad c (l ++ m) = k := bad_left hk e3 e2
        have hidx := hst.index (i := (k : Int)) k rfl hk
        rw [e1] at ha
        rw [e4] at hd
        subst ha hd
        have HI := Lib.hid (isOf_says' e2)
        generalize (l[k].toNat : Int) = x at hidx HI
        have g1 : ¬ (k : Int) < -1 := by omega
        have g2 : ¬ (s.size : Int) ≤ (k : Int) := by omega
        have g3 : (0 : Int) ≤ (k : Int) := by omega
        have g4 : (k : Int) < (s.size : Int) := by omega
        clear hst htt hq hz1 hz2 e1 e2 e3 e4 hb HL hk
        go_wp2_with fail
        refine (HI.out _).mono ?_
        rintro e w4 ⟨rfl, hb⟩
        have H4 := Lib.hid (H3.out.next hb)
        clear hb H3 HI r0 r1
        go_wp2_with fail
        refine (awake_calls _).mono ?_
        rintro e w5 ⟨rfl, hb⟩
        have HB5 := Lib.hid (H4.out.next hb).kept
        clear hb H4
        go_wp2_with fail
        go_ret
        exact ⟨rfl, HB5.out⟩
      · rw [e1] at ha
        subst ha
        have g2 : ¬ (s.size : Int) ≤ -1 := by omega
        rcases bad_cases c m with ⟨k, hk, f1, f2, f3⟩ | ⟨f1, f2⟩
        · have e4 : bad c (l ++ m) = k + l.length := bad_right e2 hk f3 f2
          rw [f1] at hb
          rw [e4, ← hz1] at hd
          subst hb hd
          have g3 : (0 : Int) ≤ (k : Int) := by omega
          have g5 : (k : Int) ≤ 200 := by omega
          clear hst htt hq hz1 hz2 e1 e2 f1 f2 f3 e4 HL hk
          go_wp2_with fail
          refine (awake_calls _).mono ?_
          rintro e w5 ⟨rfl, hb⟩
          have HB5 := Lib.hid (H3.out.next hb).kept
          clear hb H3 r0 r1
          go_wp2_with fail
          go_ret
          exact ⟨rfl, HB5.out⟩
        · have e4 : bad c (l ++ m) = -1 := bad_both e2 f2
          rw [f1] at hb
          rw [e4] at hd
          subst hb hd
          clear hst htt hq hz1 hz2 e1 e2 f1 f2 e4 HL
          go_wp2_with fail
          refine (awake_calls _).mono ?_
          rintro e w5 ⟨rfl, hb⟩
          have HB5 := Lib.hid (H3.out.next hb).kept
          clear hb H3 r0 r1
          go_wp2_with fail
          go_ret
          exact ⟨rfl, HB5.out⟩
end Go.Proofs.Ytfkdoimjeegljaa
