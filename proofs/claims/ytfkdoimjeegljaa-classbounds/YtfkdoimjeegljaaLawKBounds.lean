/-
  The walk of ClassBounds. No statement of the seat is proved here.
-/
import Derived.Test.YtfkdoimjeegljaaLawKTexts
namespace Go.Proofs.Ytfkdoimjeegljaa
open Go.RowKit

theorem fault_short {c lo hi : Int} {l : List UInt8} (h : isCls c = true) (h1 : ¬ lo < 0) (h2 : ¬ hi < lo) (h3 : (l.length : Int) < lo) : faultOf c l lo hi = (13, (l.length : Int)) := by
  unfold faultOf; rw [if_neg, if_pos h3]; simp [h]; omega
theorem fault_long {c lo hi : Int} {l : List UInt8} (h : isCls c = true) (h1 : ¬ lo < 0) (h2 : ¬ hi < lo) (h3 : ¬ (l.length : Int) < lo) (h4 : hi < (l.length : Int)) : faultOf c l lo hi = (12, hi) := by
  unfold faultOf; rw [if_neg, if_neg h3, if_pos h4]; simp [h]; omega
theorem fault_char {c lo hi : Int} {l : List UInt8} {k : Nat} (h : isCls c = true) (h1 : ¬ lo < 0) (h2 : ¬ hi < lo) (h3 : ¬ (l.length : Int) < lo) (h4 : ¬ hi < (l.length : Int)) (hb : bad c l = k) : faultOf c l lo hi = (14, (k : Int)) := by
  unfold faultOf; rw [if_neg, if_neg h3, if_neg h4, hb, if_pos (by omega)]; simp [h]; omega
theorem fault_none {c lo hi : Int} {l : List UInt8} (h : isCls c = true) (h1 : ¬ lo < 0) (h2 : ¬ hi < lo) (h3 : ¬ (l.length : Int) < lo) (h4 : ¬ hi < (l.length : Int)) (hb : bad c l = -1) : faultOf c l lo hi = (0, 0) := by
  unfold faultOf; rw [if_neg, if_neg h3, if_neg h4, hb, if_neg (by omega)]; simp [h]; omega

set_option maxRecDepth 100000 in
set_option maxHeartbeats 4000000 in
theorem bounds_walk (c : Int) (s : ByteArray) (x y : Int) (hm : s.size ≤ maxLen) (w : World) : Calls Try.prog 7 #[.int .i64 c, .string s, .agg #[.int .i64 x, .int .i64 y]] w fun e w' => e = .returned (.bool true) ∧ Below w.heap.size w w' := by
  unfold maxLen at hm
  rcases (by omega : (200 < (s.size : Int) ∨ (¬ 200 < (s.size : Int) ∧ x < 0) ∨ (¬ 200 < (s.size : Int) ∧ ¬ x < 0 ∧ y < x) ∨ (¬ 200 < (s.size : Int) ∧ ¬ x < 0 ∧ ¬ y < x ∧ 300 < y)) ∨ (¬ 200 < (s.size : Int) ∧ ¬ x < 0 ∧ ¬ y < x ∧ ¬ 300 < y)) with hlong | ⟨hl, hx, hy, hy3⟩
  · rcases hlong with h | ⟨h, h1⟩ | ⟨h, h1, h2⟩ | ⟨h, h1, h2, h3⟩
    all_goals
      go_enter Try.func7, Try.ntmps7
      go_wp2_with fail
      refine (awake_calls _).mono ?_
      rintro e w1 ⟨rfl, hb⟩
      have HB1 := Lib.hid (Below.trans ((Below.refl w.heap.size w).alloc (Nat.le_refl _) (.cells #[.int .i64 x, .int .i64 y] 29)) (hb.mono (by simp)))
      clear hb
      go_wp2_with fail
      go_ret
      exact ⟨rfl, HB1.out⟩
  · have hst := Str.self s
    obtain ⟨l, hl'⟩ : ∃ l, l = s.data.toList := ⟨_, rfl⟩
    rw [← hl'] at hst
    clear hl'
    have hzz := hst.size
    obtain ⟨q, hq⟩ : ∃ q, isCls c = q := ⟨_, rfl⟩
    obtain ⟨z, hz⟩ : ∃ z, badC c l = z := ⟨_, rfl⟩
    obtain ⟨er, her⟩ : ∃ er, errC c = er := ⟨_, rfl⟩
    obtain ⟨a, b, hab⟩ : ∃ a b, faultOf c l x y = (a, b) := ⟨_, _, rfl⟩
    have HY := Lib.hid (bad_says hst (by omega) hz her)
    have HT := Lib.hid (text_says hst (by omega) hab)
    have HL := Lib.hid (And.intro hst (And.intro hq (And.intro hz (And.intro her (And.intro hab hzz)))))
    have p0 := Box.new w 29 [.int .i64 x, .int .i64 y]
    have HP0 := Lib.hid (And.intro p0 ((Below.refl w.heap.size w).alloc (Nat.le_refl _) (.cells #[.int .i64 x, .int .i64 y] 29)))
    clear hst hq hz her hab p0 hzz
    go_enter Try.func7, Try.ntmps7
    go_wp2_with fail
    refine (HY.out _).mono ?_
    rintro e w2 ⟨rfl, hb⟩
    have HP2 := Lib.hid (And.intro (HP0.out.1.keep hb) (Below.trans HP0.out.2 (hb.mono HP0.out.2.size)))
    clear hb HP0 HY
    have r0 : w2.cell? ⟨w.heap.size, 0, none⟩ = some (.int .i64 x) := HP2.out.1.cell 0
    have r1 : w2.cell? ⟨w.heap.size, 1, none⟩ = some (.int .i64 y) := HP2.out.1.cell 1
    go_wp2_with fail
    refine (HT.out _).mono ?_
    rintro e w3 ⟨rfl, hb⟩
    have HP3 := Lib.hid (And.intro (HP2.out.1.keep hb) (Below.trans HP2.out.2 (hb.mono HP2.out.2.size)))
    clear hb HP2 HT r0 r1
    have HT4 := Lib.hid (show TAt w w.heap.size w3.heap.size x y a b (w3.alloc (.cells #[.int .i64 a, .int .i64 b] 32)) from ⟨HP3.out.2.alloc HP3.out.2.size _, HP3.out.1.alloc _, Box.new _ _ [_, _]⟩)
    have r0 : w3.cell? ⟨w.heap.size, 0, none⟩ = some (.int .i64 x) := HP3.out.1.cell 0
    have r1 : w3.cell? ⟨w.heap.size, 1, none⟩ = some (.int .i64 y) := HP3.out.1.cell 1
    clear HP3
    have hne : w.heap.size < w3.heap.size := HT4.out.pair.ne HT4.out.fault (by decide) |> fun h => by have := HT4.out.pair.lt; simp at this; omega
    cases q
    · obtain ⟨_, hq, hz, her, hab, _⟩ := HL.out
      rw [badC_no hq] at hz
      rw [errC_no hq] at her
      rw [fault_no hq] at hab
      injection hab with ha hb
      subst hz her ha hb
      clear hq HL r0 r1
      go_wp2_with fail
      refine (awake_calls _).mono ?_
      rintro e w5 ⟨rfl, hb⟩
      have HB5 := Lib.hid (HT4.out.next hb).kept
      clear hb HT4
      go_wp2_with fail
      go_ret
      exact ⟨rfl, HB5.out⟩
    · obtain ⟨hst, hq, hz, her, hab, hzz⟩ := HL.out
      rw [badC_yes hq] at hz
      rw [errC_yes hq] at her
      subst her
      rcases (by omega : (s.size : Int) < x ∨ (¬ (s.size : Int) < x ∧ y < (s.size : Int)) ∨ (¬ (s.size : Int) < x ∧ ¬ y < (s.size : Int))) with h3 | ⟨h3, h4⟩ | ⟨h3, h4⟩
      · rw [fault_short hq (by omega) (by omega) (by omega), ← hzz] at hab
        injection hab with ha hb
        subst ha hb
        have g1 : ¬ x ≤ (s.size : Int) := by omega
        have g2 : (0 : Int) ≤ (s.size : Int) := by omega
        clear hq HL hst hz hzz
        go_wp2_with fail
        go_quiet (fail)
        go_wp2_with fail
        refine (awake_calls _).mono ?_
        rintro e w6 ⟨rfl, hb⟩
        have HB6 := Lib.hid ((HT4.out.same (Same.drewN _ _)).next hb).kept
        clear hb HT4 r0 r1
        go_wp2_with fail
        go_ret
        exact ⟨rfl, HB6.out⟩
      · rw [fault_long hq (by omega) (by omega) (by omega) (by omega)] at hab
        injection hab with ha hb
        subst ha hb
        have g1 : x ≤ (s.size : Int) := by omega
        have g2 : (0 : Int) ≤ y := by omega
        have g3 : y ≤ (s.size : Int) := by omega
        clear hq HL hst hz hzz
        go_wp2_with fail
        go_quiet (fail)
        go_wp2_with fail
        refine (awake_calls _).mono ?_
        rintro e w6 ⟨rfl, hb⟩
        have HB6 := Lib.hid ((HT4.out.same (Same.drewN _ _)).next hb).kept
        clear hb HT4 r0 r1
        go_wp2_with fail
        go_ret
        exact ⟨rfl, HB6.out⟩
      · rcases bad_cases c l with ⟨k, hk, e1, e2, e3⟩ | ⟨e1, e2⟩
        · rw [fault_char hq (by omega) (by omega) (by omega) (by omega) e1] at hab
          rw [e1] at hz
          injection hab with ha hb
          subst ha hb hz
          have g1 : x ≤ (s.size : Int) := by omega
          have g2 : (s.size : Int) ≤ y := by omega
          have g3 : (0 : Int) ≤ (k : Int) := by omega
          have g4 : (k : Int) ≤ (s.size : Int) := by omega
          have g5 : ((k : Int) == -1) = false := by rw [beq_eq_false_iff_ne]; omega
          clear hq HL hst hzz e1 e2 e3 hk
          go_wp2_with fail
          go_quiet (fail)
          go_wp2_with fail
          refine (awake_calls _).mono ?_
          rintro e w6 ⟨rfl, hb⟩
          have HB6 := Lib.hid ((HT4.out.same (Same.drewN _ _)).next hb).kept
          clear hb HT4 r0 r1
          go_wp2_with fail
          go_ret
          exact ⟨rfl, HB6.out⟩
        · rw [fault_none hq (by omega) (by omega) (by omega) (by omega) e1] at hab
          rw [e1] at hz
          injection hab with ha hb
          subst ha hb hz
          have g1 : x ≤ (s.size : Int) := by omega
          have g2 : (s.size : Int) ≤ y := by omega
          obtain ⟨x2, hx2⟩ : ∃ x2, IntKind.i64.wrap (x.tdiv 2) = x2 := ⟨_, rfl⟩
          have hx2' : x2 = x / 2 := by rw [← hx2, Int.tdiv_eq_ediv_of_nonneg (by omega), IntKind.wrap_i64]; omega
          obtain ⟨y2, hy2⟩ : ∃ y2, IntKind.i64.wrap (y + x) = y2 := ⟨_, rfl⟩
          have hy2' : y2 = y + x := by rw [← hy2, IntKind.wrap_i64]; omega
          have hf2 : faultOf c l x2 y2 = (0, 0) := fault_none hq (by omega) (by omega) (by omega) (by omega) e1
          have hTS : ∀ w', TAt w w.heap.size w3.heap.size x y 0 0 w' → Calls Try.prog 15 #[.int .i64 c, .string s, .int .i64 x2, .int .i64 y2] w' fun e w'' => e = .returned (.agg #[.int .i64 0, .int .i64 0]) ∧ TAt w w.heap.size w3.heap.size x y 0 0 w'' :=
            fun w' h => (text_says hst (by omega) hf2 w').mono fun _ _ ⟨h1, h2⟩ => ⟨h1, h.next h2⟩
          have HTS := Lib.hid hTS
          have HS0 := Lib.hid (HT4.out.next (Same.below (Same.drewN _ 1)))
          clear hTS hf2 hq HL hst hzz e1 e2 hx2' hy2'
          go_wp2_with fail
          clear HT4 r0 r1
          go_region_held3 (fun w' => w'.cell? ⟨w.heap.size, 0, none⟩ = some (.int .i64 x) ∧ w'.cell? ⟨w.heap.size, 1, none⟩ = some (.int .i64 y) ∧ w'.cell? ⟨w3.heap.size, 0, none⟩ = some (.int .i64 0) ∧ w'.cell? ⟨w3.heap.size, 1, none⟩ = some (.int .i64 0) ∧ TAt w w.heap.size w3.heap.size x y 0 0 w')
            (first | exact TAt.cells HS0.out | exact TAt.cells (Hid.out (by assumption)))
            ((go_at_call 15; refine (HTS.out _ (TAt.of (by assumption))).mono ?_; rintro e w5 ⟨rfl, hb5⟩; have HB5 := Lib.hid hb5; clear hb5))
          all_goals
            go_wp2_with fail
          all_goals
            refine (awake_calls _).mono ?_
            rintro e w6 ⟨rfl, hb⟩
            have HB6 := Lib.hid (HB5.out.next hb).kept
            clear hb HB5
            go_wp2_with fail
            go_ret
            exact ⟨rfl, HB6.out⟩
end Go.Proofs.Ytfkdoimjeegljaa
