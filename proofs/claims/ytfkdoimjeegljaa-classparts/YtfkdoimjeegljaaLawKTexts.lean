/-
  The walk of ClassTexts. No statement of the seat is proved here.
-/
import Derived.Test.YtfkdoimjeegljaaLawKBytes
import Derived.Deep.RegionHeld3
namespace Go.Proofs.Ytfkdoimjeegljaa
open Go.RowKit

theorem badC_yes {c : Int} {l : List UInt8} (h : isCls c = true) : badC c l = bad c l := by unfold badC; rw [if_pos h]
theorem badC_no {c : Int} {l : List UInt8} (h : isCls c = false) : badC c l = 0 := by unfold badC; rw [h]; rfl
theorem fault_no {c lo hi : Int} {l : List UInt8} (h : isCls c = false) : faultOf c l lo hi = (1, 0) := by unfold faultOf; rw [if_pos (.inl h)]
theorem fault_arg {c lo hi : Int} {l : List UInt8} (h : lo < 0 ∨ hi < lo) : faultOf c l lo hi = (1, 0) := by unfold faultOf; rw [if_pos (.inr h)]
theorem number_says {c k : Int} (h : numC c = k) (W : World) : Calls Try.prog 9 #[.int .i64 c] W fun e w' => e = .returned (.int .i64 k) ∧ Below W.heap.size W w' := by
  rw [← h]; exact number_calls c W
theorem rbad_says {c z : Int} {s : ByteArray} {l : List UInt8} (hc : isCls c = true) (h : Str s l) (hz : (s.size : Int) ≤ 1000) (hb : bad c l = z) (W : World) : Calls Try.prog 16 #[.int .i64 c, .string s] W fun e w' => e = .returned (.int .i64 z) ∧ Below W.heap.size W w' := by
  rw [← hb]; exact rbad_calls c hc s l h hz W

/-- Where the statement stands: the two bounds and the fault lie. -/
structure TAt (w : World) (B F : Nat) (x y a b : Int) (w' : World) : Prop where
  kept : Below w.heap.size w w'
  pair : Box w' B 29 [.int .i64 x, .int .i64 y]
  fault : Box w' F 32 [.int .i64 a, .int .i64 b]
theorem TAt.next {w w1 w2 : World} {B F : Nat} {x y a b : Int} (h : TAt w B F x y a b w1) (k : Below w1.heap.size w1 w2) : TAt w B F x y a b w2 :=
  ⟨Below.trans h.kept (k.mono h.kept.size), h.pair.keep k, h.fault.keep k⟩
theorem TAt.same {w w1 w2 : World} {B F : Nat} {x y a b : Int} (h : TAt w B F x y a b w1) (k : Same w1 w2) : TAt w B F x y a b w2 := h.next k.below

theorem TAt.cells {w w' : World} {B F : Nat} {x y a b : Int} (h : TAt w B F x y a b w') :
    w'.cell? ⟨B, 0, none⟩ = some (.int .i64 x) ∧ w'.cell? ⟨B, 1, none⟩ = some (.int .i64 y) ∧ w'.cell? ⟨F, 0, none⟩ = some (.int .i64 a) ∧ w'.cell? ⟨F, 1, none⟩ = some (.int .i64 b) ∧ TAt w B F x y a b w' :=
  ⟨h.pair.cell 0, h.pair.cell 1, h.fault.cell 0, h.fault.cell 1, h⟩
theorem TAt.of {w w' : World} {B F : Nat} {x y a b : Int} {P1 P2 P3 P4 : Prop} (h : P1 ∧ P2 ∧ P3 ∧ P4 ∧ TAt w B F x y a b w') : TAt w B F x y a b w' := h.2.2.2.2

set_option maxRecDepth 100000 in
set_option maxHeartbeats 4000000 in
theorem texts_walk (c : Int) (s : ByteArray) (x y : Int) (hm : s.size ≤ maxLen) (w : World) : Calls Try.prog 4 #[.int .i64 c, .string s, .agg #[.int .i64 x, .int .i64 y]] w fun e w' => e = .returned (.bool true) ∧ Below w.heap.size w w' := by
  unfold maxLen at hm
  by_cases hlong : 300 < (s.size : Int)
  · go_enter Try.func4, Try.ntmps4
    go_wp2_with fail
    refine (awake_calls _).mono ?_
    rintro e w1 ⟨rfl, hb⟩
    have HB1 := Lib.hid (Below.trans ((Below.refl w.heap.size w).alloc (Nat.le_refl _) (.cells #[.int .i64 x, .int .i64 y] 29)) (hb.mono (by simp)))
    clear hb
    go_wp2_with fail
    go_ret
    exact ⟨rfl, HB1.out⟩
  · have hst := Str.self s
    obtain ⟨l, hl⟩ : ∃ l, l = s.data.toList := ⟨_, rfl⟩
    rw [← hl] at hst
    clear hl
    obtain ⟨q, hq⟩ : ∃ q, isCls c = q := ⟨_, rfl⟩
    obtain ⟨k, hk⟩ : ∃ k, numC c = k := ⟨_, rfl⟩
    obtain ⟨z, hz⟩ : ∃ z, badC c l = z := ⟨_, rfl⟩
    obtain ⟨er, her⟩ : ∃ er, errC c = er := ⟨_, rfl⟩
    obtain ⟨a, b, hab⟩ : ∃ a b, faultOf c l x y = (a, b) := ⟨_, _, rfl⟩
    have HN := Lib.hid (number_says hk)
    have HY := Lib.hid (bad_says hst (by omega) hz her)
    have HT := Lib.hid (text_says hst (by omega) hab)
    have HL := Lib.hid (And.intro hst (And.intro hq (And.intro hk (And.intro hz (And.intro her hab)))))
    have p0 := Box.new w 29 [.int .i64 x, .int .i64 y]
    have HP0 := Lib.hid (And.intro p0 ((Below.refl w.heap.size w).alloc (Nat.le_refl _) (.cells #[.int .i64 x, .int .i64 y] 29)))
    clear hst hq hk hz her hab p0
    go_enter Try.func4, Try.ntmps4
    go_wp2_with fail
    refine (HN.out _).mono ?_
    rintro e w1 ⟨rfl, hb⟩
    have HP1 := Lib.hid (And.intro (HP0.out.1.keep hb) (Below.trans HP0.out.2 (hb.mono HP0.out.2.size)))
    clear hb HP0 HN
    go_wp2_with fail
    refine (HY.out _).mono ?_
    rintro e w2 ⟨rfl, hb⟩
    have HP2 := Lib.hid (And.intro (HP1.out.1.keep hb) (Below.trans HP1.out.2 (hb.mono HP1.out.2.size)))
    clear hb HP1 HY
    have r0 : w2.cell? ⟨w.heap.size, 0, none⟩ = some (.int .i64 x) := HP2.out.1.cell 0
    have r1 : w2.cell? ⟨w.heap.size, 1, none⟩ = some (.int .i64 y) := HP2.out.1.cell 1
    go_wp2_with fail
    refine (HT.out _).mono ?_
    rintro e w3 ⟨rfl, hb⟩
    have HP3 := Lib.hid (And.intro (HP2.out.1.keep hb) (Below.trans HP2.out.2 (hb.mono HP2.out.2.size)))
    clear hb HP2 HT r0 r1
    have HT4 := Lib.hid (show TAt w w.heap.size w3.heap.size x y a b (w3.alloc (.cells #[.int .i64 a, .int .i64 b] 32)) from ⟨HP3.out.2.alloc HP3.out.2.size _, HP3.out.1.alloc _, Box.new _ _ [_, _]⟩)
    have HR0 := Lib.hid (And.intro (HP3.out.1.cell 0) (HP3.out.1.cell 1))
    clear HP3
    have hne : w.heap.size < w3.heap.size := HT4.out.pair.ne HT4.out.fault (by decide) |> fun h => by have := HT4.out.pair.lt; simp at this; omega
    have r0 : w3.cell? ⟨w.heap.size, 0, none⟩ = some (.int .i64 x) := HR0.out.1
    have r1 : w3.cell? ⟨w.heap.size, 1, none⟩ = some (.int .i64 y) := HR0.out.2
    cases q
    · obtain ⟨_, hq, hk, hz, her, hab⟩ := HL.out
      rw [numC_no hq] at hk
      rw [badC_no hq] at hz
      rw [errC_no hq] at her
      rw [fault_no hq] at hab
      injection hab with ha hb
      subst hk hz her ha hb
      clear hq HL r0 r1
      go_wp2_with fail
      refine (awake_calls _).mono ?_
      rintro e w5 ⟨rfl, hb⟩
      have HB5 := Lib.hid (HT4.out.next hb).kept
      clear hb HT4
      go_wp2_with fail
      go_ret
      exact ⟨rfl, HB5.out⟩
    · obtain ⟨hst, hq, hk, hz, her, hab⟩ := HL.out
      rw [numC_yes hq] at hk
      rw [badC_yes hq] at hz
      rw [errC_yes hq] at her
      have hc0 := cls_ne hq
      have HRB := Lib.hid (rbad_says hq hst (by omega) hz)
      subst hk her
      rcases (by omega : (x < 0 ∨ (¬ x < 0 ∧ y < x)) ∨ (¬ x < 0 ∧ ¬ y < x)) with hx | ⟨hx, hy⟩
      · rw [fault_arg (by omega)] at hab
        injection hab with ha hb
        subst ha hb
        clear hq HL hst hz
        rcases hx with hx | ⟨hx, hy⟩
        all_goals
          go_wp2_with fail
          refine (HRB.out _).mono ?_
          rintro e w5 ⟨rfl, hb⟩
          have HT5 := Lib.hid (HT4.out.next hb)
          clear hb HT4 r0 r1 HRB
          have r0 : w5.cell? ⟨w.heap.size, 0, none⟩ = some (.int .i64 x) := HT5.out.pair.cell 0
          have r1 : w5.cell? ⟨w.heap.size, 1, none⟩ = some (.int .i64 y) := HT5.out.pair.cell 1
          have s0 : w5.cell? ⟨w3.heap.size, 0, none⟩ = some (.int .i64 1) := HT5.out.fault.cell 0
          have s1 : w5.cell? ⟨w3.heap.size, 1, none⟩ = some (.int .i64 0) := HT5.out.fault.cell 1
          go_wp2_with fail
          refine (awake_calls _).mono ?_
          rintro e w6 ⟨rfl, hb⟩
          have HB6 := Lib.hid (HT5.out.next hb).kept
          clear hb HT5 r0 r1 s0 s1
          go_wp2_with fail
          go_ret
          exact ⟨rfl, HB6.out⟩
      · have hRT : ∀ w', TAt w w.heap.size w3.heap.size x y a b w' → Calls Try.prog 17 #[.int .i64 c, .string s, .int .i64 x, .int .i64 y] w' fun e w'' => e = .returned (.agg #[.int .i64 a, .int .i64 b]) ∧ TAt w w.heap.size w3.heap.size x y a b w'' := by
          intro w' h
          have := rtext_calls c hq s l hst (by omega) x y hx hy w'
          rw [hab] at this
          exact this.mono fun _ _ ⟨h1, h2⟩ => ⟨h1, h.next h2⟩
        have hAS : ∀ w', TAt w w.heap.size w3.heap.size x y a b w' → Calls Try.prog 12 #[] w' fun e w'' => e = .returned (.bool true) ∧ TAt w w.heap.size w3.heap.size x y a b w'' :=
          fun w' h => (awake_calls w').mono fun _ _ ⟨h1, h2⟩ => ⟨h1, h.next h2⟩
        have HRT := Lib.hid hRT
        have HAS := Lib.hid hAS
        clear hRT hAS hab hst hz hq HL
        go_wp2_with fail
        refine (HRB.out _).mono ?_
        rintro e w5 ⟨rfl, hb⟩
        have HT5 := Lib.hid (HT4.out.next hb)
        clear hb HT4 r0 r1 HRB
        have r0 : w5.cell? ⟨w.heap.size, 0, none⟩ = some (.int .i64 x) := HT5.out.pair.cell 0
        have r1 : w5.cell? ⟨w.heap.size, 1, none⟩ = some (.int .i64 y) := HT5.out.pair.cell 1
        have HS0 := Lib.hid (HT5.out.next (Same.below (Same.drewN _ 1)))
        go_wp2_with fail
        clear HT5 r0 r1
        go_region_held3 (fun w' => w'.cell? ⟨w.heap.size, 0, none⟩ = some (.int .i64 x) ∧ w'.cell? ⟨w.heap.size, 1, none⟩ = some (.int .i64 y) ∧ w'.cell? ⟨w3.heap.size, 0, none⟩ = some (.int .i64 a) ∧ w'.cell? ⟨w3.heap.size, 1, none⟩ = some (.int .i64 b) ∧ TAt w w.heap.size w3.heap.size x y a b w')
          (first | exact TAt.cells HS0.out | exact TAt.cells (Hid.out (by assumption)))
          (first | (go_at_call 17; refine (HRT.out _ (TAt.of (by assumption))).mono ?_; rintro e w6 ⟨rfl, hb6⟩; have HB6 := Lib.hid hb6; clear hb6) | (go_at_call 12; refine (HAS.out _ (TAt.of (by assumption))).mono ?_; rintro e w7 ⟨rfl, hb7⟩; have HB7 := Lib.hid hb7; clear hb7))
        all_goals
          go_wp2_with fail
        all_goals
          go_ret
          exact ⟨rfl, HB7.out.kept⟩
end Go.Proofs.Ytfkdoimjeegljaa
