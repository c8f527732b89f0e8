/-
  The walk of ClassNests. No statement of the seat is proved here.
-/
import Derived.Test.YtfkdoimjeegljaaLawKBytes
namespace Go.Proofs.Ytfkdoimjeegljaa
open Go.RowKit

theorem isOf_says {c x : Int} {o : Bool} (h : isOf c x = o) (W : World) : Calls Try.prog 10 #[.int .i64 c, .int .u8 x] W fun e w' => e = .returned (.bool o) ∧ Below W.heap.size W w' := by
  rw [← h]; exact is_calls c x W

/-- How the four classes are of one byte, and what the statement asks of it. -/
inductive Nest (x : Int) : Bool → Bool → Bool → Bool → Prop
  | none1 : ¬ 48 ≤ x → Nest x false false false false
  | none2 : 48 ≤ x → ¬ x ≤ 57 → Nest x false false false false
  | val1 : ¬ x < 33 → ¬ 126 < x → (x == 44) = false → (x == 124) = false → ¬ 48 ≤ x → Nest x false false false true
  | val2 : ¬ x < 33 → ¬ 126 < x → (x == 44) = false → (x == 124) = false → 48 ≤ x → ¬ x ≤ 57 → Nest x false false false true
  | key : x = 47 → Nest x false false true true
  | name1 : ¬ x < 33 → ¬ 126 < x → (x == 44) = false → (x == 124) = false → ¬ 48 ≤ x → Nest x false true true true
  | name2 : ¬ x < 33 → ¬ 126 < x → (x == 44) = false → (x == 124) = false → 48 ≤ x → ¬ x ≤ 57 → Nest x false true true true
  | digit : ¬ x < 33 → ¬ 126 < x → (x == 44) = false → (x == 124) = false → 48 ≤ x → x ≤ 57 → Nest x true true true true

theorem of_no {c x : Int} {P : Prop} (h : isOf c x = true ↔ P) (hp : ¬ P) : isOf c x = false := by rw [Bool.eq_false_iff, ne_eq, h]; exact hp
theorem nest (x : Int) : ∃ d n k v, isOf 4 x = d ∧ isOf 1 x = n ∧ isOf 2 x = k ∧ isOf 3 x = v ∧ Nest x d n k v := by
  by_cases h4 : 48 ≤ x ∧ x ≤ 57
  · exact ⟨true, true, true, true, isOf4.mpr h4, isOf1.mpr (by omega), isOf2.mpr (by omega), isOf3.mpr (by omega), .digit (by omega) (by omega) (by simp; omega) (by simp; omega) h4.1 h4.2⟩
  · have e4 := of_no isOf4 h4
    by_cases h1 : (65 ≤ x ∧ x ≤ 90) ∨ (97 ≤ x ∧ x ≤ 122) ∨ x = 95 ∨ x = 46 ∨ x = 45
    · refine ⟨false, true, true, true, e4, isOf1.mpr (by omega), isOf2.mpr (by omega), isOf3.mpr (by omega), ?_⟩
      by_cases h : 48 ≤ x
      · exact .name2 (by omega) (by omega) (by simp; omega) (by simp; omega) h (by omega)
      · exact .name1 (by omega) (by omega) (by simp; omega) (by simp; omega) h
    · have e1 := of_no (isOf1 (b := x)) (by omega)
      by_cases h2 : x = 47
      · exact ⟨false, false, true, true, e4, e1, isOf2.mpr (by omega), isOf3.mpr (by omega), .key h2⟩
      · have e2 := of_no (isOf2 (b := x)) (by omega)
        by_cases h3 : 33 ≤ x ∧ x ≤ 126 ∧ x ≠ 44 ∧ x ≠ 124
        · refine ⟨false, false, false, true, e4, e1, e2, isOf3.mpr (by omega), ?_⟩
          by_cases h : 48 ≤ x
          · exact .val2 (by omega) (by omega) (by simp; omega) (by simp; omega) h (by omega)
          · exact .val1 (by omega) (by omega) (by simp; omega) (by simp; omega) h
        · refine ⟨false, false, false, false, e4, e1, e2, of_no (isOf3 (b := x)) (by omega), ?_⟩
          by_cases h : 48 ≤ x
          · exact .none2 h (by omega)
          · exact .none1 h

set_option maxRecDepth 100000 in
set_option maxHeartbeats 4000000 in
theorem nests_walk (x c : Int) (h0 : 0 ≤ x) (h1 : x < 256) (w : World) : Calls Try.prog 5 #[.int .u8 x, .int .i64 c] w fun e w' => e = .returned (.bool true) ∧ Below w.heap.size w w' := by
  obtain ⟨d, n, k, v, e4, e1, e2, e3, hn⟩ := nest x
  have H4 := Lib.hid (isOf_says e4)
  have H1 := Lib.hid (isOf_says e1)
  have H2 := Lib.hid (isOf_says e2)
  have H3 := Lib.hid (isOf_says e3)
  have HX := Lib.hid (And.intro h0 h1)
  clear e4 e1 e2 e3 h0 h1
  go_enter Try.func5, Try.ntmps5
  go_wp2_with fail
  refine (H4.out _).mono ?_
  rintro e w1 ⟨rfl, hb⟩
  have HB1 := Lib.hid hb
  clear hb H4
  go_wp2_with fail
  refine (H1.out _).mono ?_
  rintro e w2 ⟨rfl, hb⟩
  have HB2 := Lib.hid (Below.trans HB1.out (hb.mono HB1.out.size))
  clear hb HB1 H1
  go_wp2_with fail
  refine (H2.out _).mono ?_
  rintro e w3 ⟨rfl, hb⟩
  have HB3 := Lib.hid (Below.trans HB2.out (hb.mono HB2.out.size))
  clear hb HB2 H2
  go_wp2_with fail
  refine (H3.out _).mono ?_
  rintro e w4 ⟨rfl, hb⟩
  have HB4 := Lib.hid (Below.trans HB3.out (hb.mono HB3.out.size))
  clear hb HB3 H3
  rcases (by omega : c < 1 ∨ (¬ c < 1 ∧ 4 < c) ∨ (¬ c < 1 ∧ ¬ 4 < c)) with hc | ⟨hc, hc'⟩ | ⟨hc, hc'⟩
  · have HI := Lib.hid (isOf_says (x := x) (isOf_none (c := c) (by unfold isCls; rw [decide_eq_false_iff_not]; omega)))
    cases hn
    all_goals
      try subst x
      go_wp2_with fail
      refine (HI.out _).mono ?_
      rintro e w5 ⟨rfl, hb⟩
      have HB5 := Lib.hid (Below.trans HB4.out (hb.mono HB4.out.size))
      clear hb HB4 HI
      go_wp2_with fail
      refine (awake_calls _).mono ?_
      rintro e w6 ⟨rfl, hb⟩
      have HB6 := Lib.hid (Below.trans HB5.out (hb.mono HB5.out.size))
      clear hb HB5
      go_wp2_with fail
      go_ret
      exact ⟨rfl, HB6.out⟩
  · have HI := Lib.hid (isOf_says (x := x) (isOf_none (c := c) (by unfold isCls; rw [decide_eq_false_iff_not]; omega)))
    cases hn
    all_goals
      try subst x
      go_wp2_with fail
      refine (HI.out _).mono ?_
      rintro e w5 ⟨rfl, hb⟩
      have HB5 := Lib.hid (Below.trans HB4.out (hb.mono HB4.out.size))
      clear hb HB4 HI
      go_wp2_with fail
      refine (awake_calls _).mono ?_
      rintro e w6 ⟨rfl, hb⟩
      have HB6 := Lib.hid (Below.trans HB5.out (hb.mono HB5.out.size))
      clear hb HB5
      go_wp2_with fail
      go_ret
      exact ⟨rfl, HB6.out⟩
  · have hcl : isCls c = true := by unfold isCls; rw [decide_eq_true_eq]; omega
    obtain ⟨o, ho⟩ : ∃ o, isOf c x = o := ⟨_, rfl⟩
    have HI := Lib.hid (isOf_says ho)
    have hbx : badC c [UInt8.ofNat x.toNat] = if o then -1 else 0 := by
      have hx := HX.out
      have e : ((UInt8.ofNat x.toNat).toNat : Int) = x := by
        rw [UInt8.toNat_ofNat']; omega
      unfold badC
      rw [if_pos hcl]
      unfold bad
      rw [List.findIdx?_cons, e, ho]
      cases o <;> simp
    have hconv : (convert 36 9 (.slice (some ⟨w4.heap.size, 0, none⟩) 1 1)).run Try.prog (w4.alloc (.cells #[.int .u8 x] 5)) = .ok (.string ⟨#[UInt8.ofNat x.toNat]⟩) (w4.alloc (.cells #[.int .u8 x] 5)) := by
      have hx := HX.out
      refine run_convert_bytes_back (l := [UInt8.ofNat x.toNat]) _ _ _ 5 ⟨w4.heap.size, 0, none⟩ 1 Try.underlying36 Try.underlying5 Try.underlying9 ?_
      intro j hj
      obtain rfl : 0 = j := by simp at hj; omega
      have e : ((UInt8.ofNat x.toNat).toNat : Int) = x := by
        rw [UInt8.toNat_ofNat']; omega
      have hz : (⟨w4.heap.size, 0, none⟩ : Addr).add 0 = ⟨w4.heap.size, 0, none⟩ := by unfold Addr.add; split <;> simp_all
      rw [hz, List.getElem_cons_zero, e]
      exact (Box.new w4 5 [.int .u8 x]).cell 0
    obtain ⟨t, ht⟩ : ∃ t : ByteArray, t = ⟨#[UInt8.ofNat x.toNat]⟩ := ⟨_, rfl⟩
    rw [← ht] at hconv
    have hst : Str t [UInt8.ofNat x.toNat] := by rw [ht]; rfl
    have hz1 : (t.size : Int) ≤ 1000 := by rw [hst.size]; simp
    obtain ⟨a, ha⟩ : ∃ a, badC c [UInt8.ofNat x.toNat] = a := ⟨_, rfl⟩
    rw [ha] at hbx
    have HY := Lib.hid (bad_says hst hz1 ha (errC_yes hcl))
    clear hcl ho ht hst hz1 ha
    cases o
    all_goals
      subst hbx
      cases hn
      all_goals
        try subst x
        go_wp2_with fail
        refine (HY.out _).mono ?_
        rintro e w5 ⟨rfl, hb⟩
        have HB5 := Lib.hid (Below.trans (HB4.out.alloc HB4.out.size _) (hb.mono (HB4.out.alloc HB4.out.size _).size))
        clear hb HB4 HY
        go_wp2_with fail
        refine (HI.out _).mono ?_
        rintro e w6 ⟨rfl, hb⟩
        have HB6 := Lib.hid (Below.trans HB5.out (hb.mono HB5.out.size))
        clear hb HB5 HI
        go_wp2_with fail
        refine (awake_calls _).mono ?_
        rintro e w7 ⟨rfl, hb⟩
        have HB7 := Lib.hid (Below.trans HB6.out (hb.mono HB6.out.size))
        clear hb HB6
        go_wp2_with fail
        go_ret
        exact ⟨rfl, HB7.out⟩
end Go.Proofs.Ytfkdoimjeegljaa
