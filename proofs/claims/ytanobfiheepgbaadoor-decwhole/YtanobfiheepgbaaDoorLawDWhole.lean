/-
  The walk of DecWhole. No statement of the seat is proved here.
-/
import Derived.Test.YtanobfiheepgbaaDoorDAwake
import Derived.Test.YtanobfiheepgbaaDoorDMath2
import Derived.Test.YtanobfiheepgbaaDoorDOf
import Derived.Test.YtanobfiheepgbaaDoorDRefDigits
namespace Go.Proofs.YtanobfiheepgbaaDoor
open Go.RowKit

theorem decDigits_ten (c : Nat) (h : c ≠ 0) : Lib.decDigits (c * 10) = Lib.decDigits c ++ [48] := by
  rw [decDigits_big (by omega), show c * 10 / 10 = c by omega, show c * 10 % 10 = 0 by omega]
  rfl
theorem decDigits_pow (c : Nat) (h : c ≠ 0) (k : Nat) : Lib.decDigits (c * 10 ^ k) = Lib.decDigits c ++ List.replicate k 48 := by
  induction k with
  | zero => simp
  | succ k ih =>
    have hp : c * 10 ^ k ≠ 0 := Nat.ne_of_gt (Nat.mul_pos (by omega) (Nat.pos_of_ne_zero (by simp)))
    rw [Nat.pow_succ, ← Nat.mul_assoc, decDigits_ten _ hp, ih, List.replicate_succ', List.append_assoc]

/-- What a whole number's form is. -/
theorem ofD_is (a : Int) (hl : -9223372036854775808 ≤ a) (hh : a ≤ 9223372036854775807) : (ofD a).One ∧ text (ofD a) = sgn (decide (a < 0)) ++ Lib.decDigits a.natAbs ∧ wholeOf (ofD a) = a * ((10 ^ 18 : Nat) : Int) := by
  obtain ⟨⟨c, e⟩, hp⟩ := norm_some (c := a.natAbs) (e := 0) (by unfold Two64; omega) (by omega) (by omega)
  have hn : normal ⟨decide (a < 0), a.natAbs, 0⟩ = some (mkD (decide (a < 0)) (c, e)) := by unfold normal; simp only []; rw [hp]; rfl
  have ho : ofD a = mkD (decide (a < 0)) (c, e) := by unfold ofD nVal; rw [hn]; rfl
  have h1 : (ofD a).One := by rw [ho]; exact normal_one hn
  refine ⟨h1, ?_⟩
  rcases Int.lt_trichotomy a 0 with hneg | rfl | hpos
  · have h0 : a.natAbs ≠ 0 := by omega
    obtain ⟨he, hc⟩ := norm_same hp (by omega) h0
    have hc0 := norm_pos hp h0
    rw [ho, Int.sub_zero] at *
    unfold mkD
    simp only [if_neg hc0]
    have hd : decide (a < 0) = true := by simp [hneg]
    rw [hd]
    refine ⟨?_, ?_⟩
    · rw [text_sgn]
      unfold sized
      simp only []
      rw [if_neg (by omega), hc, decDigits_pow c hc0]
    · unfold wholeOf sizeOf18
      simp only [ite_true]
      rw [show (e + 18).toNat = e.toNat + 18 by omega, Nat.pow_add, ← Nat.mul_assoc, ← hc, Int.natCast_mul]
      rw [show ((a.natAbs : Nat) : Int) = -a by omega]
      rw [Int.neg_mul, Int.neg_neg]
  · have hz : (c, e) = (0, 0) := by have := hp; rw [show (0 : Int).natAbs = 0 from rfl, norm_zero] at this; injection this with this; exact this.symm
    rw [ho, hz]
    refine ⟨?_, rfl⟩
    rw [text_sgn]
    unfold sized mkD
    simp [sgn]
  · have h0 : a.natAbs ≠ 0 := by omega
    obtain ⟨he, hc⟩ := norm_same hp (by omega) h0
    have hc0 := norm_pos hp h0
    rw [ho, Int.sub_zero] at *
    unfold mkD
    simp only [if_neg hc0]
    have hd : decide (a < 0) = false := by simp; omega
    rw [hd]
    refine ⟨?_, ?_⟩
    · rw [text_sgn]
      unfold sized
      simp only []
      rw [if_neg (by omega), hc, decDigits_pow c hc0]
    · unfold wholeOf sizeOf18
      simp only [Bool.false_eq_true, ite_false]
      rw [show (e + 18).toNat = e.toNat + 18 by omega, Nat.pow_add, ← Nat.mul_assoc, ← hc, Int.natCast_mul]
      rw [show ((a.natAbs : Nat) : Int) = a by omega]

theorem cmpd_of (a b : Int) (ha : -9223372036854775808 ≤ a ∧ a ≤ 9223372036854775807) (hb : -9223372036854775808 ≤ b ∧ b ≤ 9223372036854775807) : cmpd (ofD a) (ofD b) = (cmpI a b, 0) := by
  obtain ⟨a1, _, a3⟩ := ofD_is a ha.1 ha.2
  obtain ⟨b1, _, b3⟩ := ofD_is b hb.1 hb.2
  unfold cmpd
  rw [check_ok.2 a1, check_ok.2 b1, a3, b3, cmpI_scale _ _ _ (by decide)]
  simp

set_option maxRecDepth 100000 in
set_option maxHeartbeats 16000000 in
theorem whole_walk (a b : Int) (ha : -9223372036854775808 ≤ a ∧ a ≤ 9223372036854775807) (hb : -9223372036854775808 ≤ b ∧ b ≤ 9223372036854775807) (w : World) (ht : Tab w) :
    Calls Tryd.prog 9 #[.int .i64 a, .int .i64 b] w fun e w' => e = .returned (.bool true) ∧ Below w.heap.size w w' := by
  obtain ⟨a1, a2, _⟩ := ofD_is a ha.1 ha.2
  obtain ⟨b1, _, _⟩ := ofD_is b hb.1 hb.2
  have hcm := cmpd_of a b ha hb
  have ca := check_ok.2 a1
  have cb := check_ok.2 b1
  have HOA := Lib.hid (of_calls a ha.1 ha.2 w)
  have hob := fun W => of_calls b hb.1 hb.2 W
  have hta := fun W (h : Tab W) => text_calls (ofD a) a1.fits W h
  have hcp := fun W => compare_calls (ofD a) (ofD b) a1.fits b1.fits W
  have hka := fun W => check_calls (ofD a) a1.fits W
  have hkb := fun W => check_calls (ofD b) b1.fits W
  rw [ca, if_pos rfl, a2] at hta
  rw [hcm] at hcp
  rw [ca] at hka
  rw [cb] at hkb
  generalize ofD a = A at *
  generalize ofD b = B at *
  unfold dV at HOA hob hta hcp hka hkb
  have HOB := Lib.hid hob
  have HTA := Lib.hid hta
  have HCP := Lib.hid hcp
  have HKA := Lib.hid hka
  have HKB := Lib.hid hkb
  have HT := Lib.hid ht
  clear hob hta hcp hka hkb a1 a2 b1 hcm ca cb ht
  go_enter Tryd.func9, Tryd.ntmps9
  go_wp2_with fail
  refine HOA.out.mono ?_
  rintro e w1 ⟨rfl, hk⟩
  have n1 := Box.new w1 24 [.bool A.neg, .int .u64 A.c, .int .i64 A.e]
  have hk1 := below_then hk ((Below.refl _ _).alloc (Nat.le_refl _) (.cells #[.bool A.neg, .int .u64 A.c, .int .i64 A.e] 24))
  have H1 := Lib.hid (And.intro hk1 n1)
  clear hk hk1 n1 HOA
  go_wp2_with fail
  refine (HOB.out _).mono ?_
  rintro e w2 ⟨rfl, hk⟩
  have n2 := Box.new w2 24 [.bool B.neg, .int .u64 B.c, .int .i64 B.e]
  have hk2 := below_then hk ((Below.refl _ _).alloc (Nat.le_refl _) (.cells #[.bool B.neg, .int .u64 B.c, .int .i64 B.e] 24))
  have H2 := Lib.hid (And.intro (below_then H1.out.1 hk2) (And.intro (H1.out.2.keep hk2) n2))
  have x0 := H2.out.2.1.cell 0
  have x1 := H2.out.2.1.cell 1
  have x2 := H2.out.2.1.cell 2
  simp only [List.getElem?_cons_zero, List.getElem?_cons_succ] at x0 x1 x2
  clear hk hk2 n2 HOB H1
  go_wp2_with fail
  refine (HTA.out _ (HT.out.keep H2.out.1)).mono ?_
  rintro e w3 ⟨s, rfl, hs, hk⟩
  have H3 := Lib.hid (And.intro (below_then H2.out.1 hk) (And.intro (H2.out.2.1.keep hk) (H2.out.2.2.keep hk)))
  have HS := Lib.hid hs
  clear hk H2 HTA hs x0 x1 x2
  have x0 := H3.out.2.1.cell 0
  have x1 := H3.out.2.1.cell 1
  have x2 := H3.out.2.1.cell 2
  have y0 := H3.out.2.2.cell 0
  have y1 := H3.out.2.2.cell 1
  have y2 := H3.out.2.2.cell 2
  simp only [List.getElem?_cons_zero, List.getElem?_cons_succ] at x0 x1 x2 y0 y1 y2
  go_wp2_with fail
  refine (HCP.out _).mono ?_
  rintro e w4 ⟨rfl, hk⟩
  have H4 := Lib.hid (And.intro (below_then H3.out.1 hk) (And.intro (H3.out.2.1.keep hk) (H3.out.2.2.keep hk)))
  clear hk H3 HCP x0 x1 x2 y0 y1 y2
  have x0 := H4.out.2.1.cell 0
  have x1 := H4.out.2.1.cell 1
  have x2 := H4.out.2.1.cell 2
  simp only [List.getElem?_cons_zero, List.getElem?_cons_succ] at x0 x1 x2
  go_wp2_with fail
  refine (HKA.out _).mono ?_
  rintro e w5 ⟨rfl, hk⟩
  have H5 := Lib.hid (And.intro (below_then H4.out.1 hk) (H4.out.2.2.keep hk))
  clear hk H4 HKA x0 x1 x2
  have y0 := H5.out.2.cell 0
  have y1 := H5.out.2.cell 1
  have y2 := H5.out.2.cell 2
  simp only [List.getElem?_cons_zero, List.getElem?_cons_succ] at y0 y1 y2
  go_wp2_with fail
  refine (HKB.out _).mono ?_
  rintro e w6 ⟨rfl, hk⟩
  have H6 := Lib.hid (below_then H5.out.1 hk)
  clear hk H5 HKB y0 y1 y2
  have hcmp : (a < b ∧ cmpI a b = -1) ∨ (¬ a < b ∧ b < a ∧ cmpI a b = 1) ∨ (¬ a < b ∧ ¬ b < a ∧ cmpI a b = 0) := by
    unfold cmpI; split
    · exact Or.inl ⟨by omega, rfl⟩
    · split
      · exact Or.inr (Or.inl ⟨by omega, by omega, rfl⟩)
      · exact Or.inr (Or.inr ⟨by omega, by omega, rfl⟩)
  have HDG := Lib.hid (fun W => digits_calls a.natAbs (by unfold Two64; omega) W)
  obtain ⟨P, hP⟩ : ∃ P : ByteArray, P = ⟨(Lib.decDigits a.natAbs).toArray⟩ := ⟨_, rfl⟩
  have hPs : Str P (Lib.decDigits a.natAbs) := by rw [hP]; exact Str.mk _
  simp only [← hP] at HDG
  have hPz : (P.size : Int) ≤ 20 := by rw [hPs.size]; have := decDigits_len20 (u := a.natAbs) (by unfold Two64; omega); omega
  by_cases hneg : a < 0
  · have hu : IntKind.u64.wrap (-IntKind.u64.wrap a) = ((a.natAbs : Nat) : Int) := by rw [IntKind.wrap_u64, IntKind.wrap_u64]; omega
    have hd : decide (a < 0) = true := by simp [hneg]
    have hsl := HS.out.toList
    have hpl := ((show Str ⟨#[45]⟩ [45] from rfl).append hPs).toList
    rw [hd] at hsl
    have hst : s.toList = ((⟨#[45]⟩ : ByteArray) ++ P).toList := by rw [hsl, hpl]; rfl
    have HST := Lib.hid hst
    clear hsl hpl hst hP hPs hd HS
    rcases hcmp with ⟨c1, c2⟩ | ⟨c1, c2, c3⟩ | ⟨c1, c2, c3⟩
    all_goals
      go_wp2_with fail
      refine (HDG.out _).mono ?_
      rintro e w7 ⟨rfl, m, rfl⟩
      have hst := HST.out
      have hk7 := H6.out.trans (Same.below (Same.drewN w6 m))
      generalize w6.drewN m = W7 at hk7 ⊢
      have H7 := Lib.hid hk7
      clear hk7
      go_wp2_with fail
      refine (awake_calls _ (HT.out.keep H7.out)).mono ?_
      rintro e w8 ⟨rfl, hk⟩
      have H8 := Lib.hid (below_then H7.out hk)
      clear hk
      go_wp2_with fail
      go_ret
      exact ⟨rfl, H8.out⟩
  · have hu : IntKind.u64.wrap a = ((a.natAbs : Nat) : Int) := by rw [IntKind.wrap_u64]; omega
    have hd : decide (a < 0) = false := by simp; omega
    have hsl := HS.out.toList
    rw [hd] at hsl
    have hst : s.toList = P.toList := by rw [hsl, hPs.toList]; rfl
    have HST := Lib.hid hst
    clear hsl hst hP hPs hd HS
    rcases hcmp with ⟨c1, c2⟩ | ⟨c1, c2, c3⟩ | ⟨c1, c2, c3⟩
    all_goals
      go_wp2_with fail
      refine (HDG.out _).mono ?_
      rintro e w7 ⟨rfl, m, rfl⟩
      have hst := HST.out
      have hk7 := H6.out.trans (Same.below (Same.drewN w6 m))
      generalize w6.drewN m = W7 at hk7 ⊢
      have H7 := Lib.hid hk7
      clear hk7
      go_wp2_with fail
      refine (awake_calls _ (HT.out.keep H7.out)).mono ?_
      rintro e w8 ⟨rfl, hk⟩
      have H8 := Lib.hid (below_then H7.out hk)
      clear hk
      go_wp2_with fail
      go_ret
      exact ⟨rfl, H8.out⟩
end Go.Proofs.YtanobfiheepgbaaDoor
