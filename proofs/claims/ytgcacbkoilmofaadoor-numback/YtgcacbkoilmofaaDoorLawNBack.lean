/-
  The walk of NumBack. No statement of the seat is proved here.
-/
import Derived.Test.YtgcacbkoilmofaaDoorNAwake
import Derived.Test.YtgcacbkoilmofaaDoorNRMath
namespace Go.Proofs.YtgcacbkoilmofaaDoor
open Go.RowKit

set_option maxRecDepth 100000 in
set_option maxHeartbeats 4000000 in
/-- The law's second half: whatever is read is written as just what was read. -/
theorem nback_two (n : Int) (h0 : n < 0) (s : ByteArray) (hm : (s.size : Int) ≤ 200) (w : World) (ht : Tab w) (hb : -9223372036854775808 ≤ n ∧ n ≤ 9223372036854775807) : Calls Tryd.prog 5 #[.int .i64 n, .string s] w fun e w' => e = .returned (.bool true) ∧ Below w.heap.size w w' := by
  have HT := Lib.hid ht
  clear ht
  have h200 : ¬ 200 < (s.size : Int) := by omega
  have e1 : textN n = [] := by unfold textN; rw [if_pos h0]
  have e2 : errN n = 10 := by unfold errN; rw [if_pos h0]
  have HN := Lib.hid (fun W h => ntext_says hb.2 e1 e2 W h)
  have h0' : ¬ 0 ≤ n := by omega
  clear e1 e2
  obtain ⟨m, a, b, hp⟩ : ∃ m a b, parsed s.data.toList 0 9223372036854775807 = (m, a, b) := ⟨_, _, _, rfl⟩
  have HP := Lib.hid (fun W => parse_says (Str.self s) (by omega) hp W)
  by_cases hab : a = 0 ∧ b = 0
  · obtain ⟨rfl, rfl⟩ := hab
    obtain ⟨m0, m1, hback⟩ := parsed_back hp
    have e1 : textN m = s.data.toList := by unfold textN; rw [if_neg (by omega), hback]
    have e2 : errN m = 0 := by unfold errN; rw [if_neg (by omega)]
    have hs : (⟨s.data.toList.toArray⟩ : ByteArray) = s := (Str.self s).eq.symm
    have hn2 := fun W h => ntext_says m1 e1 e2 W h
    rw [hs] at hn2
    have HN2 := Lib.hid hn2
    clear e1 e2 hs hn2 hback hp
    go_enter Tryd.func5, Tryd.ntmps5
    go_wp2_with fail
    refine (HN.out _ HT.out).mono ?_
    rintro e w1 ⟨rfl, hb⟩
    have HB1 := Lib.hid hb
    clear hb HN
    go_wp2_with fail
    refine (HP.out _).mono ?_
    rintro e w2 ⟨rfl, hb⟩
    have HB2 := Lib.hid (below_then HB1.out hb)
    clear hb HB1 HP
    go_wp2_with fail
    refine (HN2.out _ (HT.out.keep (HB2.out.alloc HB2.out.size _))).mono ?_
    rintro e w3 ⟨rfl, hb⟩
    have HB3 := Lib.hid (below_then (HB2.out.alloc HB2.out.size _) hb)
    clear hb HB2 HN2
    go_wp2_with fail
    refine (awake5_calls _ (HT.out.keep HB3.out)).mono ?_
    rintro e w4 ⟨rfl, hb⟩
    have HB4 := Lib.hid (below_then HB3.out hb)
    clear hb HB3
    go_wp2_with fail
    go_ret
    exact ⟨rfl, HB4.out⟩
  · have hm0 := parsed_wrong hp hab
    subst hm0
    have hcs : (a == 0) = false ∨ ((a == 0) = true ∧ (b == 0) = false) := by
      by_cases e : a = 0
      · right; exact ⟨by simp [e], by simpa using fun h => hab ⟨e, h⟩⟩
      · left; simpa using e
    clear hp hab
    rcases hcs with k1 | ⟨k1, k2⟩
    all_goals
      go_enter Tryd.func5, Tryd.ntmps5
      go_wp2_with fail
      refine (HN.out _ HT.out).mono ?_
      rintro e w1 ⟨rfl, hb⟩
      have HB1 := Lib.hid hb
      clear hb HN
      go_wp2_with fail
      refine (HP.out _).mono ?_
      rintro e w2 ⟨rfl, hb⟩
      have HB2 := Lib.hid (below_then HB1.out hb)
      clear hb HB1 HP
      go_wp2_with fail
      refine (awake5_calls _ (HT.out.keep (HB2.out.alloc HB2.out.size _))).mono ?_
      rintro e w4 ⟨rfl, hb⟩
      have HB4 := Lib.hid (below_then (HB2.out.alloc HB2.out.size _) hb)
      clear hb HB2
      go_wp2_with fail
      go_ret
      exact ⟨rfl, HB4.out⟩

set_option maxRecDepth 100000 in
set_option maxHeartbeats 4000000 in
theorem nback_one (n : Int) (h0 : 0 ≤ n) (s : ByteArray) (hm : (s.size : Int) ≤ 200) (w : World) (ht : Tab w) (hb : -9223372036854775808 ≤ n ∧ n ≤ 9223372036854775807) : Calls Tryd.prog 5 #[.int .i64 n, .string s] w fun e w' => e = .returned (.bool true) ∧ Below w.heap.size w w' := by
  have HT := Lib.hid ht
  clear ht
  have h200 : ¬ 200 < (s.size : Int) := by omega
  have e1 : textN n = Lib.decDigits n.toNat := by unfold textN; rw [if_neg (by omega)]
  have e2 : errN n = 0 := by unfold errN; rw [if_neg (by omega)]
  have hnt := fun W h => ntext_says hb.2 e1 e2 W h
  have hst : Str ⟨(Lib.decDigits n.toNat).toArray⟩ (Lib.decDigits n.toNat) := Str.mk _
  have hsz : ((⟨(Lib.decDigits n.toNat).toArray⟩ : ByteArray).size : Int) ≤ 1000 := by
    rw [hst.size]
    have := decDigits_len20 (u := n.toNat) (by unfold Two64; omega)
    omega
  have hmax : n.toNat ≤ MaxI := by unfold MaxI; omega
  have q1 : parsed (Lib.decDigits n.toNat) n n = (n, 0, 0) := by
    rw [parsed_digits hmax, if_neg (by omega), show ((n.toNat : Nat) : Int) = n by omega]
  have q2 : ∀ lo, parsed (Lib.decDigits n.toNat) lo (n - 1) = (0, 10, 0) := fun lo => by
    rw [parsed_digits hmax, if_pos (by omega)]
  have hp1 := fun W => parse_says hst hsz q1 W
  have hp2 := fun lo W => parse_says hst hsz (q2 lo) W
  generalize (⟨(Lib.decDigits n.toNat).toArray⟩ : ByteArray) = T at hnt hp1 hp2 hsz
  have hw1 : IntKind.i64.wrap (n - 1) = n - 1 := by rw [IntKind.wrap_i64]; omega
  have HN := Lib.hid hnt
  have H1 := Lib.hid hp1
  have H2 := Lib.hid hp2
  have hnn : (n == n) = true := by simp
  clear e1 e2 hnt hp1 hp2 q1 q2 hst hmax
  have HW0 := Lib.hid (FAt.start w)
  obtain ⟨m, a, b, hp⟩ : ∃ m a b, parsed s.data.toList 0 9223372036854775807 = (m, a, b) := ⟨_, _, _, rfl⟩
  have HP := Lib.hid (fun W => parse_says (Str.self s) (by omega) hp W)
  have hcs : (a = 0 ∧ b = 0) ∨ (¬ (a = 0 ∧ b = 0) ∧ m = 0 ∧ ((a == 0) = false ∨ ((a == 0) = true ∧ (b == 0) = false))) := by
    by_cases hab : a = 0 ∧ b = 0
    · exact .inl hab
    · refine .inr ⟨hab, parsed_wrong hp hab, ?_⟩
      by_cases e : a = 0
      · right; exact ⟨by simp [e], by simpa using fun h => hab ⟨e, h⟩⟩
      · left; simpa using e
  have HPB := Lib.hid (fun (ha : a = 0) (hb : b = 0) => parsed_back (l := s.data.toList) (lo := 0) (hi := 9223372036854775807) (n := m) (by rw [hp, ha, hb]))
  clear hp
  go_enter Tryd.func5, Tryd.ntmps5
  go_wp2_with fail
  refine (HN.out _ HT.out).mono ?_
  rintro e w1 ⟨rfl, hb⟩
  have HW1 := Lib.hid (HW0.out.next hb)
  clear hb HN HW0
  go_wp2_with fail
  refine (H1.out _).mono ?_
  rintro e w2 ⟨rfl, hb⟩
  have HW2 := Lib.hid ((HW1.out.next hb).push (.int .i64 0) (.int .i64 0))
  clear hb HW1 H1
  go_wp2_with fail
  refine (H2.out _ _).mono ?_
  rintro e w3 ⟨rfl, hb⟩
  have HW3 := Lib.hid ((HW2.out.next hb).push (.int .i64 10) (.int .i64 0))
  clear hb HW2 H2
  obtain ⟨k10, k11⟩ := HW3.out.cells (g := w2.heap.size) (a := .int .i64 0) (b := .int .i64 0) (by simp)
  obtain ⟨k20, k21⟩ := HW3.out.cells (g := w3.heap.size) (a := .int .i64 10) (b := .int .i64 0) (by simp)
  go_wp2_with fail
  refine (HP.out _).mono ?_
  rintro e w4 ⟨rfl, hb⟩
  have HB4 := Lib.hid (below_then HW3.out.kept hb)
  clear hb HP HW3 k10 k11 k20 k21
  rcases hcs with ⟨rfl, rfl⟩ | ⟨hab, rfl, hcs⟩
  · obtain ⟨m0, m1, hback⟩ := HPB.out rfl rfl
    have e1 : textN m = s.data.toList := by unfold textN; rw [if_neg (by omega), hback]
    have e2 : errN m = 0 := by unfold errN; rw [if_neg (by omega)]
    have hs : (⟨s.data.toList.toArray⟩ : ByteArray) = s := (Str.self s).eq.symm
    have hn2 := fun W h => ntext_says m1 e1 e2 W h
    rw [hs] at hn2
    have HN2 := Lib.hid hn2
    clear e1 e2 hs hn2 hback HPB
    go_wp2_with fail
    refine (HN2.out _ (HT.out.keep (HB4.out.alloc HB4.out.size _))).mono ?_
    rintro e w5 ⟨rfl, hb⟩
    have HB5 := Lib.hid (below_then (HB4.out.alloc HB4.out.size _) hb)
    clear hb HB4 HN2
    go_wp2_with fail
    refine (awake5_calls _ (HT.out.keep HB5.out)).mono ?_
    rintro e w6 ⟨rfl, hb⟩
    have HB6 := Lib.hid (below_then HB5.out hb)
    clear hb HB5
    go_wp2_with fail
    go_ret
    exact ⟨rfl, HB6.out⟩
  · clear hab HPB
    rcases hcs with k1 | ⟨k1, k2⟩
    all_goals
      go_wp2_with fail
      refine (awake5_calls _ (HT.out.keep (HB4.out.alloc HB4.out.size _))).mono ?_
      rintro e w5 ⟨rfl, hb⟩
      have HB5 := Lib.hid (below_then (HB4.out.alloc HB4.out.size _) hb)
      clear hb HB4
      go_wp2_with fail
      go_ret
      exact ⟨rfl, HB5.out⟩

set_option maxRecDepth 100000 in
theorem nback_walk (n : Int) (s : ByteArray) (hb : -9223372036854775808 ≤ n ∧ n ≤ 9223372036854775807) (w : World) (ht : Tab w) : Calls Tryd.prog 5 #[.int .i64 n, .string s] w fun e w' => e = .returned (.bool true) ∧ Below w.heap.size w w' := by
  by_cases h200 : 200 < (s.size : Int)
  · have HT := Lib.hid ht
    clear ht
    go_enter Tryd.func5, Tryd.ntmps5
    go_wp2_with fail
    refine (awake5_calls _ HT.out).mono ?_
    rintro e w1 ⟨rfl, hb⟩
    have HB := Lib.hid hb
    clear hb
    go_wp2_with fail
    go_ret
    exact ⟨rfl, HB.out⟩
  · by_cases h0 : 0 ≤ n
    · exact nback_one n h0 s (by omega) w ht hb
    · exact nback_two n (by omega) s (by omega) w ht hb
end Go.Proofs.YtgcacbkoilmofaaDoor
