/-
  The walk of StatsdWords. No statement of the seat is proved here.
-/
import Derived.Test.YtdliookdmgilgaaGreatDoorGrSdSLine
namespace Go.Proofs.YtdliookdmgilgaaGreatDoor
open Go.RowKit
open Dc (D D0)

set_option maxRecDepth 100000 in
set_option maxHeartbeats 4000000 in
theorem swords_walk {k : Int} (wk : (Lit.int .i64 k).wf = true) (s : ByteArray) (W : World) (ht : Tab W) : Calls Tryz.prog 5 #[.int .i64 k, .string s] W fun e w' => e = .returned (.bool true) ∧ Below W.heap.size W w' := by
  have HT := Lib.hid (fun W' (b : Below W.heap.size W W') => awake10_calls W' (ht.keep b))
  clear ht
  obtain ⟨l, hl⟩ : ∃ l, Str s l := ⟨_, Str.self s⟩
  have hsz : (s.size : Int) = (l.length : Int) := by rw [hl.size]
  have HS := Lib.hid (And.intro hl wk)
  clear hl
  go_enter Tryz.func5, Tryz.ntmps5
  by_cases hlong : 100 < (s.size : Int)
  · go_wp2_with fail
    refine (HT.out _ (Below.refl _ _)).mono ?_
    rintro e w1 ⟨rfl, hb⟩
    have HB := Lib.hid hb
    clear hb
    go_wp2_with fail
    go_ret
    exact ⟨rfl, HB.out⟩
  · go_wp2_with fail
    refine (sword_calls HS.out.2 _).mono ?_
    rintro e w1 ⟨rfl, hb⟩
    have HB1 := Lib.hid hb
    clear hb
    go_wp2_with fail
    refine (rword_calls k _).mono ?_
    rintro e w2 ⟨rfl, hb⟩
    have HB2 := Lib.hid (below_then HB1.out hb)
    clear hb HB1
    go_upto_region 5 with fail
    obtain ⟨u, hu⟩ : ∃ u : ByteArray, u = ⟨(wordOf k).toArray⟩ := ⟨_, rfl⟩
    rw [← hu]
    have hus : Str u (wordOf k) := by rw [hu]; exact Str.mk _
    obtain ⟨cw, hcw⟩ : ∃ c, codeW k = c := ⟨_, rfl⟩
    rw [hcw]
    obtain ⟨n, hn⟩ : ∃ n, kindOf l = n := ⟨_, rfl⟩
    obtain ⟨cn, hcn⟩ : ∃ n, codeK l = n := ⟨_, rfl⟩
    have hK := fun W => skind_calls HS.out.1 W
    have hR := fun W => rkind_calls s l HS.out.1 W
    simp only [hn, hcn] at hK hR
    have HK := Lib.hid hK
    have HR := Lib.hid hR
    have HC := Lib.hid (show (n = 0 ∧ cn = 16) ∨ (n ≠ 0 ∧ cn = 0) by
      rw [← hn, ← hcn]
      unfold codeK
      by_cases h : kindOf l = 0
      · exact .inl ⟨h, if_pos h⟩
      · exact .inr ⟨h, if_neg h⟩)
    have HU := Lib.hid (And.intro hu hus)
    clear hK hR hn hcn hu hus
    by_cases h : 1 ≤ k ∧ k ≤ 4
    · have h0 : cw = 0 := by rw [← hcw]; exact if_pos h
      subst h0
      have hne : (u.toList == []) = false := by
        rw [HU.out.2.toList]
        have := (wordOf_len h).1
        cases hw : wordOf k with
        | nil => rw [hw] at this; simp at this
        | cons a t => rfl
      have hKK := skind_calls HU.out.2 w2
      rw [kindOf_word h, show codeK (wordOf k) = 0 by unfold codeK; rw [kindOf_word h, if_neg (by omega)]] at hKK
      have HKK := Lib.hid hKK
      clear hKK hcw h HU
      go_wp2_with fail
      refine HKK.out.mono ?_
      rintro e w3 ⟨rfl, hb⟩
      have HB3 := Lib.hid (below_then HB2.out hb)
      clear hb HKK HB2 hne
      go_wp2_with fail
      refine (HK.out _).mono ?_
      rintro e w4 ⟨rfl, hb⟩
      have HB4 := Lib.hid (below_then HB3.out hb)
      clear hb HB3
      go_wp2_with fail
      refine (HR.out _).mono ?_
      rintro e w5 ⟨rfl, hb⟩
      have HB5 := Lib.hid (below_then HB4.out hb)
      clear hb HB4
      rcases HC.out with ⟨h1, h2⟩ | ⟨h1, h2⟩
      · subst h1 h2
        go_wp2_with fail
        refine (HT.out _ HB5.out).mono ?_
        rintro e w6 ⟨rfl, hb⟩
        have HB6 := Lib.hid (below_then HB5.out hb)
        clear hb
        go_wp2_with fail
        go_ret
        exact ⟨rfl, HB6.out⟩
      · have hnb : (n == 0) = false := by simpa using h1
        subst h2
        go_wp2_with fail
        refine (HT.out _ HB5.out).mono ?_
        rintro e w6 ⟨rfl, hb⟩
        have HB6 := Lib.hid (below_then HB5.out hb)
        clear hb
        go_wp2_with fail
        go_ret
        exact ⟨rfl, HB6.out⟩
    · have h0 : cw = 16 := by rw [← hcw]; exact if_neg h
      subst h0
      have hu0 : u = ⟨#[]⟩ := by rw [HU.out.1, wordOf_none h]
      subst hu0
      clear hcw h HU
      have HB3 := Lib.hid HB2.out
      clear HB2
      go_wp2_with fail
      refine (HK.out _).mono ?_
      rintro e w4 ⟨rfl, hb⟩
      have HB4 := Lib.hid (below_then HB3.out hb)
      clear hb HB3
      go_wp2_with fail
      refine (HR.out _).mono ?_
      rintro e w5 ⟨rfl, hb⟩
      have HB5 := Lib.hid (below_then HB4.out hb)
      clear hb HB4
      rcases HC.out with ⟨h1, h2⟩ | ⟨h1, h2⟩
      · subst h1 h2
        go_wp2_with fail
        refine (HT.out _ HB5.out).mono ?_
        rintro e w6 ⟨rfl, hb⟩
        have HB6 := Lib.hid (below_then HB5.out hb)
        clear hb
        go_wp2_with fail
        go_ret
        exact ⟨rfl, HB6.out⟩
      · have hnb : (n == 0) = false := by simpa using h1
        subst h2
        go_wp2_with fail
        refine (HT.out _ HB5.out).mono ?_
        rintro e w6 ⟨rfl, hb⟩
        have HB6 := Lib.hid (below_then HB5.out hb)
        clear hb
        go_wp2_with fail
        go_ret
        exact ⟨rfl, HB6.out⟩
end Go.Proofs.YtdliookdmgilgaaGreatDoor
