/-
  The walk of DogWords. No statement of the seat is proved here.
-/
import Derived.Test.YtbcmchkgamkceaaGreatDoorGrOgRefLine
namespace Go.Proofs.YtbcmchkgamkceaaGreatDoor
open Go.RowKit
open Dc (D D0)

set_option maxRecDepth 100000 in
set_option maxHeartbeats 4000000 in
theorem owords_walk {k : Int} (wk : (Lit.int .i64 k).wf = true) (s : ByteArray) (W : World) (ht : Tab W) : Calls Tryz.prog 3 #[.int .i64 k, .string s] W fun e w' => e = .returned (.bool true) ∧ Below W.heap.size W w' := by
  have HT := Lib.hid (fun W' (b : Below W.heap.size W W') => awake11_calls W' (ht.keep b))
  clear ht
  obtain ⟨l, hl⟩ : ∃ l, Str s l := ⟨_, Str.self s⟩
  have hsz : (s.size : Int) = (l.length : Int) := by rw [hl.size]
  have HS := Lib.hid (And.intro hl wk)
  clear hl
  go_enter Tryz.func3, Tryz.ntmps3
  by_cases hlong : 100 < (s.size : Int)
  · go_wp2_with fail
    refine (HT.out _ (Below.refl _ _)).mono ?_
    rintro e w1 ⟨rfl, hb⟩
    have HB := Lib.hid hb
    clear hb
    go_wp2_with fail
    go_ret
    exact ⟨rfl, HB.out⟩
  · go_wp2_with fail
    refine (oword_calls k _).mono ?_
    rintro e w1 ⟨rfl, rfl⟩
    obtain ⟨n, hn⟩ : ∃ n, kindD l = n := ⟨_, rfl⟩
    obtain ⟨cn, hcn⟩ : ∃ n, codeDK l = n := ⟨_, rfl⟩
    have hK := fun W => okind_calls HS.out.1 W
    have hR := fun W => okindr_calls HS.out.1 W
    simp only [hn, hcn] at hK hR
    have HK := Lib.hid hK
    have HR := Lib.hid hR
    have HC := Lib.hid (show (n = 0 ∧ cn = 16) ∨ (n ≠ 0 ∧ cn = 0) by
      rw [← hn, ← hcn]
      unfold codeDK
      by_cases h : kindD l = 0
      · exact .inl ⟨h, if_pos h⟩
      · exact .inr ⟨h, if_neg h⟩)
    obtain ⟨u, hu⟩ : ∃ u : ByteArray, u = ⟨(wordD k).toArray⟩ := ⟨_, rfl⟩
    rw [← hu]
    obtain ⟨cw, hcw⟩ : ∃ c, codeDW k = c := ⟨_, rfl⟩
    rw [hcw]
    have HU := Lib.hid (And.intro hu hcw)
    clear hK hR hn hcn hu hcw
    go_wp2_with fail
    refine (HK.out _).mono ?_
    rintro e w1 ⟨rfl, rfl⟩
    have HB1 := Lib.hid (Below.refl W.heap.size W)
    by_cases hk1 : k < 1
    · obtain rfl : cw = 16 := by rw [← HU.out.2]; exact if_neg (by omega)
      obtain rfl : u = ⟨#[]⟩ := by rw [HU.out.1, wordD_none (by omega)]
      clear HU
      have HB4 := Lib.hid HB1.out
      clear HB1
      go_wp2_with fail
      refine (HR.out _).mono ?_
      rintro e w5 ⟨rfl, hb⟩
      have HB5 := Lib.hid (below_then HB4.out hb)
      clear hb HB4
      rcases HC.out with ⟨h1, h2⟩ | ⟨h1, h2⟩
      · subst h1 h2
        go_wp2_with fail
        refine (HT.out _ HB5.out).mono ?_
        rintro e w6 ⟨rfl, hb⟩
        have HB6 := Lib.hid (below_then HB5.out hb)
        clear hb
        go_wp2_with fail
        go_ret
        exact ⟨rfl, HB6.out⟩
      · have hnb : (n == 0) = false := by simpa using h1
        subst h2
        go_wp2_with fail
        refine (HT.out _ HB5.out).mono ?_
        rintro e w6 ⟨rfl, hb⟩
        have HB6 := Lib.hid (below_then HB5.out hb)
        clear hb
        go_wp2_with fail
        go_ret
        exact ⟨rfl, HB6.out⟩
    · go_upto_if 29 with fail
      go_cut [] from 9 (fun wx => Hid (Below W.heap.size W wx))
      case first =>
        rcases (by omega : k = 1 ∨ k = 2 ∨ k = 3 ∨ k = 4 ∨ k = 5 ∨ 5 < k) with rfl | rfl | rfl | rfl | rfl | h1
        all_goals first
          | (obtain rfl : cw = 0 := HU.out.2.symm
             obtain rfl : u = _ := HU.out.1
             clear HU
             go_wp2_with fail
             refine (rwords_calls _).mono ?_
             rintro e w2 ⟨rfl, hbx, hb⟩
             have HB2 := Lib.hid (below_then HB1.out hb)
             have hc0 := hbx.cell 0
             have hc1 := hbx.cell 1
             have hc2 := hbx.cell 2
             have hc3 := hbx.cell 3
             have hc4 := hbx.cell 4
             simp only [words5, List.getElem?_cons_zero, List.getElem?_cons_succ] at hc0 hc1 hc2 hc3 hc4
             clear hb HB1 hbx
             go_wp2_with fail
             go_meet
             exact HB2)
          | (obtain rfl : cw = 16 := by rw [← HU.out.2]; exact if_neg (by omega)
             obtain rfl : u = ⟨#[]⟩ := by rw [HU.out.1, wordD_none (by omega)]
             clear HU
             go_wp2_with fail
             go_meet
             exact HB1)
      case rest =>
      have HB4 := Lib.hid hcut.out
      obtain ⟨W3, hW3⟩ : ∃ W, W = wc := ⟨_, rfl⟩
      subst hW3
      clear hcut HB1
      go_wp2_with fail
      refine (HR.out _).mono ?_
      rintro e w5 ⟨rfl, hb⟩
      have HB5 := Lib.hid (below_then HB4.out hb)
      clear hb HB4
      rcases HC.out with ⟨h1, h2⟩ | ⟨h1, h2⟩
      · subst h1 h2
        go_wp2_with fail
        refine (HT.out _ HB5.out).mono ?_
        rintro e w6 ⟨rfl, hb⟩
        have HB6 := Lib.hid (below_then HB5.out hb)
        clear hb
        go_wp2_with fail
        go_ret
        exact ⟨rfl, HB6.out⟩
      · have hnb : (n == 0) = false := by simpa using h1
        subst h2
        go_wp2_with fail
        refine (HT.out _ HB5.out).mono ?_
        rintro e w6 ⟨rfl, hb⟩
        have HB6 := Lib.hid (below_then HB5.out hb)
        clear hb
        go_wp2_with fail
        go_ret
        exact ⟨rfl, HB6.out⟩
end Go.Proofs.YtbcmchkgamkceaaGreatDoor
