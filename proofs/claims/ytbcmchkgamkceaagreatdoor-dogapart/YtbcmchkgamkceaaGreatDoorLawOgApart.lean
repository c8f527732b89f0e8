/-
  The walk of DogApart. No statement of the seat is proved here.
-/
import Derived.Test.YtbcmchkgamkceaaGreatDoorGrOgRefLine
namespace Go.Proofs.YtbcmchkgamkceaaGreatDoor
open Go.RowKit
open Dc (D D0)

section
variable {w : World} {s : ByteArray} {A B : Option Addr} {n k ca cb : Nat} {m : Mt} {s' : ByteArray} {A' B' : Option Addr} {n' k' ca' cb' : Nat} {m' : Mt}
set_option maxRecDepth 100000 in
set_option maxHeartbeats 8000000 in
theorem oapart_walk (h : MIs w s A n B k m) (hf : ∀ d ∈ m.vals, d.Fits) (h' : MIs w s' A' n' B' k' m') (hf' : ∀ d ∈ m'.vals, d.Fits) (ht : Tab w) :
    Calls Tryz.prog 8 #[mV s m.kind A n ca m.rate B k cb m.time, mV s' m'.kind A' n' ca' m'.rate B' k' cb' m'.time] w fun e w' => e = .returned (.bool true) ∧ Below w.heap.size w w' := by
  obtain ⟨q, hq⟩ : ∃ q, fewM m = q := ⟨_, rfl⟩
  obtain ⟨q', hq'⟩ : ∃ q, fewM m' = q := ⟨_, rfl⟩
  have HZ := Lib.hid (fun (e : q = true) => few_small (hq.trans e) hf)
  have HZ' := Lib.hid (fun (e : q' = true) => few_small (hq'.trans e) hf')
  have HQ := Lib.hid (And.intro hq hq')
  have hb := (((Kb.start w).mAdd h).mAdd h').lay (.string s) (.int .i64 m.kind) (.slice A n ca) (.int .i64 m.rate) (.slice B k cb) (.int .i64 m.time) |>.lay (.string s') (.int .i64 m'.kind) (.slice A' n' ca') (.int .i64 m'.rate) (.slice B' k' cb') (.int .i64 m'.time)
  rw [size_alloc] at hb
  have HB := Lib.hid hb
  have HT := Lib.hid ht
  unfold mV
  clear hq hq' h hf h' hf' hb ht
  go_enter Tryz.func8, Tryz.ntmps8
  go_wp2_with fail
  refine (HB.out.few_ (.tail _ (.head _)) HQ.out.1 _ _).mono ?_
  rintro e w1 ⟨rfl, hb⟩
  obtain ⟨c0, c1, c2, c3, c4, c5⟩ := hb.six (.tail _ (.head _))
  obtain ⟨d0, d1, d2, d3, d4, d5⟩ := hb.six (.head _)
  have HB1 := Lib.hid hb
  clear hb HB
  cases q
  · go_wp2_with fail
    refine (HB1.out.awake11_ HT.out).mono ?_
    rintro e w2 ⟨rfl, hb⟩
    clear c0 c1 c2 c3 c4 c5 d0 d1 d2 d3 d4 d5
    have HB2 := Lib.hid hb
    clear hb HB1
    go_wp2_with fail
    go_ret
    exact ⟨rfl, HB2.out.kept⟩
  have HZ1 := Lib.hid (HZ.out rfl)
  clear HZ
  go_wp2_with fail
  refine (HB1.out.few_ (.head _) HQ.out.2 _ _).mono ?_
  rintro e w2 ⟨rfl, hb⟩
  clear c0 c1 c2 c3 c4 c5 d0 d1 d2 d3 d4 d5
  obtain ⟨c0, c1, c2, c3, c4, c5⟩ := hb.six (.tail _ (.head _))
  obtain ⟨d0, d1, d2, d3, d4, d5⟩ := hb.six (.head _)
  have HB2 := Lib.hid hb
  clear hb HB1
  cases q'
  · go_wp2_with fail
    refine (HB2.out.awake11_ HT.out).mono ?_
    rintro e w3 ⟨rfl, hb⟩
    clear c0 c1 c2 c3 c4 c5 d0 d1 d2 d3 d4 d5
    have HB3 := Lib.hid hb
    clear hb HB2
    go_wp2_with fail
    go_ret
    exact ⟨rfl, HB3.out.kept⟩
  have HZ2 := Lib.hid (HZ'.out rfl)
  clear HZ'
  obtain ⟨c, hc⟩ : ∃ c, codeM m = c := ⟨_, rfl⟩
  obtain ⟨c', hc'⟩ : ∃ c, codeM m' = c := ⟨_, rfl⟩
  obtain ⟨t, htt⟩ : ∃ t, lineO m = t := ⟨_, rfl⟩
  obtain ⟨t', htt'⟩ : ∃ t, lineO m' = t := ⟨_, rfl⟩
  have HC := Lib.hid (And.intro hc (And.intro hc' (And.intro htt htt')))
  clear hc hc' htt htt'
  go_wp2_with fail
  refine (HB2.out.oline_ (.tail _ (.head _)) HZ1.out HT.out HC.out.2.2.1 HC.out.1 _ _).mono ?_
  rintro e w3 ⟨rfl, hb⟩
  clear c0 c1 c2 c3 c4 c5 d0 d1 d2 d3 d4 d5
  obtain ⟨d0, d1, d2, d3, d4, d5⟩ := hb.six (.head _)
  have HB3 := Lib.hid hb
  clear hb HB2
  go_wp2_with fail
  refine (HB3.out.oline_ (.head _) HZ2.out HT.out HC.out.2.2.2 HC.out.2.1 _ _).mono ?_
  rintro e w4 ⟨rfl, hb⟩
  clear d0 d1 d2 d3 d4 d5
  have HB4 := Lib.hid hb
  clear hb HB3
  by_cases hc0 : c = 0
  · subst hc0
    by_cases hc1 : c' = 0
    · subst hc1
      obtain ⟨c0, c1, c2, c3, c4, c5⟩ := HB4.out.six (.tail _ (.head _))
      obtain ⟨d0, d1, d2, d3, d4, d5⟩ := HB4.out.six (.head _)
      by_cases he : nM m = nM m'
      · have hst : t = t' := by rw [← HC.out.2.2.1, ← HC.out.2.2.2, lineO_right HC.out.1, lineO_right HC.out.2.1, he]
        have hx : sameM m m' = true := by
          unfold sameM
          rw [HC.out.1, HC.out.2.1, decide_eq_true he]; rfl
        have HX := Lib.hid hx
        subst hst
        obtain ⟨u, hu⟩ : ∃ u : ByteArray, (⟨t.toArray⟩ : ByteArray) = u := ⟨_, rfl⟩
        rw [hu]
        clear hu he hx
        go_wp2_with fail
        refine (HB4.out.same_ (.tail _ (.head _)) (.head _) HZ1.out HZ2.out HX.out _ _ _ _).mono ?_
        rintro e w5 ⟨rfl, hb⟩
        clear c0 c1 c2 c3 c4 c5 d0 d1 d2 d3 d4 d5
        have HB5 := Lib.hid hb
        clear hb HB4
        go_wp2_with fail
        refine (HB5.out.awake11_ HT.out).mono ?_
        rintro e w6 ⟨rfl, hb⟩
        have HB6 := Lib.hid hb
        clear hb HB5
        go_wp2_with fail
        go_ret
        exact ⟨rfl, HB6.out.kept⟩
      · have hx : sameM m m' = false := by
          unfold sameM
          rw [HC.out.1, HC.out.2.1, decide_eq_false he]; rfl
        have HX := Lib.hid hx
        have hst : t ≠ t' := by
          rw [← HC.out.2.2.1, ← HC.out.2.2.2, lineO_right HC.out.1, lineO_right HC.out.2.1]
          have h1 := nM_right HC.out.1
          have h2 := nM_right HC.out.2.1
          exact fun e => he ((lineD_apart h1.1 h1.2 h2.1 h2.2).1 e)
        obtain ⟨u, hu⟩ : ∃ u : ByteArray, (⟨t.toArray⟩ : ByteArray) = u := ⟨_, rfl⟩
        obtain ⟨u', hu'⟩ : ∃ u : ByteArray, (⟨t'.toArray⟩ : ByteArray) = u := ⟨_, rfl⟩
        have hus : Str u t := by rw [← hu]; exact Str.mk _
        have hus' : Str u' t' := by rw [← hu']; exact Str.mk _
        have hne : (u.toList == u'.toList) = false := by rw [hus.toList, hus'.toList]; simpa using hst
        rw [hu, hu']
        clear hu hu' he hx hus hus' hst
        go_wp2_with fail
        refine (HB4.out.same_ (.tail _ (.head _)) (.head _) HZ1.out HZ2.out HX.out _ _ _ _).mono ?_
        rintro e w5 ⟨rfl, hb⟩
        clear c0 c1 c2 c3 c4 c5 d0 d1 d2 d3 d4 d5
        have HB5 := Lib.hid hb
        clear hb HB4
        go_wp2_with fail
        refine (HB5.out.awake11_ HT.out).mono ?_
        rintro e w6 ⟨rfl, hb⟩
        have HB6 := Lib.hid hb
        clear hb HB5
        go_wp2_with fail
        go_ret
        exact ⟨rfl, HB6.out.kept⟩
    · have hcb : (c' == 0) = false := by simpa using hc1
      have hcc : (c' != 0) = true := by simpa using hc1
      have ht0 : t' = [] := by rw [← HC.out.2.2.2]; exact lineO_wrong (by rw [HC.out.2.1]; exact hc1)
      subst ht0
      go_wp2_with fail
      refine (HB4.out.awake11_ HT.out).mono ?_
      rintro e w6 ⟨rfl, hb⟩
      have HB6 := Lib.hid hb
      clear hb HB4
      go_wp2_with fail
      go_ret
      exact ⟨rfl, HB6.out.kept⟩
  · have hcb : (c == 0) = false := by simpa using hc0
    have hcc : (c != 0) = true := by simpa using hc0
    have ht0 : t = [] := by rw [← HC.out.2.2.1]; exact lineO_wrong (by rw [HC.out.1]; exact hc0)
    subst ht0
    by_cases hc1 : c' = 0
    · subst hc1
      go_wp2_with fail
      refine (HB4.out.awake11_ HT.out).mono ?_
      rintro e w6 ⟨rfl, hb⟩
      have HB6 := Lib.hid hb
      clear hb HB4
      go_wp2_with fail
      go_ret
      exact ⟨rfl, HB6.out.kept⟩
    · have hcb' : (c' == 0) = false := by simpa using hc1
      have hcc' : (c' != 0) = true := by simpa using hc1
      have ht1 : t' = [] := by rw [← HC.out.2.2.2]; exact lineO_wrong (by rw [HC.out.2.1]; exact hc1)
      subst ht1
      go_wp2_with fail
      refine (HB4.out.awake11_ HT.out).mono ?_
      rintro e w6 ⟨rfl, hb⟩
      have HB6 := Lib.hid hb
      clear hb HB4
      go_wp2_with fail
      go_ret
      exact ⟨rfl, HB6.out.kept⟩
end
end Go.Proofs.YtbcmchkgamkceaaGreatDoor
