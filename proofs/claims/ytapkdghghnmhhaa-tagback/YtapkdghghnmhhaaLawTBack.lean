/-
  The walk of TagBack. No statement of the seat is proved here.
-/
import Derived.Test.YtapkdghghnmhhaaTTxt
import Derived.Test.YtapkdghghnmhhaaLawTParts
namespace Go.Proofs.Ytapkdghghnmhhaa
open Go.RowKit

theorem text_bad {w : World} {A : Option Addr} {n cap : Nat} {ts : List Tg} {k : Nat} (hn : ts.length = n) (hA : Tags w A ts) (hz : n ≤ 600) (hlen : ∀ i (hi : i < ts.length), ts[i].1.length ≤ 1000 ∧ ts[i].2.length ≤ 1000) (hb : badT ts = some k) :
    Calls Try.prog 22 #[.slice A n cap] w fun e w' => e = .returned (.tuple #[.string ⟨#[]⟩, .int .i64 k, .int .i64 19]) ∧ Below w.heap.size w w' := by
  refine (text_of_calls hn hA hz hlen).mono fun e w' h => ?_
  unfold TextP at h
  rw [hb] at h
  exact ⟨h.2, h.1⟩
theorem text_good {w : World} {A : Option Addr} {n cap : Nat} {ts : List Tg} (hn : ts.length = n) (hA : Tags w A ts) (hz : n ≤ 600) (hlen : ∀ i (hi : i < ts.length), ts[i].1.length ≤ 1000 ∧ ts[i].2.length ≤ 1000) (hb : badT ts = none) :
    Calls Try.prog 22 #[.slice A n cap] w fun e w' => (∃ r, e = .returned (.tuple #[.string r, .int .i64 0, .int .i64 0]) ∧ Str r (textT ts)) ∧ Below w.heap.size w w' := by
  refine (text_of_calls hn hA hz hlen).mono fun e w' h => ?_
  unfold TextP at h
  rw [hb] at h
  exact ⟨h.2, h.1⟩
theorem badT_right {ts : List Tg} (h : badT ts = none) : ∀ t ∈ ts, rightT t = true := by
  intro t ht
  have := List.findIdx?_eq_none_iff.mp h t ht
  simpa using this
theorem right_len {ts : List Tg} (h : ∀ t ∈ ts, rightT t = true) : ∀ i (hi : i < ts.length), ts[i].1.length ≤ 1000 ∧ ts[i].2.length ≤ 1000 := by
  intro i hi
  have := right_parts (h _ (List.getElem_mem hi))
  omega
theorem few_rows6 {ts : List Tg} (h : few ts = true) : ∀ i (hi : i < ts.length), ts[i].1.length ≤ 1000 ∧ ts[i].2.length ≤ 1000 := fun i hi => by have := (few_no h).2 i hi; omega
theorem badT_all {ts : List Tg} (h : ∀ t ∈ ts, rightT t = true) : badT ts = none := badT_none fun _ hi => h _ (List.getElem_mem hi)

set_option maxRecDepth 100000 in
set_option maxHeartbeats 8000000 in
theorem back_walk {A : Option Addr} {n cap : Nat} {ts : List Tg} {s : ByteArray} {w : World} (hn : ts.length = n) (hA : Tags w A ts) (hc : n ≤ maxLen) (hm : s.size ≤ maxLen) :
    Calls Try.prog 6 #[.slice A n cap, .string s] w fun e w' => e = .returned (.bool true) ∧ Below w.heap.size w w' := by
  obtain ⟨q, hq⟩ : ∃ q, few ts = q := ⟨_, rfl⟩
  have HF := Lib.hid (few_says (cap := cap) hn hA hc hq)
  obtain ⟨l, hs⟩ : ∃ l, Str s l := ⟨s.data.toList, rfl⟩
  have hsz := hs.size
  have hm' : (s.size : Int) ≤ 9223372036854775807 := by unfold maxLen at hm; omega
  have HA := Lib.hid (And.intro hn (And.intro hA (And.intro hq hs)))
  have haw : ∀ W, Below w.heap.size w W → Calls Try.prog 11 #[] W fun e w' => e = .returned (.bool true) ∧ Below w.heap.size w w' := fun W h => (awake_calls W).mono fun _ _ ⟨h1, h2⟩ => ⟨h1, h.trans (h2.mono h.size)⟩
  have HAW := Lib.hid haw
  clear hn hA hc hm hq hs haw
  go_enter Try.func6, Try.ntmps6
  go_wp2_with fail
  refine HF.out.mono ?_
  rintro e w1 ⟨rfl, hb⟩
  have HK1 := Lib.hid hb
  clear hb HF
  cases q
  · go_wp2_with fail
    refine (HAW.out _ HK1.out).mono ?_
    rintro e w2 ⟨rfl, hb⟩
    have HK2 := Lib.hid hb
    clear hb HK1
    go_wp2_with fail
    go_ret
    exact ⟨rfl, HK2.out⟩
  · by_cases h500 : 500 < (s.size : Int)
    · clear hsz
      go_wp2_with fail
      refine (HAW.out _ HK1.out).mono ?_
      rintro e w2 ⟨rfl, hb⟩
      have HK2 := Lib.hid hb
      clear hb HK1
      go_wp2_with fail
      go_ret
      exact ⟨rfl, HK2.out⟩
    · have hn60 : n ≤ 60 := by have := (few_no HA.out.2.2.1).1; have := HA.out.1; omega
      have HSZ := Lib.hid hsz
      clear hsz hm'
      go_wp2_with fail
      go_loopw [5, 6] (fun v4 v5 wr => ∃ (z : Int) (i : Nat), v4 = .int .i64 z ∧ v5 = .int .i64 i ∧ i ≤ n ∧ Hid (Below w.heap.size w wr ∧ ((z = -1 ∧ ∀ j (h : j < ts.length), j < i → rightT ts[j] = true) ∨ ∃ k : Nat, z = k ∧ badT ts = some k))) (fun _ v5 _ => n - (intOf v5).toNat)
      case atStart => exact ⟨-1, 0, rfl, rfl, by omega, ⟨HK1.out, .inl ⟨rfl, fun j _ hj => absurd hj (by omega)⟩⟩⟩
      case round =>
        obtain ⟨z, i, rfl, rfl, hi, hrel⟩ := hrel
        clear HK1
        by_cases hgo : i < n ∧ z < 0
        · obtain ⟨h1, h2⟩ := hgo
          have g1 : (i : Int) < (n : Int) := by omega
          obtain ⟨hn, hA, hq, _⟩ := HA.out
          have li : i < ts.length := by omega
          obtain ⟨b, off, s1, u1, eA, c0, c1, hs1, hu1⟩ := (hA.keep hrel.out.1).get li
          have hl := (few_no hq).2 i li
          have hz1 := hs1.size
          have hz2 := hu1.size
          have HCK := Lib.hid (check_calls hs1 hu1 (by omega) (by omega))
          obtain ⟨c, hc⟩ : ∃ c, chkT ts[i] = c := ⟨_, rfl⟩
          rw [hc] at HCK
          have HC := Lib.hid hc
          obtain ⟨rfl, hri⟩ : (-1 : Int) = z ∧ ∀ j (h : j < ts.length), j < i → rightT ts[j] = true := by
            rcases hrel.out.2 with ⟨h0, h⟩ | ⟨k, h, _⟩
            · exact ⟨h0.symm, h⟩
            · omega
          have HR := Lib.hid hri
          clear hri
          have HB := Lib.hid hrel.out.1
          clear hn hA hq hl hz1 hz2 hs1 hu1 hc hrel
          subst eA
          go_wp2_with fail
          refine (HCK.out _).mono ?_
          rintro e w2 ⟨rfl, hb⟩
          have HB2 := Lib.hid (below_then HB.out hb)
          clear hb HB HCK c0 c1
          by_cases hr : rightT ts[i] = true
          · obtain rfl : (0 : Int) = c := by rw [← HC.out]; unfold chkT; rw [if_pos hr]
            have HRR := Lib.hid (show ∀ j (h : j < ts.length), j < i + 1 → rightT ts[j] = true by
              intro j h hj
              rcases Nat.lt_or_ge j i with h' | h'
              · exact HR.out j h h'
              · obtain rfl : i = j := by omega
                exact hr)
            clear hr
            go_wp2_with fail
            refine ⟨⟨-1, i + 1, rfl, by go_num, by omega, ⟨HB2.out, .inl ⟨rfl, HRR.out⟩⟩⟩, by simp [intOf]; omega⟩
          · obtain rfl : (19 : Int) = c := by rw [← HC.out]; unfold chkT; rw [if_neg hr]
            have HBT := Lib.hid (badT_some li HR.out (by simpa using hr))
            clear hr
            go_wp2_with fail
            refine ⟨⟨(i : Int), i + 1, rfl, by go_num, by omega, ⟨HB2.out, .inr ⟨i, rfl, HBT.out⟩⟩⟩, by simp [intOf]; omega⟩
        · have hcase : (z = -1 ∧ badT ts = none ∧ ¬ (i : Int) < (n : Int)) ∨ ∃ k : Nat, z = k ∧ badT ts = some k ∧ ((¬ (i : Int) < (n : Int)) ∨ (i : Int) < (n : Int)) := by
            rcases hrel.out.2 with ⟨h0, h⟩ | ⟨k, h0, h⟩
            · refine .inl ⟨h0, badT_none fun j hj => h j hj (by have := HA.out.1; omega), by omega⟩
            · exact .inr ⟨k, h0, h, by omega⟩
          have HB := Lib.hid hrel.out.1
          obtain ⟨x, y, us, hres⟩ := res_some (parseT l)
          have HPS := Lib.hid (fun W => parse_res HA.out.2.2.2 (by omega) hres W)
          have HRES := Lib.hid hres
          have hg := fguard
          have hflen := (few_rows6 HA.out.2.2.1)
          clear hrel hgo hres
          rcases hcase with ⟨rfl, hbt, g1⟩ | ⟨k, rfl, hbt, g1⟩
          · have HTT := Lib.hid (text_good (cap := cap) HA.out.1 (HA.out.2.1.keep HB.out) (by omega) hflen hbt)
            have HRT := Lib.hid (badT_right hbt)
            clear hbt hflen
            go_wp2_with fail
            refine HTT.out.mono ?_
            rintro e w2 ⟨⟨r, rfl, hr⟩, hb⟩
            have HB2 := Lib.hid (below_then HB.out hb)
            have HRS := Lib.hid hr
            have hrz := hr.size
            have htl := textT_len HRT.out (by have := HA.out.1; omega)
            clear hb HB HTT hr
            rcases Nat.eq_zero_or_pos n with hn0 | hn0
            · have hts : ts = [] := List.eq_nil_of_length_eq_zero (by rw [HA.out.1]; exact hn0)
              have hrs := HRS.out
              rw [hts] at hrs
              have hre : r.toList.isEmpty = true := by rw [hrs.toList]; rfl
              obtain ⟨x', y', us', hres'⟩ := res_some (parseT (textT ts))
              have HPR := Lib.hid (parse_res HRS.out (by omega) hres' w2)
              clear hres' hts hrs hrz htl
              subst hn0
              go_wp2_with fail
              refine HPR.out.mono ?_
              rintro e w3 ⟨⟨M', cm', rfl, ht⟩, hb⟩
              have HB3 := Lib.hid (show Below w.heap.size w (w3.alloc (.cells #[.int .i64 x', .int .i64 y'] 34)) from (below_then HB2.out hb).alloc (below_then HB2.out hb).size _)
              clear hb ht HPR HB2
              go_wp2_with fail
              refine (HPS.out _).mono ?_
              rintro e wa ⟨⟨M, cm, rfl, ht⟩, hb⟩
              have HKA := Lib.hid ((Kp.row ⟨below_then HB3.out hb, by simp, by simp⟩ ht : Kp w [] [(M, us)] wa).push 34 (.int .i64 x) (.int .i64 y))
              clear ht hb HPS
              have f0 := HKA.out.cell (a := ⟨wa.heap.size, 0, none⟩) (v := .int .i64 x) (by simp)
              have f1 := HKA.out.cell (a := ⟨wa.heap.size, 1, none⟩) (v := .int .i64 y) (by simp)
              cases hpl : parseT l with
              | inl k' =>
                have hres := HRES.out
                rw [hpl] at hres
                obtain ⟨rfl, hy, rfl⟩ := hres
                have hk' := parse_inl hpl
                have q1 := fne_run (x := 19) (y := y) (u := 0) (v := 0) (q := false) (by simp)
                have g5 : (0 : Int) ≤ y := by omega
                have g6 : y ≤ (s.size : Int) := by have := HSZ.out; omega
                clear hpl hk' hy HRES
                go_wp2_with fail
                refine (HAW.out _ HKA.out.kept).mono ?_
                rintro e wb ⟨rfl, hb⟩
                have HBB := Lib.hid hb
                clear hb HKA f0 f1
                go_wp2_with fail
                go_ret
                exact ⟨rfl, HBB.out⟩
              | inr us' =>
                have hres := HRES.out
                rw [hpl] at hres
                obtain ⟨rfl, rfl, rfl⟩ := hres
                have q1 := fne_run (x := 0) (y := 0) (u := 0) (v := 0) (q := true) (by simp)
                obtain ⟨htx, hne, hall⟩ := text_parse hpl
                have hul := parse_len hpl
                have hu0 : 0 < us.length := List.length_pos_iff.2 hne
                have hl5 := HSZ.out
                have g7 : (0 : Int) < (us.length : Int) := by omega
                have HTG := Lib.hid (text_good (cap := cm) rfl (HKA.out.tags (A := M) (ts := us) (by simp)) (by omega) (right_len hall) (badT_all hall))
                have HTX := Lib.hid htx
                clear hpl htx hne hall hul HRES hl5
                go_wp2_with fail
                refine HTG.out.mono ?_
                rintro e wc ⟨⟨r2, rfl, hr2⟩, hb⟩
                have he2 : (r2.toList == s.toList) = true := by rw [str_eq hr2 HA.out.2.2.2, HTX.out]; simp
                have HKC := Lib.hid (HKA.out.next hb)
                clear hb HKA f0 f1 hr2 HTG HTX
                go_wp2_with fail
                refine (HAW.out _ HKC.out.kept).mono ?_
                rintro e wb ⟨rfl, hb⟩
                have HBB := Lib.hid hb
                clear hb HKC
                go_wp2_with fail
                go_ret
                exact ⟨rfl, HBB.out⟩
            · have hpt := parse_text (ts := ts) (fun e => by have := HA.out.1; rw [e] at this; simp at this; omega) HRT.out
              have HPR := Lib.hid (parse_good HRS.out (by omega) hpt w2)
              have q0 := fne_run (x := 0) (y := 0) (u := 0) (v := 0) (q := true) (by simp)
              have hnt := HA.out.1
              have g2 : (0 : Int) < (n : Int) := by omega
              have g3 : ((n : Int) == 0) = false := by simp; omega
              clear hpt hrz htl
              go_wp2_with fail
              refine HPR.out.mono ?_
              rintro e w3 ⟨⟨M', cm', rfl, ht, hx1, hx2⟩, hb⟩
              have HK3 := Lib.hid ((Kp.row (Kp.row ⟨below_then HB2.out hb, by simp, by simp⟩ (HA.out.2.1.keep (below_then HB2.out hb))) ht : Kp w [] [(M', ts), (A, ts)] w3).push 34 (.int .i64 0) (.int .i64 0))
              clear hb ht hx1 hx2 HPR HB2
              have e0 := HK3.out.cell (a := ⟨w3.heap.size, 0, none⟩) (v := .int .i64 0) (by simp)
              have e1 := HK3.out.cell (a := ⟨w3.heap.size, 1, none⟩) (v := .int .i64 0) (by simp)
              go_wp2_with fail
              refine (same_true (ts := ts) hnt hnt (HK3.out.tags (A := M') (ts := ts) (by simp)) (HK3.out.tags (A := A) (ts := ts) (by simp)) (by omega)).mono ?_
              rintro e w4 ⟨rfl, hb⟩
              have HB4 := Lib.hid (HK3.out.next hb).kept
              clear hb HK3 e0 e1 hnt
              go_wp2_with fail
              refine (HPS.out _).mono ?_
              rintro e wa ⟨⟨M, cm, rfl, ht⟩, hb⟩
              have HKA := Lib.hid ((Kp.row ⟨below_then HB4.out hb, by simp, by simp⟩ ht : Kp w [] [(M, us)] wa).push 34 (.int .i64 x) (.int .i64 y))
              clear ht hb HPS
              have f0 := HKA.out.cell (a := ⟨wa.heap.size, 0, none⟩) (v := .int .i64 x) (by simp)
              have f1 := HKA.out.cell (a := ⟨wa.heap.size, 1, none⟩) (v := .int .i64 y) (by simp)
              cases hpl : parseT l with
              | inl k' =>
                have hres := HRES.out
                rw [hpl] at hres
                obtain ⟨rfl, hy, rfl⟩ := hres
                have hk' := parse_inl hpl
                have q1 := fne_run (x := 19) (y := y) (u := 0) (v := 0) (q := false) (by simp)
                have g5 : (0 : Int) ≤ y := by omega
                have g6 : y ≤ (s.size : Int) := by have := HSZ.out; omega
                clear hpl hk' hy HRES
                go_wp2_with fail
                refine (HAW.out _ HKA.out.kept).mono ?_
                rintro e wb ⟨rfl, hb⟩
                have HBB := Lib.hid hb
                clear hb HKA f0 f1
                go_wp2_with fail
                go_ret
                exact ⟨rfl, HBB.out⟩
              | inr us' =>
                have hres := HRES.out
                rw [hpl] at hres
                obtain ⟨rfl, rfl, rfl⟩ := hres
                have q1 := fne_run (x := 0) (y := 0) (u := 0) (v := 0) (q := true) (by simp)
                obtain ⟨htx, hne, hall⟩ := text_parse hpl
                have hul := parse_len hpl
                have hu0 : 0 < us.length := List.length_pos_iff.2 hne
                have hl5 := HSZ.out
                have g7 : (0 : Int) < (us.length : Int) := by omega
                have HTG := Lib.hid (text_good (cap := cm) rfl (HKA.out.tags (A := M) (ts := us) (by simp)) (by omega) (right_len hall) (badT_all hall))
                have HTX := Lib.hid htx
                clear hpl htx hne hall hul HRES hl5
                go_wp2_with fail
                refine HTG.out.mono ?_
                rintro e wc ⟨⟨r2, rfl, hr2⟩, hb⟩
                have he2 : (r2.toList == s.toList) = true := by rw [str_eq hr2 HA.out.2.2.2, HTX.out]; simp
                have HKC := Lib.hid (HKA.out.next hb)
                clear hb HKA f0 f1 hr2 HTG HTX
                go_wp2_with fail
                refine (HAW.out _ HKC.out.kept).mono ?_
                rintro e wb ⟨rfl, hb⟩
                have HBB := Lib.hid hb
                clear hb HKC
                go_wp2_with fail
                go_ret
                exact ⟨rfl, HBB.out⟩
          · have HTT := Lib.hid (text_bad (cap := cap) HA.out.1 (HA.out.2.1.keep HB.out) (by omega) hflen hbt)
            have g2 : (0 : Int) ≤ (k : Int) := by omega
            have g3 : ¬ (k : Int) < 0 := by omega
            clear hbt hflen
            rcases g1 with g1 | g1
            · go_wp2_with fail
              refine HTT.out.mono ?_
              rintro e w2 ⟨rfl, hb⟩
              have HB2 := Lib.hid (below_then HB.out hb)
              clear hb HB HTT
              go_wp2_with fail
              refine (HPS.out _).mono ?_
              rintro e wa ⟨⟨M, cm, rfl, ht⟩, hb⟩
              have HKA := Lib.hid ((Kp.row ⟨below_then HB2.out hb, by simp, by simp⟩ ht : Kp w [] [(M, us)] wa).push 34 (.int .i64 x) (.int .i64 y))
              clear ht hb HPS
              have f0 := HKA.out.cell (a := ⟨wa.heap.size, 0, none⟩) (v := .int .i64 x) (by simp)
              have f1 := HKA.out.cell (a := ⟨wa.heap.size, 1, none⟩) (v := .int .i64 y) (by simp)
              cases hpl : parseT l with
              | inl k' =>
                have hres := HRES.out
                rw [hpl] at hres
                obtain ⟨rfl, hy, rfl⟩ := hres
                have hk' := parse_inl hpl
                have q1 := fne_run (x := 19) (y := y) (u := 0) (v := 0) (q := false) (by simp)
                have g5 : (0 : Int) ≤ y := by omega
                have g6 : y ≤ (s.size : Int) := by have := HSZ.out; omega
                clear hpl hk' hy HRES
                go_wp2_with fail
                refine (HAW.out _ HKA.out.kept).mono ?_
                rintro e wb ⟨rfl, hb⟩
                have HBB := Lib.hid hb
                clear hb HKA f0 f1
                go_wp2_with fail
                go_ret
                exact ⟨rfl, HBB.out⟩
              | inr us' =>
                have hres := HRES.out
                rw [hpl] at hres
                obtain ⟨rfl, rfl, rfl⟩ := hres
                have q1 := fne_run (x := 0) (y := 0) (u := 0) (v := 0) (q := true) (by simp)
                obtain ⟨htx, hne, hall⟩ := text_parse hpl
                have hul := parse_len hpl
                have hu0 : 0 < us.length := List.length_pos_iff.2 hne
                have hl5 := HSZ.out
                have g7 : (0 : Int) < (us.length : Int) := by omega
                have HTG := Lib.hid (text_good (cap := cm) rfl (HKA.out.tags (A := M) (ts := us) (by simp)) (by omega) (right_len hall) (badT_all hall))
                have HTX := Lib.hid htx
                clear hpl htx hne hall hul HRES hl5
                go_wp2_with fail
                refine HTG.out.mono ?_
                rintro e wc ⟨⟨r2, rfl, hr2⟩, hb⟩
                have he2 : (r2.toList == s.toList) = true := by rw [str_eq hr2 HA.out.2.2.2, HTX.out]; simp
                have HKC := Lib.hid (HKA.out.next hb)
                clear hb HKA f0 f1 hr2 HTG HTX
                go_wp2_with fail
                refine (HAW.out _ HKC.out.kept).mono ?_
                rintro e wb ⟨rfl, hb⟩
                have HBB := Lib.hid hb
                clear hb HKC
                go_wp2_with fail
                go_ret
                exact ⟨rfl, HBB.out⟩
            · go_wp2_with fail
              refine HTT.out.mono ?_
              rintro e w2 ⟨rfl, hb⟩
              have HB2 := Lib.hid (below_then HB.out hb)
              clear hb HB HTT
              go_wp2_with fail
              refine (HPS.out _).mono ?_
              rintro e wa ⟨⟨M, cm, rfl, ht⟩, hb⟩
              have HKA := Lib.hid ((Kp.row ⟨below_then HB2.out hb, by simp, by simp⟩ ht : Kp w [] [(M, us)] wa).push 34 (.int .i64 x) (.int .i64 y))
              clear ht hb HPS
              have f0 := HKA.out.cell (a := ⟨wa.heap.size, 0, none⟩) (v := .int .i64 x) (by simp)
              have f1 := HKA.out.cell (a := ⟨wa.heap.size, 1, none⟩) (v := .int .i64 y) (by simp)
              cases hpl : parseT l with
              | inl k' =>
                have hres := HRES.out
                rw [hpl] at hres
                obtain ⟨rfl, hy, rfl⟩ := hres
                have hk' := parse_inl hpl
                have q1 := fne_run (x := 19) (y := y) (u := 0) (v := 0) (q := false) (by simp)
                have g5 : (0 : Int) ≤ y := by omega
                have g6 : y ≤ (s.size : Int) := by have := HSZ.out; omega
                clear hpl hk' hy HRES
                go_wp2_with fail
                refine (HAW.out _ HKA.out.kept).mono ?_
                rintro e wb ⟨rfl, hb⟩
                have HBB := Lib.hid hb
                clear hb HKA f0 f1
                go_wp2_with fail
                go_ret
                exact ⟨rfl, HBB.out⟩
              | inr us' =>
                have hres := HRES.out
                rw [hpl] at hres
                obtain ⟨rfl, rfl, rfl⟩ := hres
                have q1 := fne_run (x := 0) (y := 0) (u := 0) (v := 0) (q := true) (by simp)
                obtain ⟨htx, hne, hall⟩ := text_parse hpl
                have hul := parse_len hpl
                have hu0 : 0 < us.length := List.length_pos_iff.2 hne
                have hl5 := HSZ.out
                have g7 : (0 : Int) < (us.length : Int) := by omega
                have HTG := Lib.hid (text_good (cap := cm) rfl (HKA.out.tags (A := M) (ts := us) (by simp)) (by omega) (right_len hall) (badT_all hall))
                have HTX := Lib.hid htx
                clear hpl htx hne hall hul HRES hl5
                go_wp2_with fail
                refine HTG.out.mono ?_
                rintro e wc ⟨⟨r2, rfl, hr2⟩, hb⟩
                have he2 : (r2.toList == s.toList) = true := by rw [str_eq hr2 HA.out.2.2.2, HTX.out]; simp
                have HKC := Lib.hid (HKA.out.next hb)
                clear hb HKA f0 f1 hr2 HTG HTX
                go_wp2_with fail
                refine (HAW.out _ HKC.out.kept).mono ?_
                rintro e wb ⟨rfl, hb⟩
                have HBB := Lib.hid hb
                clear hb HKC
                go_wp2_with fail
                go_ret
                exact ⟨rfl, HBB.out⟩
end Go.Proofs.Ytapkdghghnmhhaa
