/-
  The walk of DecZeros. No statement of the seat is proved here.
-/
import Derived.Test.YtanobfiheepgbaaDoorDAwake
import Derived.Test.YtanobfiheepgbaaDoorDMath2
namespace Go.Proofs.YtanobfiheepgbaaDoor
open Go.RowKit

theorem sgn_is (b : Bool) : sgn b = if b then [45] else [] := rfl

set_option maxRecDepth 100000 in
set_option maxHeartbeats 16000000 in
theorem zeros_far (d : D) (x y : Int) (w : World) (ht : Tab w) (h : x < 0 ∨ 40 < x ∨ y < 0 ∨ 40 < y) : Calls Tryd.prog 7 #[dV d, .int .i64 x, .int .i64 y] w fun e w' => e = .returned (.bool true) ∧ Below w.heap.size w w' := by
  have kb : Below w.heap.size w (w.alloc (.cells #[.bool d.neg, .int .u64 d.c, .int .i64 d.e] 24)) := (Below.refl _ _).alloc (Nat.le_refl _) _
  have HK := Lib.hid kb
  have HT0 := Lib.hid (ht.keep kb)
  clear ht kb
  unfold dV
  have hh : x < 0 ∨ (¬ x < 0 ∧ 40 < x) ∨ (¬ x < 0 ∧ ¬ 40 < x ∧ y < 0) ∨ (¬ x < 0 ∧ ¬ 40 < x ∧ ¬ y < 0 ∧ 40 < y) := by omega
  clear h
  rcases hh with h1 | ⟨h1, h2⟩ | ⟨h1, h2, h3⟩ | ⟨h1, h2, h3, h4⟩
  all_goals
    go_enter Tryd.func7, Tryd.ntmps7
    go_wp2_with fail
    refine (awake_calls _ HT0.out).mono ?_
    rintro e w1 ⟨rfl, hb⟩
    have HK1 := Lib.hid (below_then HK.out hb)
    clear hb HK HT0
    go_wp2_with fail
    go_ret
    exact ⟨rfl, HK1.out⟩

set_option maxRecDepth 100000 in
set_option maxHeartbeats 16000000 in
theorem zeros_near (d : D) (hd : d.Fits) (a b : Nat) (ha : a ≤ 40) (hb : b ≤ 40) (w : World) (ht : Tab w) : Calls Tryd.prog 7 #[dV d, .int .i64 a, .int .i64 b] w fun e w' => e = .returned (.bool true) ∧ Below w.heap.size w w' := by
  have k0 := Box.new w 24 [.bool d.neg, .int .u64 d.c, .int .i64 d.e]
  have kb : Below w.heap.size w (w.alloc (.cells #[.bool d.neg, .int .u64 d.c, .int .i64 d.e] 24)) := (Below.refl _ _).alloc (Nat.le_refl _) _
  have HK := Lib.hid (And.intro kb k0)
  have HT0 := Lib.hid (ht.keep kb)
  have hc := text_calls d hd _ HT0.out
  clear ht k0 kb hd
  unfold dV at hc ⊢
  obtain ⟨q, hq⟩ : ∃ q, q = check d := ⟨_, rfl⟩
  rw [← hq] at hc
  have HC := Lib.hid hc
  have HQ := Lib.hid hq
  clear hc hq
  have ha0 : ¬ (a : Int) < 0 := by omega
  have ha1 : ¬ (40 : Int) < (a : Int) := by omega
  have hb0 : ¬ (b : Int) < 0 := by omega
  have hb1 : ¬ (40 : Int) < (b : Int) := by omega
  go_enter Tryd.func7, Tryd.ntmps7
  go_wp2_with fail
  refine HC.out.mono ?_
  rintro e w1 ⟨t, rfl, hstr, hb⟩
  have HK1 := Lib.hid (And.intro (below_then HK.out.1 hb) (HK.out.2.keep hb))
  have HT1 := Lib.hid (HT0.out.keep hb)
  clear hb HK HT0 HC
  by_cases h0 : q = 0
  · subst h0
    rw [if_pos rfl] at hstr
    have HO := Lib.hid (check_ok.1 HQ.out.symm)
    have HPZ := Lib.hid (fun i => parse_zeros HO.out i b)
    have hlen := text_length HO.out
    have hnear : -18 ≤ d.e ∧ d.e ≤ 18 := by rcases HO.out.1 with ⟨h0, h1⟩ | ⟨h0, h1, h2, h3, h4⟩ <;> omega
    have hend : d.e < 0 ∨ (¬ d.e < 0 ∧ ((d.c : Int) == 0) = true) ∨ (¬ d.e < 0 ∧ ((d.c : Int) == 0) = false ∧ 18 < d.e + (b : Int)) ∨ (¬ d.e < 0 ∧ ((d.c : Int) == 0) = false ∧ ¬ 18 < d.e + (b : Int)) := by
      by_cases hc0 : d.c = 0
      · have : ((d.c : Int) == 0) = true := by simp [hc0]
        simp only [this, true_and, and_true, Bool.true_eq_false, false_and, and_false, or_false]; omega
      · have : ((d.c : Int) == 0) = false := by simp; omega
        simp only [this, true_and, and_true, Bool.false_eq_true, false_and, and_false, false_or]; omega
    rw [text_sgn] at hstr
    have htl : 1 ≤ (sgn d.neg ++ sized d.c d.e).length := by
      rw [List.length_append]
      have : 1 ≤ (sized d.c d.e).length := by
        rcases Int.lt_or_le d.e 0 with h | h
        · obtain ⟨a, b, hs, _, hna, _⟩ := (sized_split d.c d.e).2 h
          rw [hs]; simp; omega
        · obtain ⟨_, hne, _⟩ := (sized_split d.c d.e).1 h
          exact List.length_pos_iff.2 hne
      omega
    have hts : ¬ (t.size : Int) < 1 := by rw [hstr.size]; omega
    have hsl : (sized d.c d.e).length ≤ 39 := by have := hlen; rw [text_sgn, List.length_append] at this; omega
    rcases hneg : d.neg with _ | _
    · rw [hneg] at hstr HPZ HK1 htl
      simp only [sgn_is, ite_true, ite_false, Bool.false_eq_true] at HPZ
      have HNG := Lib.hid hneg
      have a0 := HK1.out.2.cell 0
      have a1 := HK1.out.2.cell 1
      have a2 := HK1.out.2.cell 2
      simp only [List.getElem?_cons_zero, List.getElem?_cons_succ] at a0 a1 a2
      clear htl hlen hneg
      have HU := Lib.hid (And.intro (show Str t (sized d.c d.e) from hstr) hsl)
      clear hstr hsl
      go_wp2_with fail
      -- zeros ahead
      go_loopw [9, 10] (fun v9 v10 wr => ∃ (s9 : ByteArray) (i : Nat), v9 = .string s9 ∧ v10 = .int .i64 i ∧ w1 = wr ∧ i ≤ a ∧ (s9.size : Int) ≤ 100 ∧ Hid (Str s9 ([] ++ List.replicate i 48))) (fun _ v10 _ => a - (intOf v10).toNat)
      case atStart => exact ⟨⟨#[]⟩, 0, rfl, rfl, rfl, by omega, by decide, rfl⟩
      case round =>
        obtain ⟨s9, i, rfl, rfl, rfl, hi, hsz, hs9⟩ := hrel
        by_cases hlt : i < a
        · have hlt' : (i : Int) < (a : Int) := by omega
          have hz9 : s9.size = 0 + i := by rw [hs9.out.size]; simp; try omega
          have hsz9 : (s9.size : Int) ≤ 90 := by omega
          have HZ9 := Lib.hid hz9
          clear hz9
          go_wp2_with fail
          refine ⟨⟨_, i + 1, rfl, by go_num, by trivial, by omega, ?_, ?_⟩, by simp [intOf]; omega⟩
          · have h2 := (hs9.out.append (show Str ⟨#[48]⟩ [48] from rfl)).size
            simp only [List.length_append, List.length_replicate, List.length_cons, List.length_nil] at h2
            omega
          · have := hs9.out.append (show Str ⟨#[48]⟩ [48] from rfl)
            rw [List.replicate_succ', ← List.append_assoc]
            exact this
        · obtain rfl : i = a := by omega
          have HS9 := Lib.hid (hs9.out.append HU.out.1)
          have hzu : ((t).size : Int) ≤ 50 := by rw [HU.out.1.size]; have := HU.out.2; omega
          have hz9 : (s9.size : Int) ≤ 90 := by rw [hs9.out.size]; simp; omega
          clear hs9 hsz
          by_cases hdot : 0 ≤ d.e ∧ 0 < b
          · have hd1 : (0 : Int) ≤ d.e := hdot.1
            have hd2 : (0 : Int) < (b : Int) := by omega
            have HD := Lib.hid (HS9.out.append (show Str ⟨#[46]⟩ [46] from rfl))
            have HP := Lib.hid (HPZ.out i)
            rw [if_pos hdot] at HP
            clear HS9 hdot
            go_wp2_with fail
            obtain ⟨S9, hS9⟩ : ∃ S9, S9 = s9 ++ t ++ ⟨#[46]⟩ := ⟨_, rfl⟩
            rw [← hS9] at HD ⊢
            have hzS : (S9.size : Int) ≤ 200 := by rw [HD.out.size]; have := HU.out.2; simp; omega
            clear hS9 hzu hz9
            go_loopw [11, 12] (fun v11 v12 wr => ∃ (z : ByteArray) (j : Nat), v11 = .string z ∧ v12 = .int .i64 j ∧ w1 = wr ∧ j ≤ b ∧ (z.size : Int) ≤ 100 ∧ Hid (Str z (List.replicate j 48))) (fun _ v12 _ => b - (intOf v12).toNat)
            case atStart => exact ⟨⟨#[]⟩, 0, rfl, rfl, rfl, by omega, by decide, rfl⟩
            case round =>
              obtain ⟨z, j, rfl, rfl, rfl, hj, hsz, hzz⟩ := hrel
              by_cases hlt2 : j < b
              · first
                  | (exfalso; omega)
                  | (have hlt2' : (j : Int) < (b : Int) := by omega
                     have hszz : (z.size : Int) ≤ 90 := by rw [hzz.out.size]; simp; omega
                     go_wp2_with fail
                     refine ⟨⟨_, j + 1, rfl, by go_num, by trivial, by omega, ?_, ?_⟩, by simp [intOf]; omega⟩
                     · have h2 := (hzz.out.append (show Str ⟨#[48]⟩ [48] from rfl)).size
                       simp only [List.length_append, List.length_replicate, List.length_cons, List.length_nil] at h2
                       omega
                     · have := hzz.out.append (show Str ⟨#[48]⟩ [48] from rfl)
                       rw [List.replicate_succ']
                       exact this)
              · obtain rfl : b = j := by omega
                have HZZ := Lib.hid hzz.out
                have hst := HD.out.append HZZ.out
                have hle := HU.out.2
                have HPC := Lib.hid (parse_calls _ _ hst (by simp; omega) w1)
                unfold Parses at HPC
                have hpp := HP.out
                simp only [List.append_assoc] at hpp HPC
                rw [hpp] at HPC
                simp only [dV, fV] at HPC
                rw [HNG.out] at HPC
                clear hst hpp hzz
                go_wp2_with fail
                refine HPC.out.mono ?_
                rintro e w3 ⟨rfl, hb⟩
                have B3 := two_boxes w3 (.bool false) (.int .u64 d.c) (.int .i64 d.e) (.int .i64 0) (.int .i64 0)
                have hb3 := below_then hb B3.2.2
                have hx := HK1.out.2.keep hb3
                have x0 := hx.cell 0
                have x1 := hx.cell 1
                have x2 := hx.cell 2
                simp only [List.getElem?_cons_zero, List.getElem?_cons_succ] at x0 x1 x2
                have HK4 := Lib.hid (And.intro (below_then HK1.out.1 hb3) hx)
                have HT4 := Lib.hid (HT1.out.keep hb3)
                clear hb hb3 B3 HK1 HT1 HPC hx a0 a1 a2 hle
                rcases hend with he | ⟨he, hc⟩ | ⟨he, hc, h18⟩ | ⟨he, hc, h18⟩
                · first
                    | (exfalso; omega)
                    | (go_wp2_with fail
                       refine (awake_calls _ HT4.out).mono ?_
                       rintro e w8 ⟨rfl, hb⟩
                       have HK8 := Lib.hid (below_then HK4.out.1 hb)
                       clear hb HK4 HT4
                       go_wp2_with fail
                       go_ret
                       exact ⟨rfl, HK8.out⟩)
                · first
                    | (exfalso; omega)
                    | (go_wp2_with fail
                       refine (awake_calls _ HT4.out).mono ?_
                       rintro e w8 ⟨rfl, hb⟩
                       have HK8 := Lib.hid (below_then HK4.out.1 hb)
                       clear hb HK4 HT4
                       go_wp2_with fail
                       go_ret
                       exact ⟨rfl, HK8.out⟩)
                · first
                    | (exfalso; omega)
                    | (go_wp2_with fail
                       refine (awake_calls _ HT4.out).mono ?_
                       rintro e w8 ⟨rfl, hb⟩
                       have HK8 := Lib.hid (below_then HK4.out.1 hb)
                       clear hb HK4 HT4
                       go_wp2_with fail
                       go_ret
                       exact ⟨rfl, HK8.out⟩)
                · first
                    | (exfalso; omega)
                    | (have HTEN := Lib.hid (parse_tens HO.out (by omega) (by intro h; rw [h] at hc; simp at hc) b (by omega))
                       have hzu : ((t).size : Int) ≤ 50 := by rw [HU.out.1.size]; have := HU.out.2; omega
                       have hzv : (z.size : Int) ≤ 50 := by rw [HZZ.out.size]; simp; omega
                       go_wp2_with fail
                       have hst := ((show Str ⟨#[]⟩ [] from rfl).append HU.out.1).append HZZ.out
                       rw [List.append_assoc] at hst
                       have HPC := Lib.hid (parse_calls _ _ hst (by have := HU.out.2; simp; omega) ((w3.alloc (.cells #[.bool false, .int .u64 d.c, .int .i64 d.e] 24)).alloc (.cells #[.int .i64 0, .int .i64 0] 32)))
                       unfold Parses at HPC
                       have hten := HTEN.out
                       rw [HNG.out] at hten
                       simp only [sgn_is, ite_true, ite_false, Bool.false_eq_true] at hten
                       rw [hten] at HPC
                       simp only [dV, fV] at HPC
                       clear hst hten
                       refine (HPC.out).mono ?_
                       rintro e w6 ⟨rfl, hb⟩
                       have B6 := two_boxes w6 (.bool false) (.int .u64 d.c) (.int .i64 (d.e + (b : Int))) (.int .i64 0) (.int .i64 0)
                       have hb6 := below_then hb B6.2.2
                       have hx := HK4.out.2.keep hb6
                       have y0 := hx.cell 0
                       have y1 := hx.cell 1
                       have y2 := hx.cell 2
                       simp only [List.getElem?_cons_zero, List.getElem?_cons_succ] at y0 y1 y2
                       have HK6 := Lib.hid (And.intro (below_then HK4.out.1 hb6) True.intro)
                       have HT6 := Lib.hid (HT4.out.keep hb6)
                       clear hb hb6 B6 HK4 HT4 HPC hx
                       go_wp2_with fail
                       refine (awake_calls _ HT6.out).mono ?_
                       rintro e w8 ⟨rfl, hb⟩
                       have HK8 := Lib.hid (below_then HK6.out.1 hb)
                       clear hb HK6 HT6
                       go_wp2_with fail
                       go_ret
                       exact ⟨rfl, HK8.out⟩)
          · have HD := Lib.hid HS9.out
            have HP := Lib.hid (HPZ.out i)
            rw [if_neg hdot, List.append_nil] at HP
            have hdd : d.e < 0 ∨ (¬ d.e < 0 ∧ ¬ (0 : Int) < (b : Int)) := by omega
            clear HS9 hdot
            rcases hdd with hd1 | ⟨hd1, hd2⟩
            all_goals
              go_wp2_with fail
              obtain ⟨S9, hS9⟩ : ∃ S9, S9 = s9 ++ t := ⟨_, rfl⟩
              rw [← hS9] at HD ⊢
              have hzS : (S9.size : Int) ≤ 200 := by rw [HD.out.size]; have := HU.out.2; simp; omega
              clear hS9 hzu hz9
              go_loopw [11, 12] (fun v11 v12 wr => ∃ (z : ByteArray) (j : Nat), v11 = .string z ∧ v12 = .int .i64 j ∧ w1 = wr ∧ j ≤ b ∧ (z.size : Int) ≤ 100 ∧ Hid (Str z (List.replicate j 48))) (fun _ v12 _ => b - (intOf v12).toNat)
              case atStart => exact ⟨⟨#[]⟩, 0, rfl, rfl, rfl, by omega, by decide, rfl⟩
              case round =>
                obtain ⟨z, j, rfl, rfl, rfl, hj, hsz, hzz⟩ := hrel
                by_cases hlt2 : j < b
                · first
                    | (exfalso; omega)
                    | (have hlt2' : (j : Int) < (b : Int) := by omega
                       have hszz : (z.size : Int) ≤ 90 := by rw [hzz.out.size]; simp; omega
                       go_wp2_with fail
                       refine ⟨⟨_, j + 1, rfl, by go_num, by trivial, by omega, ?_, ?_⟩, by simp [intOf]; omega⟩
                       · have h2 := (hzz.out.append (show Str ⟨#[48]⟩ [48] from rfl)).size
                         simp only [List.length_append, List.length_replicate, List.length_cons, List.length_nil] at h2
                         omega
                       · have := hzz.out.append (show Str ⟨#[48]⟩ [48] from rfl)
                         rw [List.replicate_succ']
                         exact this)
                · obtain rfl : b = j := by omega
                  have HZZ := Lib.hid hzz.out
                  have hst := HD.out.append HZZ.out
                  have hle := HU.out.2
                  have HPC := Lib.hid (parse_calls _ _ hst (by simp; omega) w1)
                  unfold Parses at HPC
                  have hpp := HP.out
                  simp only [List.append_assoc] at hpp HPC
                  rw [hpp] at HPC
                  simp only [dV, fV] at HPC
                  rw [HNG.out] at HPC
                  clear hst hpp hzz
                  go_wp2_with fail
                  refine HPC.out.mono ?_
                  rintro e w3 ⟨rfl, hb⟩
                  have B3 := two_boxes w3 (.bool false) (.int .u64 d.c) (.int .i64 d.e) (.int .i64 0) (.int .i64 0)
                  have hb3 := below_then hb B3.2.2
                  have hx := HK1.out.2.keep hb3
                  have x0 := hx.cell 0
                  have x1 := hx.cell 1
                  have x2 := hx.cell 2
                  simp only [List.getElem?_cons_zero, List.getElem?_cons_succ] at x0 x1 x2
                  have HK4 := Lib.hid (And.intro (below_then HK1.out.1 hb3) hx)
                  have HT4 := Lib.hid (HT1.out.keep hb3)
                  clear hb hb3 B3 HK1 HT1 HPC hx a0 a1 a2 hle
                  rcases hend with he | ⟨he, hc⟩ | ⟨he, hc, h18⟩ | ⟨he, hc, h18⟩
                  · first
                      | (exfalso; omega)
                      | (go_wp2_with fail
                         refine (awake_calls _ HT4.out).mono ?_
                         rintro e w8 ⟨rfl, hb⟩
                         have HK8 := Lib.hid (below_then HK4.out.1 hb)
                         clear hb HK4 HT4
                         go_wp2_with fail
                         go_ret
                         exact ⟨rfl, HK8.out⟩)
                  · first
                      | (exfalso; omega)
                      | (go_wp2_with fail
                         refine (awake_calls _ HT4.out).mono ?_
                         rintro e w8 ⟨rfl, hb⟩
                         have HK8 := Lib.hid (below_then HK4.out.1 hb)
                         clear hb HK4 HT4
                         go_wp2_with fail
                         go_ret
                         exact ⟨rfl, HK8.out⟩)
                  · first
                      | (exfalso; omega)
                      | (go_wp2_with fail
                         refine (awake_calls _ HT4.out).mono ?_
                         rintro e w8 ⟨rfl, hb⟩
                         have HK8 := Lib.hid (below_then HK4.out.1 hb)
                         clear hb HK4 HT4
                         go_wp2_with fail
                         go_ret
                         exact ⟨rfl, HK8.out⟩)
                  · first
                      | (exfalso; omega)
                      | (have HTEN := Lib.hid (parse_tens HO.out (by omega) (by intro h; rw [h] at hc; simp at hc) b (by omega))
                         have hzu : ((t).size : Int) ≤ 50 := by rw [HU.out.1.size]; have := HU.out.2; omega
                         have hzv : (z.size : Int) ≤ 50 := by rw [HZZ.out.size]; simp; omega
                         go_wp2_with fail
                         have hst := ((show Str ⟨#[]⟩ [] from rfl).append HU.out.1).append HZZ.out
                         rw [List.append_assoc] at hst
                         have HPC := Lib.hid (parse_calls _ _ hst (by have := HU.out.2; simp; omega) ((w3.alloc (.cells #[.bool false, .int .u64 d.c, .int .i64 d.e] 24)).alloc (.cells #[.int .i64 0, .int .i64 0] 32)))
                         unfold Parses at HPC
                         have hten := HTEN.out
                         rw [HNG.out] at hten
                         simp only [sgn_is, ite_true, ite_false, Bool.false_eq_true] at hten
                         rw [hten] at HPC
                         simp only [dV, fV] at HPC
                         clear hst hten
                         refine (HPC.out).mono ?_
                         rintro e w6 ⟨rfl, hb⟩
                         have B6 := two_boxes w6 (.bool false) (.int .u64 d.c) (.int .i64 (d.e + (b : Int))) (.int .i64 0) (.int .i64 0)
                         have hb6 := below_then hb B6.2.2
                         have hx := HK4.out.2.keep hb6
                         have y0 := hx.cell 0
                         have y1 := hx.cell 1
                         have y2 := hx.cell 2
                         simp only [List.getElem?_cons_zero, List.getElem?_cons_succ] at y0 y1 y2
                         have HK6 := Lib.hid (And.intro (below_then HK4.out.1 hb6) True.intro)
                         have HT6 := Lib.hid (HT4.out.keep hb6)
                         clear hb hb6 B6 HK4 HT4 HPC hx
                         go_wp2_with fail
                         refine (awake_calls _ HT6.out).mono ?_
                         rintro e w8 ⟨rfl, hb⟩
                         have HK8 := Lib.hid (below_then HK6.out.1 hb)
                         clear hb HK6 HT6
                         go_wp2_with fail
                         go_ret
                         exact ⟨rfl, HK8.out⟩)
    · rw [hneg] at hstr HPZ HK1 htl
      simp only [sgn_is, ite_true, ite_false, Bool.false_eq_true] at HPZ
      have HNG := Lib.hid hneg
      have a0 := HK1.out.2.cell 0
      have a1 := HK1.out.2.cell 1
      have a2 := HK1.out.2.cell 2
      simp only [List.getElem?_cons_zero, List.getElem?_cons_succ] at a0 a1 a2
      obtain ⟨u, hu, hsli⟩ := hstr.from_ (i := 1) 1 rfl htl
      have HU := Lib.hid (And.intro (show Str u (sized d.c d.e) from hu) hsl)
      clear htl hlen hneg hstr hsl hu
      go_wp2_with fail
      clear hsli
      -- zeros ahead
      go_loopw [9, 10] (fun v9 v10 wr => ∃ (s9 : ByteArray) (i : Nat), v9 = .string s9 ∧ v10 = .int .i64 i ∧ w1 = wr ∧ i ≤ a ∧ (s9.size : Int) ≤ 100 ∧ Hid (Str s9 ([45] ++ List.replicate i 48))) (fun _ v10 _ => a - (intOf v10).toNat)
      case atStart => exact ⟨⟨#[45]⟩, 0, rfl, rfl, rfl, by omega, by decide, rfl⟩
      case round =>
        obtain ⟨s9, i, rfl, rfl, rfl, hi, hsz, hs9⟩ := hrel
        by_cases hlt : i < a
        · have hlt' : (i : Int) < (a : Int) := by omega
          have hz9 : s9.size = 1 + i := by rw [hs9.out.size]; simp; try omega
          have hsz9 : (s9.size : Int) ≤ 90 := by omega
          have HZ9 := Lib.hid hz9
          clear hz9
          go_wp2_with fail
          refine ⟨⟨_, i + 1, rfl, by go_num, by trivial, by omega, ?_, ?_⟩, by simp [intOf]; omega⟩
          · have h2 := (hs9.out.append (show Str ⟨#[48]⟩ [48] from rfl)).size
            simp only [List.length_append, List.length_replicate, List.length_cons, List.length_nil] at h2
            omega
          · have := hs9.out.append (show Str ⟨#[48]⟩ [48] from rfl)
            rw [List.replicate_succ', ← List.append_assoc]
            exact this
        · obtain rfl : i = a := by omega
          have HS9 := Lib.hid (hs9.out.append HU.out.1)
          have hzu : ((u).size : Int) ≤ 50 := by rw [HU.out.1.size]; have := HU.out.2; omega
          have hz9 : (s9.size : Int) ≤ 90 := by rw [hs9.out.size]; simp; omega
          clear hs9 hsz
          by_cases hdot : 0 ≤ d.e ∧ 0 < b
          · have hd1 : (0 : Int) ≤ d.e := hdot.1
            have hd2 : (0 : Int) < (b : Int) := by omega
            have HD := Lib.hid (HS9.out.append (show Str ⟨#[46]⟩ [46] from rfl))
            have HP := Lib.hid (HPZ.out i)
            rw [if_pos hdot] at HP
            clear HS9 hdot
            go_wp2_with fail
            obtain ⟨S9, hS9⟩ : ∃ S9, S9 = s9 ++ u ++ ⟨#[46]⟩ := ⟨_, rfl⟩
            rw [← hS9] at HD ⊢
            have hzS : (S9.size : Int) ≤ 200 := by rw [HD.out.size]; have := HU.out.2; simp; omega
            clear hS9 hzu hz9
            go_loopw [11, 12] (fun v11 v12 wr => ∃ (z : ByteArray) (j : Nat), v11 = .string z ∧ v12 = .int .i64 j ∧ w1 = wr ∧ j ≤ b ∧ (z.size : Int) ≤ 100 ∧ Hid (Str z (List.replicate j 48))) (fun _ v12 _ => b - (intOf v12).toNat)
            case atStart => exact ⟨⟨#[]⟩, 0, rfl, rfl, rfl, by omega, by decide, rfl⟩
            case round =>
              obtain ⟨z, j, rfl, rfl, rfl, hj, hsz, hzz⟩ := hrel
              by_cases hlt2 : j < b
              · first
                  | (exfalso; omega)
                  | (have hlt2' : (j : Int) < (b : Int) := by omega
                     have hszz : (z.size : Int) ≤ 90 := by rw [hzz.out.size]; simp; omega
                     go_wp2_with fail
                     refine ⟨⟨_, j + 1, rfl, by go_num, by trivial, by omega, ?_, ?_⟩, by simp [intOf]; omega⟩
                     · have h2 := (hzz.out.append (show Str ⟨#[48]⟩ [48] from rfl)).size
                       simp only [List.length_append, List.length_replicate, List.length_cons, List.length_nil] at h2
                       omega
                     · have := hzz.out.append (show Str ⟨#[48]⟩ [48] from rfl)
                       rw [List.replicate_succ']
                       exact this)
              · obtain rfl : b = j := by omega
                have HZZ := Lib.hid hzz.out
                have hst := HD.out.append HZZ.out
                have hle := HU.out.2
                have HPC := Lib.hid (parse_calls _ _ hst (by simp; omega) w1)
                unfold Parses at HPC
                have hpp := HP.out
                simp only [List.append_assoc] at hpp HPC
                rw [hpp] at HPC
                simp only [dV, fV] at HPC
                rw [HNG.out] at HPC
                clear hst hpp hzz
                go_wp2_with fail
                refine HPC.out.mono ?_
                rintro e w3 ⟨rfl, hb⟩
                have B3 := two_boxes w3 (.bool true) (.int .u64 d.c) (.int .i64 d.e) (.int .i64 0) (.int .i64 0)
                have hb3 := below_then hb B3.2.2
                have hx := HK1.out.2.keep hb3
                have x0 := hx.cell 0
                have x1 := hx.cell 1
                have x2 := hx.cell 2
                simp only [List.getElem?_cons_zero, List.getElem?_cons_succ] at x0 x1 x2
                have HK4 := Lib.hid (And.intro (below_then HK1.out.1 hb3) hx)
                have HT4 := Lib.hid (HT1.out.keep hb3)
                clear hb hb3 B3 HK1 HT1 HPC hx a0 a1 a2 hle
                rcases hend with he | ⟨he, hc⟩ | ⟨he, hc, h18⟩ | ⟨he, hc, h18⟩
                · first
                    | (exfalso; omega)
                    | (go_wp2_with fail
                       refine (awake_calls _ HT4.out).mono ?_
                       rintro e w8 ⟨rfl, hb⟩
                       have HK8 := Lib.hid (below_then HK4.out.1 hb)
                       clear hb HK4 HT4
                       go_wp2_with fail
                       go_ret
                       exact ⟨rfl, HK8.out⟩)
                · first
                    | (exfalso; omega)
                    | (go_wp2_with fail
                       refine (awake_calls _ HT4.out).mono ?_
                       rintro e w8 ⟨rfl, hb⟩
                       have HK8 := Lib.hid (below_then HK4.out.1 hb)
                       clear hb HK4 HT4
                       go_wp2_with fail
                       go_ret
                       exact ⟨rfl, HK8.out⟩)
                · first
                    | (exfalso; omega)
                    | (go_wp2_with fail
                       refine (awake_calls _ HT4.out).mono ?_
                       rintro e w8 ⟨rfl, hb⟩
                       have HK8 := Lib.hid (below_then HK4.out.1 hb)
                       clear hb HK4 HT4
                       go_wp2_with fail
                       go_ret
                       exact ⟨rfl, HK8.out⟩)
                · first
                    | (exfalso; omega)
                    | (have HTEN := Lib.hid (parse_tens HO.out (by omega) (by intro h; rw [h] at hc; simp at hc) b (by omega))
                       have hzu : ((u).size : Int) ≤ 50 := by rw [HU.out.1.size]; have := HU.out.2; omega
                       have hzv : (z.size : Int) ≤ 50 := by rw [HZZ.out.size]; simp; omega
                       go_wp2_with fail
                       have hst := ((show Str ⟨#[45]⟩ [45] from rfl).append HU.out.1).append HZZ.out
                       rw [List.append_assoc] at hst
                       have HPC := Lib.hid (parse_calls _ _ hst (by have := HU.out.2; simp; omega) ((w3.alloc (.cells #[.bool true, .int .u64 d.c, .int .i64 d.e] 24)).alloc (.cells #[.int .i64 0, .int .i64 0] 32)))
                       unfold Parses at HPC
                       have hten := HTEN.out
                       rw [HNG.out] at hten
                       simp only [sgn_is, ite_true, ite_false, Bool.false_eq_true] at hten
                       rw [hten] at HPC
                       simp only [dV, fV] at HPC
                       clear hst hten
                       refine (HPC.out).mono ?_
                       rintro e w6 ⟨rfl, hb⟩
                       have B6 := two_boxes w6 (.bool true) (.int .u64 d.c) (.int .i64 (d.e + (b : Int))) (.int .i64 0) (.int .i64 0)
                       have hb6 := below_then hb B6.2.2
                       have hx := HK4.out.2.keep hb6
                       have y0 := hx.cell 0
                       have y1 := hx.cell 1
                       have y2 := hx.cell 2
                       simp only [List.getElem?_cons_zero, List.getElem?_cons_succ] at y0 y1 y2
                       have HK6 := Lib.hid (And.intro (below_then HK4.out.1 hb6) True.intro)
                       have HT6 := Lib.hid (HT4.out.keep hb6)
                       clear hb hb6 B6 HK4 HT4 HPC hx
                       go_wp2_with fail
                       refine (awake_calls _ HT6.out).mono ?_
                       rintro e w8 ⟨rfl, hb⟩
                       have HK8 := Lib.hid (below_then HK6.out.1 hb)
                       clear hb HK6 HT6
                       go_wp2_with fail
                       go_ret
                       exact ⟨rfl, HK8.out⟩)
          · have HD := Lib.hid HS9.out
            have HP := Lib.hid (HPZ.out i)
            rw [if_neg hdot, List.append_nil] at HP
            have hdd : d.e < 0 ∨ (¬ d.e < 0 ∧ ¬ (0 : Int) < (b : Int)) := by omega
            clear HS9 hdot
            rcases hdd with hd1 | ⟨hd1, hd2⟩
            all_goals
              go_wp2_with fail
              obtain ⟨S9, hS9⟩ : ∃ S9, S9 = s9 ++ u := ⟨_, rfl⟩
              rw [← hS9] at HD ⊢
              have hzS : (S9.size : Int) ≤ 200 := by rw [HD.out.size]; have := HU.out.2; simp; omega
              clear hS9 hzu hz9
              go_loopw [11, 12] (fun v11 v12 wr => ∃ (z : ByteArray) (j : Nat), v11 = .string z ∧ v12 = .int .i64 j ∧ w1 = wr ∧ j ≤ b ∧ (z.size : Int) ≤ 100 ∧ Hid (Str z (List.replicate j 48))) (fun _ v12 _ => b - (intOf v12).toNat)
              case atStart => exact ⟨⟨#[]⟩, 0, rfl, rfl, rfl, by omega, by decide, rfl⟩
              case round =>
                obtain ⟨z, j, rfl, rfl, rfl, hj, hsz, hzz⟩ := hrel
                by_cases hlt2 : j < b
                · first
                    | (exfalso; omega)
                    | (have hlt2' : (j : Int) < (b : Int) := by omega
                       have hszz : (z.size : Int) ≤ 90 := by rw [hzz.out.size]; simp; omega
                       go_wp2_with fail
                       refine ⟨⟨_, j + 1, rfl, by go_num, by trivial, by omega, ?_, ?_⟩, by simp [intOf]; omega⟩
                       · have h2 := (hzz.out.append (show Str ⟨#[48]⟩ [48] from rfl)).size
                         simp only [List.length_append, List.length_replicate, List.length_cons, List.length_nil] at h2
                         omega
                       · have := hzz.out.append (show Str ⟨#[48]⟩ [48] from rfl)
                         rw [List.replicate_succ']
                         exact this)
                · obtain rfl : b = j := by omega
                  have HZZ := Lib.hid hzz.out
                  have hst := HD.out.append HZZ.out
                  have hle := HU.out.2
                  have HPC := Lib.hid (parse_calls _ _ hst (by simp; omega) w1)
                  unfold Parses at HPC
                  have hpp := HP.out
                  simp only [List.append_assoc] at hpp HPC
                  rw [hpp] at HPC
                  simp only [dV, fV] at HPC
                  rw [HNG.out] at HPC
                  clear hst hpp hzz
                  go_wp2_with fail
                  refine HPC.out.mono ?_
                  rintro e w3 ⟨rfl, hb⟩
                  have B3 := two_boxes w3 (.bool true) (.int .u64 d.c) (.int .i64 d.e) (.int .i64 0) (.int .i64 0)
                  have hb3 := below_then hb B3.2.2
                  have hx := HK1.out.2.keep hb3
                  have x0 := hx.cell 0
                  have x1 := hx.cell 1
                  have x2 := hx.cell 2
                  simp only [List.getElem?_cons_zero, List.getElem?_cons_succ] at x0 x1 x2
                  have HK4 := Lib.hid (And.intro (below_then HK1.out.1 hb3) hx)
                  have HT4 := Lib.hid (HT1.out.keep hb3)
                  clear hb hb3 B3 HK1 HT1 HPC hx a0 a1 a2 hle
                  rcases hend with he | ⟨he, hc⟩ | ⟨he, hc, h18⟩ | ⟨he, hc, h18⟩
                  · first
                      | (exfalso; omega)
                      | (go_wp2_with fail
                         refine (awake_calls _ HT4.out).mono ?_
                         rintro e w8 ⟨rfl, hb⟩
                         have HK8 := Lib.hid (below_then HK4.out.1 hb)
                         clear hb HK4 HT4
                         go_wp2_with fail
                         go_ret
                         exact ⟨rfl, HK8.out⟩)
                  · first
                      | (exfalso; omega)
                      | (go_wp2_with fail
                         refine (awake_calls _ HT4.out).mono ?_
                         rintro e w8 ⟨rfl, hb⟩
                         have HK8 := Lib.hid (below_then HK4.out.1 hb)
                         clear hb HK4 HT4
                         go_wp2_with fail
                         go_ret
                         exact ⟨rfl, HK8.out⟩)
                  · first
                      | (exfalso; omega)
                      | (go_wp2_with fail
                         refine (awake_calls _ HT4.out).mono ?_
                         rintro e w8 ⟨rfl, hb⟩
                         have HK8 := Lib.hid (below_then HK4.out.1 hb)
                         clear hb HK4 HT4
                         go_wp2_with fail
                         go_ret
                         exact ⟨rfl, HK8.out⟩)
                  · first
                      | (exfalso; omega)
                      | (have HTEN := Lib.hid (parse_tens HO.out (by omega) (by intro h; rw [h] at hc; simp at hc) b (by omega))
                         have hzu : ((u).size : Int) ≤ 50 := by rw [HU.out.1.size]; have := HU.out.2; omega
                         have hzv : (z.size : Int) ≤ 50 := by rw [HZZ.out.size]; simp; omega
                         go_wp2_with fail
                         have hst := ((show Str ⟨#[45]⟩ [45] from rfl).append HU.out.1).append HZZ.out
                         rw [List.append_assoc] at hst
                         have HPC := Lib.hid (parse_calls _ _ hst (by have := HU.out.2; simp; omega) ((w3.alloc (.cells #[.bool true, .int .u64 d.c, .int .i64 d.e] 24)).alloc (.cells #[.int .i64 0, .int .i64 0] 32)))
                         unfold Parses at HPC
                         have hten := HTEN.out
                         rw [HNG.out] at hten
                         simp only [sgn_is, ite_true, ite_false, Bool.false_eq_true] at hten
                         rw [hten] at HPC
                         simp only [dV, fV] at HPC
                         clear hst hten
                         refine (HPC.out).mono ?_
                         rintro e w6 ⟨rfl, hb⟩
                         have B6 := two_boxes w6 (.bool true) (.int .u64 d.c) (.int .i64 (d.e + (b : Int))) (.int .i64 0) (.int .i64 0)
                         have hb6 := below_then hb B6.2.2
                         have hx := HK4.out.2.keep hb6
                         have y0 := hx.cell 0
                         have y1 := hx.cell 1
                         have y2 := hx.cell 2
                         simp only [List.getElem?_cons_zero, List.getElem?_cons_succ] at y0 y1 y2
                         have HK6 := Lib.hid (And.intro (below_then HK4.out.1 hb6) True.intro)
                         have HT6 := Lib.hid (HT4.out.keep hb6)
                         clear hb hb6 B6 HK4 HT4 HPC hx
                         go_wp2_with fail
                         refine (awake_calls _ HT6.out).mono ?_
                         rintro e w8 ⟨rfl, hb⟩
                         have HK8 := Lib.hid (below_then HK6.out.1 hb)
                         clear hb HK6 HT6
                         go_wp2_with fail
                         go_ret
                         exact ⟨rfl, HK8.out⟩)
  · have g1 : (q != 0) = true := by simp [h0]
    rw [if_neg h0] at hstr
    have htl := hstr.toList
    clear hstr
    go_wp2_with fail
    refine (awake_calls _ HT1.out).mono ?_
    rintro e w8 ⟨rfl, hb⟩
    have HK8 := Lib.hid (below_then HK1.out.1 hb)
    clear hb HK1 HT1
    go_wp2_with fail
    go_ret
    exact ⟨rfl, HK8.out⟩

theorem zeros_walk (d : D) (hd : d.Fits) (x y : Int) (w : World) (ht : Tab w) : Calls Tryd.prog 7 #[dV d, .int .i64 x, .int .i64 y] w fun e w' => e = .returned (.bool true) ∧ Below w.heap.size w w' := by
  by_cases h : x < 0 ∨ 40 < x ∨ y < 0 ∨ 40 < y
  · exact zeros_far d x y w ht h
  · have := zeros_near d hd x.toNat y.toNat (by omega) (by omega) w ht
    rw [show ((x.toNat : Nat) : Int) = x by omega, show ((y.toNat : Nat) : Int) = y by omega] at this
    exact this
end Go.Proofs.YtanobfiheepgbaaDoor
