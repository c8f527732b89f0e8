/-
  The walk of DecBack. No statement of the seat is proved here.
-/
import Derived.Test.YtanobfiheepgbaaDoorDAwake
import Derived.Test.YtanobfiheepgbaaDoorDMath2
namespace Go.Proofs.YtanobfiheepgbaaDoor
open Go.RowKit

set_option maxRecDepth 100000 in
set_option maxHeartbeats 16000000 in
theorem back_walk (d : D) (hd : d.Fits) (s : ByteArray) (w : World) (ht : Tab w) : Calls Tryd.prog 6 #[dV d, .string s] w fun e w' => e = .returned (.bool true) ∧ Below w.heap.size w w' := by
  obtain ⟨l, hs⟩ : ∃ l, Str s l := ⟨_, rfl⟩
  have HS := Lib.hid hs
  have HT := Lib.hid ht
  have HF := Lib.hid hd
  have k0 := Box.new w 24 [.bool d.neg, .int .u64 d.c, .int .i64 d.e]
  have kb : Below w.heap.size w (w.alloc (.cells #[.bool d.neg, .int .u64 d.c, .int .i64 d.e] 24)) := (Below.refl _ _).alloc (Nat.le_refl _) _
  have HK := Lib.hid (And.intro kb k0)
  have HT0 := Lib.hid (ht.keep kb)
  clear hs ht hd k0 kb
  unfold dV
  by_cases hlen : (200 : Int) < (s.size : Int)
  · go_enter Tryd.func6, Tryd.ntmps6
    go_wp2_with fail
    refine (awake_calls _ HT0.out).mono ?_
    rintro e w1 ⟨rfl, hb⟩
    have HK1 := Lib.hid (below_then HK.out.1 hb)
    clear hb HK HT0
    go_wp2_with fail
    go_ret
    exact ⟨rfl, HK1.out⟩
  · have HL := Lib.hid (show l.length ≤ 200 by have := HS.out.size; omega)
    have hc := text_calls d HF.out _ HT0.out
    unfold dV at hc
    obtain ⟨q, hq⟩ : ∃ q, q = check d := ⟨_, rfl⟩
    rw [← hq] at hc
    have HC := Lib.hid hc
    have HQ := Lib.hid hq
    clear hc hq
    go_enter Tryd.func6, Tryd.ntmps6
    go_wp2_with fail
    refine HC.out.mono ?_
    rintro e w1 ⟨t, rfl, hstr, hb⟩
    have HK1 := Lib.hid (And.intro (below_then HK.out.1 hb) (HK.out.2.keep hb))
    have HT1 := Lib.hid (HT0.out.keep hb)
    clear hb HK HT0 HC
    have a0 := HK1.out.2.cell 0
    have a1 := HK1.out.2.cell 1
    have a2 := HK1.out.2.cell 2
    simp only [List.getElem?_cons_zero, List.getElem?_cons_succ] at a0 a1 a2
    by_cases h0 : q = 0
    · subst h0
      rw [if_pos rfl] at hstr
      have HO := Lib.hid (check_ok.1 HQ.out.symm)
      have HPC := Lib.hid (parse_calls t (text d) hstr (by have := text_length HO.out; omega) w1)
      unfold Parses at HPC
      rw [parse_text HO.out] at HPC
      simp only [dV, fV] at HPC
      have hlt : ¬ (39 : Int) < (t.size : Int) := by rw [hstr.size]; have := text_length HO.out; omega
      clear hstr a0 a1 a2
      go_wp2_with fail
      refine HPC.out.mono ?_
      rintro e w2 ⟨rfl, hb⟩
      have B2 := two_boxes w2 (.bool d.neg) (.int .u64 d.c) (.int .i64 d.e) (.int .i64 0) (.int .i64 0)
      have hb2 := below_then hb B2.2.2
      have hx := HK1.out.2.keep hb2
      have y0 := hx.cell 0
      have y1 := hx.cell 1
      have y2 := hx.cell 2
      simp only [List.getElem?_cons_zero, List.getElem?_cons_succ] at y0 y1 y2
      have hc := check_calls d HF.out ((w2.alloc (.cells #[.bool d.neg, .int .u64 d.c, .int .i64 d.e] 24)).alloc (.cells #[.int .i64 0, .int .i64 0] 32))
      rw [← HQ.out] at hc
      unfold dV at hc
      have HC := Lib.hid hc
      have HK2 := Lib.hid (below_then HK1.out.1 hb2)
      have HT2 := Lib.hid (HT1.out.keep hb2)
      clear hb hb2 B2 HK1 HT1 HPC hx hc
      go_wp2_with fail
      refine HC.out.mono ?_
      rintro e w3 ⟨rfl, hb⟩
      have HKX := Lib.hid (And.intro (below_then HK2.out hb) True.intro)
      have HTX := Lib.hid (HT2.out.keep hb)
      clear hb HK2 HT2 HC y0 y1 y2
      -- the second half, out of world w3
      have hpc := parse_cases l
      obtain ⟨⟨n, f1, f2⟩, hpl⟩ : ∃ t, t = parse l := ⟨_, rfl⟩
      rw [← hpl] at hpc
      have HPC := Lib.hid (parse_calls s l HS.out (by have := HL.out; omega) w3)
      unfold Parses at HPC
      rw [← hpl] at HPC
      have HPL := Lib.hid hpl
      clear hpl
      simp only [dV, fV] at HPC
      go_wp2_with fail
      refine HPC.out.mono ?_
      rintro e w4 ⟨rfl, hb⟩
      have B4 := two_boxes w4 (.bool n.neg) (.int .u64 n.c) (.int .i64 n.e) (.int .i64 f1) (.int .i64 f2)
      have hb4 := below_then hb B4.2.2
      have HK4 := Lib.hid (And.intro (below_then HKX.out.1 hb4) (And.intro B4.1 B4.2.1))
      have HT4 := Lib.hid (HTX.out.keep hb4)
      clear hb hb4 B4 HKX HTX HPC
      rcases hpc with ⟨hone, hf⟩ | ⟨h1, h2, h3, h4⟩
      · have hf1 : f1 = 0 := congrArg Prod.fst hf
        have hf2 : f2 = 0 := congrArg Prod.snd hf
        subst hf1 hf2
        have HO := Lib.hid (show n.One from hone)
        have hck := check_ok.2 HO.out
        have hc := text_calls n HO.out.fits _ HT4.out
        rw [hck, if_pos rfl] at hc
        unfold dV at hc
        have HC := Lib.hid hc
        have HCK := Lib.hid hck
        clear hone hf hc hck
        go_wp2_with fail
        refine HC.out.mono ?_
        rintro e w5 ⟨u, rfl, hu, hb⟩
        have HPC := Lib.hid (parse_calls u (text n) hu (by have := text_length HO.out; omega) w5)
        unfold Parses at HPC
        rw [parse_text HO.out] at HPC
        simp only [dV, fV] at HPC
        have HK5 := Lib.hid (And.intro (below_then HK4.out.1 hb) (HK4.out.2.1.keep hb))
        have HT5 := Lib.hid (HT4.out.keep hb)
        clear hb HK4 HT4 HC hu
        go_wp2_with fail
        refine HPC.out.mono ?_
        rintro e w6 ⟨rfl, hb⟩
        have B6 := two_boxes w6 (.bool n.neg) (.int .u64 n.c) (.int .i64 n.e) (.int .i64 0) (.int .i64 0)
        have hb6 := below_then hb B6.2.2
        have hx := HK5.out.2.keep hb6
        have y0 := hx.cell 0
        have y1 := hx.cell 1
        have y2 := hx.cell 2
        simp only [List.getElem?_cons_zero, List.getElem?_cons_succ] at y0 y1 y2
        have hc := check_calls n HO.out.fits ((w6.alloc (.cells #[.bool n.neg, .int .u64 n.c, .int .i64 n.e] 24)).alloc (.cells #[.int .i64 0, .int .i64 0] 32))
        rw [HCK.out] at hc
        unfold dV at hc
        have HC := Lib.hid hc
        have HK6 := Lib.hid (And.intro (below_then HK5.out.1 hb6) (And.intro hx (And.intro B6.1 B6.2.1)))
        have HT6 := Lib.hid (HT5.out.keep hb6)
        clear hb hb6 B6 HK5 HT5 HPC hx hc
        go_wp2_with fail
        refine HC.out.mono ?_
        rintro e w7 ⟨rfl, hb⟩
        have p1 := HK6.out.2.1.keep hb
        have p2 := HK6.out.2.2.1.keep hb
        have p3 := HK6.out.2.2.2.keep hb
        have a0 := p1.cell 0
        have a1 := p1.cell 1
        have a2 := p1.cell 2
        have b0 := p2.cell 0
        have b1 := p2.cell 1
        have b2 := p2.cell 2
        have d0 := p3.cell 0
        have d1 := p3.cell 1
        simp only [List.getElem?_cons_zero, List.getElem?_cons_succ] at a0 a1 a2 b0 b1 b2 d0 d1
        have HK7 := Lib.hid (below_then HK6.out.1 hb)
        have HT7 := Lib.hid (HT6.out.keep hb)
        clear hb HK6 HT6 HC y0 y1 y2 p1 p2 p3
        go_wp2_with fail
        refine (awake_calls _ HT7.out).mono ?_
        rintro e w8 ⟨rfl, hb⟩
        have HK8 := Lib.hid (below_then HK7.out hb)
        clear hb HK7 HT7
        go_wp2_with fail
        go_ret
        exact ⟨rfl, HK8.out⟩
      · have hn0 : n = D0 := h1
        subst hn0
        have h2' : f1 ≠ 0 := h2
        have g1 : (f1 == 0) = false := by simp [h2']
        have g2 : (f1 != 0) = true := by simp [h2']
        have g3 : (0 : Int) ≤ f2 := h3
        have g4 : f2 ≤ (s.size : Int) := by rw [HS.out.size]; exact h4
        have a0 := HK4.out.2.1.cell 0
        have a1 := HK4.out.2.1.cell 1
        have a2 := HK4.out.2.1.cell 2
        have b0 := HK4.out.2.2.cell 0
        have b1 := HK4.out.2.2.cell 1
        simp only [List.getElem?_cons_zero, List.getElem?_cons_succ, D0] at a0 a1 a2 b0 b1
        simp only [D0] at HK4 HT4 ⊢
        clear h1 h2 h3 h4 h2'
        go_wp2_with fail
        refine (awake_calls _ HT4.out).mono ?_
        rintro e w8 ⟨rfl, hb⟩
        have HK8 := Lib.hid (below_then HK4.out.1 hb)
        clear hb HK4 HT4
        go_wp2_with fail
        go_ret
        exact ⟨rfl, HK8.out⟩
    · have g1 : (q == 0) = false := by simp [h0]
      rw [if_neg h0] at hstr
      have htl := hstr.toList
      have hc := check_calls d HF.out w1
      rw [← HQ.out] at hc
      unfold dV at hc
      have HC := Lib.hid hc
      have hqq : (q != q) = false := by simp
      clear hc hstr
      go_wp2_with fail
      refine HC.out.mono ?_
      rintro e w3 ⟨rfl, hb⟩
      have HKX := Lib.hid (And.intro (below_then HK1.out.1 hb) True.intro)
      have HTX := Lib.hid (HT1.out.keep hb)
      clear hb HK1 HT1 HC a0 a1 a2 htl
      -- the second half, out of world w3
      have hpc := parse_cases l
      obtain ⟨⟨n, f1, f2⟩, hpl⟩ : ∃ t, t = parse l := ⟨_, rfl⟩
      rw [← hpl] at hpc
      have HPC := Lib.hid (parse_calls s l HS.out (by have := HL.out; omega) w3)
      unfold Parses at HPC
      rw [← hpl] at HPC
      have HPL := Lib.hid hpl
      clear hpl
      simp only [dV, fV] at HPC
      go_wp2_with fail
      refine HPC.out.mono ?_
      rintro e w4 ⟨rfl, hb⟩
      have B4 := two_boxes w4 (.bool n.neg) (.int .u64 n.c) (.int .i64 n.e) (.int .i64 f1) (.int .i64 f2)
      have hb4 := below_then hb B4.2.2
      have HK4 := Lib.hid (And.intro (below_then HKX.out.1 hb4) (And.intro B4.1 B4.2.1))
      have HT4 := Lib.hid (HTX.out.keep hb4)
      clear hb hb4 B4 HKX HTX HPC
      rcases hpc with ⟨hone, hf⟩ | ⟨h1, h2, h3, h4⟩
      · have hf1 : f1 = 0 := congrArg Prod.fst hf
        have hf2 : f2 = 0 := congrArg Prod.snd hf
        subst hf1 hf2
        have HO := Lib.hid (show n.One from hone)
        have hck := check_ok.2 HO.out
        have hc := text_calls n HO.out.fits _ HT4.out
        rw [hck, if_pos rfl] at hc
        unfold dV at hc
        have HC := Lib.hid hc
        have HCK := Lib.hid hck
        clear hone hf hc hck
        go_wp2_with fail
        refine HC.out.mono ?_
        rintro e w5 ⟨u, rfl, hu, hb⟩
        have HPC := Lib.hid (parse_calls u (text n) hu (by have := text_length HO.out; omega) w5)
        unfold Parses at HPC
        rw [parse_text HO.out] at HPC
        simp only [dV, fV] at HPC
        have HK5 := Lib.hid (And.intro (below_then HK4.out.1 hb) (HK4.out.2.1.keep hb))
        have HT5 := Lib.hid (HT4.out.keep hb)
        clear hb HK4 HT4 HC hu
        go_wp2_with fail
        refine HPC.out.mono ?_
        rintro e w6 ⟨rfl, hb⟩
        have B6 := two_boxes w6 (.bool n.neg) (.int .u64 n.c) (.int .i64 n.e) (.int .i64 0) (.int .i64 0)
        have hb6 := below_then hb B6.2.2
        have hx := HK5.out.2.keep hb6
        have y0 := hx.cell 0
        have y1 := hx.cell 1
        have y2 := hx.cell 2
        simp only [List.getElem?_cons_zero, List.getElem?_cons_succ] at y0 y1 y2
        have hc := check_calls n HO.out.fits ((w6.alloc (.cells #[.bool n.neg, .int .u64 n.c, .int .i64 n.e] 24)).alloc (.cells #[.int .i64 0, .int .i64 0] 32))
        rw [HCK.out] at hc
        unfold dV at hc
        have HC := Lib.hid hc
        have HK6 := Lib.hid (And.intro (below_then HK5.out.1 hb6) (And.intro hx (And.intro B6.1 B6.2.1)))
        have HT6 := Lib.hid (HT5.out.keep hb6)
        clear hb hb6 B6 HK5 HT5 HPC hx hc
        go_wp2_with fail
        refine HC.out.mono ?_
        rintro e w7 ⟨rfl, hb⟩
        have p1 := HK6.out.2.1.keep hb
        have p2 := HK6.out.2.2.1.keep hb
        have p3 := HK6.out.2.2.2.keep hb
        have a0 := p1.cell 0
        have a1 := p1.cell 1
        have a2 := p1.cell 2
        have b0 := p2.cell 0
        have b1 := p2.cell 1
        have b2 := p2.cell 2
        have d0 := p3.cell 0
        have d1 := p3.cell 1
        simp only [List.getElem?_cons_zero, List.getElem?_cons_succ] at a0 a1 a2 b0 b1 b2 d0 d1
        have HK7 := Lib.hid (below_then HK6.out.1 hb)
        have HT7 := Lib.hid (HT6.out.keep hb)
        clear hb HK6 HT6 HC y0 y1 y2 p1 p2 p3
        go_wp2_with fail
        refine (awake_calls _ HT7.out).mono ?_
        rintro e w8 ⟨rfl, hb⟩
        have HK8 := Lib.hid (below_then HK7.out hb)
        clear hb HK7 HT7
        go_wp2_with fail
        go_ret
        exact ⟨rfl, HK8.out⟩
      · have hn0 : n = D0 := h1
        subst hn0
        have h2' : f1 ≠ 0 := h2
        have g1 : (f1 == 0) = false := by simp [h2']
        have g2 : (f1 != 0) = true := by simp [h2']
        have g3 : (0 : Int) ≤ f2 := h3
        have g4 : f2 ≤ (s.size : Int) := by rw [HS.out.size]; exact h4
        have a0 := HK4.out.2.1.cell 0
        have a1 := HK4.out.2.1.cell 1
        have a2 := HK4.out.2.1.cell 2
        have b0 := HK4.out.2.2.cell 0
        have b1 := HK4.out.2.2.cell 1
        simp only [List.getElem?_cons_zero, List.getElem?_cons_succ, D0] at a0 a1 a2 b0 b1
        simp only [D0] at HK4 HT4 ⊢
        clear h1 h2 h3 h4 h2'
        go_wp2_with fail
        refine (awake_calls _ HT4.out).mono ?_
        rintro e w8 ⟨rfl, hb⟩
        have HK8 := Lib.hid (below_then HK4.out.1 hb)
        clear hb HK4 HT4
        go_wp2_with fail
        go_ret
        exact ⟨rfl, HK8.out⟩
end Go.Proofs.YtanobfiheepgbaaDoor
