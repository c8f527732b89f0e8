/-
  The walk of StatsdForms. No statement of the seat is proved here.
-/
import Derived.Test.YtdliookdmgilgaaGreatDoorLawSBack
import Derived.Test.YtdliookdmgilgaaGreatDoorSdMany
namespace Go.Proofs.YtdliookdmgilgaaGreatDoor
open Go.RowKit Go.Sort
open Dc (D D0)

/-- A line with zeros, ahead of what stands behind its word. -/
def formS (name : List UInt8) (k : Int) (d : D) (i j : Nat) (q : List UInt8) : List UInt8 :=
  name ++ 58 :: ((Dc.sgn d.neg ++ (List.replicate i 48 ++ Dc.sized d.c d.e ++ (if 0 ≤ d.e ∧ 0 < j then [46] else []) ++ List.replicate j 48)) ++ 124 :: (wordOf k ++ q))
theorem formS_more (name : List UInt8) (k : Int) (d : D) (i j : Nat) (q : List UInt8) : formS name k d i j q = formS name k d i j [] ++ q := by
  unfold formS
  simp
theorem formS_len {name : List UInt8} {k : Int} {d : D} {r : Int} (h : Said name k d r) {i j : Nat} (hi : i ≤ 5) (hj : j ≤ 5) {q : List UInt8} (hq : q.length ≤ 20) : (formS name k d i j q).length ≤ 300 := by
  have h1 := name_bytes h.name
  have h2 := Dc.text_length h.val
  have h3 := wordOf_len h.kind
  rw [Dc.text_sgn, List.length_append] at h2
  unfold formS
  by_cases h4 : 0 ≤ d.e ∧ 0 < j
  · rw [if_pos h4]; simp; omega
  · rw [if_neg h4]; simp; omega
theorem form_pieces {s a b v c u : ByteArray} {name : List UInt8} {k : Int} {d : D} {i j : Nat} (hs : Str s name) (ha : Str a (Dc.sgn d.neg)) (hb : Str b (List.replicate i 48)) (hv : Str v (Dc.sized d.c d.e ++ (if 0 ≤ d.e ∧ 0 < j then [46] else []))) (hc : Str c (List.replicate j 48)) (hu : Str u (wordOf k)) :
    Str (s ++ (⟨#[58]⟩ : ByteArray) ++ a ++ b ++ v ++ c ++ (⟨#[124]⟩ : ByteArray) ++ u) (formS name k d i j []) := by
  have := ((((((hs.append (show Str ⟨#[58]⟩ [58] from rfl)).append ha).append hb).append hv).append hc).append (show Str ⟨#[124]⟩ [124] from rfl)).append hu
  unfold formS
  simpa using this

set_option maxRecDepth 100000 in
set_option maxHeartbeats 8000000 in
theorem sforms_walk {w : World} {s : ByteArray} {A B : Option Addr} {n k ca cb : Nat} {m : Mt} (h : MIs w s A n B k m) (hf : ∀ d ∈ m.vals, d.Fits) (x y z : Int) (one : Bool) (ht : Tab w) :
    Calls Tryz.prog 7 #[mV s m.kind A n ca m.rate B k cb m.time, .agg #[.int .i64 x, .int .i64 y, .int .i64 z], .bool one] w fun e w' => e = .returned (.bool true) ∧ Below w.heap.size w w' := by
  obtain ⟨q, hq⟩ : ∃ q, smallM m = q := ⟨_, rfl⟩
  have HZ := Lib.hid (fun (e : q = true) => smallM_small (hq.trans e) hf)
  have HQ := Lib.hid hq
  have HB := Lib.hid ((Kb.enter (ca := ca) (cb := cb) h).pushAt (g := w.heap.size + 1) (by rw [size_alloc]) 46 [.int .i64 x, .int .i64 y, .int .i64 z])
  have HT := Lib.hid ht
  unfold mV
  clear hq h hf ht
  obtain ⟨c0, c1, c2, c3, c4, c5⟩ := HB.out.six (.tail _ (.head _))
  go_enter Tryz.func7, Tryz.ntmps7
  go_wp2_with fail
  refine (HB.out.small10_ (.head _) HQ.out _ _).mono ?_
  rintro e w1 ⟨rfl, hb⟩
  have HB1 := Lib.hid hb
  clear hb HB c0 c1 c2 c3 c4 c5
  have e0 := HB1.out.cell (g := w.heap.size + 1) (i := 0) (.head _) rfl
  have e1 := HB1.out.cell (g := w.heap.size + 1) (i := 1) (.head _) rfl
  have e2 := HB1.out.cell (g := w.heap.size + 1) (i := 2) (.head _) rfl
  by_cases hin : q = true ∧ (0 ≤ x ∧ x ≤ 5) ∧ (0 ≤ y ∧ y ≤ 5) ∧ (0 ≤ z ∧ z ≤ 5)
  rotate_left
  · rcases (by cases q <;> simp at hin ⊢ <;> omega : q = false ∨ (q = true ∧ x < 0) ∨ (q = true ∧ ¬ x < 0 ∧ 5 < x) ∨ (q = true ∧ ¬ x < 0 ∧ ¬ 5 < x ∧ y < 0) ∨ (q = true ∧ ¬ x < 0 ∧ ¬ 5 < x ∧ ¬ y < 0 ∧ 5 < y) ∨ (q = true ∧ ¬ x < 0 ∧ ¬ 5 < x ∧ ¬ y < 0 ∧ ¬ 5 < y ∧ z < 0) ∨ (q = true ∧ ¬ x < 0 ∧ ¬ 5 < x ∧ ¬ y < 0 ∧ ¬ 5 < y ∧ ¬ z < 0 ∧ 5 < z)) with rfl | ⟨rfl, h1⟩ | ⟨rfl, h1, h2⟩ | ⟨rfl, h1, h2, h3⟩ | ⟨rfl, h1, h2, h3, h4⟩ | ⟨rfl, h1, h2, h3, h4, h5⟩ | ⟨rfl, h1, h2, h3, h4, h5, h6⟩
    all_goals
      clear hin
      go_wp2_with fail
      refine (HB1.out.awake10_ HT.out).mono ?_
      rintro e w2 ⟨rfl, hb⟩
      have HB2 := Lib.hid hb
      clear hb HB1
      go_wp2_with fail
      go_ret
      exact ⟨rfl, HB2.out.kept⟩
  obtain ⟨rfl, ⟨gx0, gx5⟩, ⟨gy0, gy5⟩, ⟨gz0, gz5⟩⟩ := hin
  have gx1 : ¬ x < 0 := by omega
  have gx2 : ¬ 5 < x := by omega
  have gy1 : ¬ y < 0 := by omega
  have gy2 : ¬ 5 < y := by omega
  have gz1 : ¬ z < 0 := by omega
  have gz2 : ¬ 5 < z := by omega
  have HS := Lib.hid (HZ.out rfl)
  clear HZ
  obtain ⟨c0, c1, c2, c3, c4, c5⟩ := HB1.out.six (.tail _ (.head _))
  by_cases hc0 : metricE m 1 = 0
  rotate_left
  · obtain ⟨c, hc⟩ : ∃ c, metricE m 1 = c := ⟨_, rfl⟩
    have HC := Lib.hid hc
    have hcb : (c != 0) = true := by rw [← hc]; simpa using hc0
    clear hc hc0
    go_wp2_with fail
    refine (HB1.out.line_ (.head _) HS.out HT.out rfl HC.out _ _).mono ?_
    rintro e w2 ⟨rfl, hb⟩
    have HB2 := Lib.hid hb
    clear hb HB1 c0 c1 c2 c3 c4 c5 e0 e1 e2
    go_wp2_with fail
    refine (HB2.out.awake10_ HT.out).mono ?_
    rintro e w3 ⟨rfl, hb⟩
    have HB3 := Lib.hid hb
    clear hb HB2
    go_wp2_with fail
    go_ret
    exact ⟨rfl, HB3.out.kept⟩
  obtain ⟨name, kd, d, r, rfl, hsd⟩ := metricE_said hc0
  have hns : Str s name := (HB1.out.m (.head _)).name
  obtain rfl : n = 1 := (HB1.out.m (.head _)).vlen.symm
  obtain ⟨o1, o2, o3, o4, o5, o6⟩ := Said.one name kd d r
  rw [o2] at c1
  rw [o4] at c3
  rw [o6] at c5
  have HL := Lib.hid (HB1.out.line_ (.head _) HS.out HT.out rfl hc0 ca cb)
  rw [o2, o4, o6] at HL
  have HB1' := Lib.hid (show Kb w [(w.heap.size + 1, 46, [.int .i64 x, .int .i64 y, .int .i64 z]), (w.heap.size, 25, [.string s, .int .i64 kd, .slice A 1 ca, .int .i64 r, .slice B k cb, .int .i64 0])] [(s, A, 1, B, k, oneS name kd d r)] w1 from HB1.out)
  have HSD := Lib.hid (And.intro hsd hns)
  rw [o2, o4, o6]
  clear HB1 hc0 hns hsd o1 o2 o3 o4 o5 o6 HQ
  go_upto_region 3 with fail
  go_cut [8] from 20 (fun s8 wx => s8 = .int .i64 0 ∧ Hid (Kb w [(w.heap.size + 1, 46, [.int .i64 x, .int .i64 y, .int .i64 z]), (w.heap.size, 25, [.string s, .int .i64 kd, .slice A 1 ca, .int .i64 r, .slice B k cb, .int .i64 0])] [(s, A, 1, B, k, oneS name kd d r)] wx))
  case first =>
    go_wp2_with fail
    refine HL.out.mono ?_
    rintro e w2 ⟨rfl, hb⟩
    have HB2 := Lib.hid hb
    clear hb HL c0 c1 c2 c3 c4 c5 e0 e1 e2
    go_wp2_with fail
    go_meet
    exact ⟨rfl, HB2⟩
  case rest =>
  obtain ⟨rfl, hb⟩ := hcut
  obtain ⟨W2, hW2⟩ : ∃ W, W = wc := ⟨_, rfl⟩
  subst hW2
  have HB2 := Lib.hid hb.out
  clear hb HL HB1' c0 c1 c2 c3 c4 c5 e0 e1 e2
  have hnb := name_bytes HSD.out.1.name
  have hnz : (s.size : Int) ≤ 200 := by rw [HSD.out.2.size]; omega
  have hwl := wordOf_len HSD.out.1.kind
  have htl := Dc.text_length HSD.out.1.val
  have hkd := HSD.out.1.kind
  have wk : WfI kd := by
    rcases (by omega : kd = 1 ∨ kd = 2 ∨ kd = 3 ∨ kd = 4) with rfl | rfl | rfl | rfl <;> (show (Lit.int .i64 _).wf = true; decide)
  have hv : Decs W2 A [d] := (HB2.out.m (.head _)).vals
  obtain ⟨b, off, x', y', zz, e1, d0, d1, d2, hdl⟩ := hv.get (i := 0) (by simp)
  obtain ⟨rfl, rfl, rfl⟩ : x' = d.neg ∧ y' = (d.c : Int) ∧ zz = d.e := ⟨hdl.neg, hdl.c, hdl.e⟩
  subst e1
  simp only [Nat.zero_mul, Nat.add_zero] at d0 d1 d2
  have HTX := Lib.hid (Dc.text_calls d HSD.out.1.val.fits W2 (HT.out.keep HB2.out.kept))
  rw [Dc.check_ok.2 HSD.out.1.val] at HTX
  simp only [if_true] at HTX
  unfold Dc.dV at HTX
  have HWK := Lib.hid (And.intro wk (And.intro hwl htl))
  obtain ⟨c0, c1, c2, c3, c4, c5⟩ := HB2.out.six (.tail _ (.head _))
  clear hdl hv wk hwl htl hnb hkd
  go_wp2_with fail
  refine HTX.out.mono ?_
  rintro e w3 ⟨v, rfl, hv, hb⟩
  have HB3 := Lib.hid (HB2.out.next hb)
  have HV := Lib.hid hv
  have hvz : (v.size : Int) ≤ 39 := by rw [hv.size]; have := HWK.out.2.2; omega
  clear hb HB2 HTX hv c0 c1 c2 c3 c4 c5 d0 d1 d2
  obtain ⟨c0, c1, c2, c3, c4, c5⟩ := HB3.out.six (.tail _ (.head _))
  have HW := Lib.hid (sword_calls HWK.out.1 w3)
  rw [show codeW kd = 0 from if_pos HSD.out.1.kind] at HW
  obtain ⟨u, hu⟩ : ∃ u : ByteArray, u = ⟨(wordOf kd).toArray⟩ := ⟨_, rfl⟩
  rw [← hu] at HW
  have hus : Str u (wordOf kd) := by rw [hu]; exact Str.mk _
  have huz : (u.size : Int) ≤ 2 := by rw [hus.size]; have := HWK.out.2.1; omega
  have HU := Lib.hid hus
  clear hu hus
  go_wp2_with fail
  refine HW.out.mono ?_
  rintro e w4 ⟨rfl, hb⟩
  have HB4 := Lib.hid (HB3.out.next hb)
  clear hb HB3 HW c0 c1 c2 c3 c4 c5
  have hsz0 : Dc.sized d.c d.e ≠ [] := by
    rcases (by omega : 0 ≤ d.e ∨ d.e < 0) with h | h
    · exact ((Dc.sized_split d.c d.e).1 h).2.1
    · obtain ⟨a, b, e1, _, hna, _⟩ := (Dc.sized_split d.c d.e).2 h
      rw [e1]; simp
  have hv1 : ¬ (v.size : Int) < 1 := by
    have := HV.out.size
    rw [Dc.text_sgn, List.length_append] at this
    have h2 : 0 < (Dc.sized d.c d.e).length := List.length_pos_iff.2 hsz0
    omega
  have htne : 0 < (Dc.text d).length := by have := HV.out.size; omega
  have hix := HV.out.index (i := 0) 0 rfl htne
  obtain ⟨yb, hyb⟩ : ∃ yb : Int, (((Dc.text d)[0]'htne).toNat : Int) = yb := ⟨_, rfl⟩
  rw [hyb] at hix
  obtain ⟨sg, hsg⟩ : ∃ sg : Bool, d.neg = sg := ⟨_, rfl⟩
  have hyv : (yb == 45) = sg := by
    have h45 : (Dc.text d).head? = some ((Dc.text d)[0]'htne) := by rw [List.head?_eq_getElem?, List.getElem?_eq_getElem htne]
    cases hd : sg with
    | true =>
      rw [hd] at hsg
      have e1 : (Dc.text d).head? = some 45 := by rw [Dc.text_sgn, hsg]; rfl
      rw [e1] at h45
      injection h45 with h45
      rw [← hyb, ← h45]; rfl
    | false =>
      rw [hd] at hsg
      have := text_head hsg
      rw [h45] at this
      have h2 : yb ≠ 45 := fun e => this (congrArg some (UInt8.toNat_inj.1 (by show ((Dc.text d)[0]'htne).toNat = 45; omega)))
      simpa using h2
  have HSG := Lib.hid hsg
  clear hyb hsg hsz0
  go_upto_if 95 with fail
  go_cut [9, 13] from 20 (fun s9 s13 wx => ∃ V1 SG : ByteArray, s9 = .string V1 ∧ s13 = .string SG ∧ w4 = wx ∧ Hid (Str V1 (Dc.sized d.c d.e) ∧ Str SG (Dc.sgn d.neg)))
  case first =>
    cases sg
    · go_wp2_with fail
      go_meet
      refine ⟨_, _, rfl, rfl, rfl, ?_, ?_⟩
      · have := HV.out; rw [Dc.text_sgn, HSG.out] at this; exact this
      · rw [HSG.out]; rfl
    · obtain ⟨T, hT, hcut⟩ := HV.out.from_ (i := 1) 1 rfl (by omega)
      have HT1 := Lib.hid hT
      clear hT
      go_wp2_with fail
      go_meet
      refine ⟨_, _, rfl, rfl, rfl, ?_, ?_⟩
      · have := HT1.out; rw [Dc.text_sgn, HSG.out] at this; exact this
      · rw [HSG.out]; rfl
  case rest =>
  obtain ⟨V1, SG, rfl, rfl, hwc, hVS⟩ := hcut
  subst hwc
  have HVS := Lib.hid hVS.out
  clear hVS hix hyv hv1 htne HV hvz HSG
  have hv4 : Decs w4 (some ⟨b, off, none⟩) [d] := (HB4.out.m (.head _)).vals
  obtain ⟨b', off', x', y', zz, e1, d0, d1, d2, hdl⟩ := hv4.get (i := 0) (by simp)
  obtain ⟨rfl, rfl, rfl⟩ : x' = d.neg ∧ y' = (d.c : Int) ∧ zz = d.e := ⟨hdl.neg, hdl.c, hdl.e⟩
  injection e1 with e1
  injection e1 with e1 e2
  subst e1 e2
  simp only [Nat.zero_mul, Nat.add_zero] at d0 d1 d2
  obtain ⟨c0, c1, c2, c3, c4, c5⟩ := HB4.out.six (.tail _ (.head _))
  have e1 := HB4.out.cell (g := w.heap.size + 1) (i := 1) (.head _) rfl
  clear hdl hv4
  obtain ⟨gd, hgd⟩ : ∃ gd : Bool, gd = decide (0 ≤ d.e ∧ 0 < y) := ⟨_, rfl⟩
  have HG := Lib.hid hgd
  clear hgd
  obtain ⟨dex, hde⟩ : ∃ e : Int, d.e = e := ⟨_, rfl⟩
  rw [hde] at d2 HG
  have HDE := Lib.hid hde
  clear hde
  go_upto_region 14 with fail
  go_cut [108] from 20 (fun s108 wx => s108 = .bool gd ∧ w4 = wx)
  case first =>
    rcases (by omega : ¬ 0 ≤ dex ∨ (0 ≤ dex ∧ ¬ 0 < y) ∨ (0 ≤ dex ∧ 0 < y)) with h1 | ⟨h1, h2⟩ | ⟨h1, h2⟩
    · have HE := Lib.hid (show gd = false by rw [HG.out]; exact decide_eq_false fun h => h1 h.1)
      go_wp2_with fail
      go_meet
      exact ⟨by rw [HE.out], rfl⟩
    · have HE := Lib.hid (show gd = false by rw [HG.out]; exact decide_eq_false fun h => h2 h.2)
      go_wp2_with fail
      go_meet
      exact ⟨by rw [HE.out], rfl⟩
    · have HE := Lib.hid (show gd = true by rw [HG.out]; exact decide_eq_true ⟨h1, h2⟩)
      go_wp2_with fail
      go_meet
      exact ⟨by rw [HE.out], rfl⟩
  case rest =>
  obtain ⟨rfl, hwc⟩ := hcut
  subst hwc
  have hV1z : (V1.size : Int) ≤ 39 := by
    have h2 := HWK.out.2.2
    rw [Dc.text_sgn, List.length_append] at h2
    rw [HVS.out.1.size]; omega
  have hSGz : (SG.size : Int) ≤ 1 := by
    rw [HVS.out.2.size]
    unfold Dc.sgn
    split <;> simp
  clear c0 c1 c2 c3 c4 c5 d0 d1 d2 e1
  go_upto_if 108 with fail
  go_cut [9] from 20 (fun s9 wx => ∃ V2 : ByteArray, s9 = .string V2 ∧ w4 = wx ∧ Hid (Str V2 (Dc.sized d.c d.e ++ (if 0 ≤ d.e ∧ 0 < y.toNat then [46] else []))))
  case first =>
    have z1 : ((⟨#[46]⟩ : ByteArray).size : Int) = 1 := rfl
    have za := size_add
    cases gd
    · go_wp2_with fail
      go_meet
      refine ⟨_, rfl, rfl, ?_⟩
      have h := of_decide_eq_false HG.out.symm
      rw [if_neg (by rw [HDE.out]; rintro ⟨h1, h2⟩; exact h ⟨h1, by omega⟩), List.append_nil]
      exact HVS.out.1
    · go_wp2_with fail
      go_meet
      refine ⟨_, rfl, rfl, ?_⟩
      have h := of_decide_eq_true HG.out.symm
      rw [if_pos ⟨by rw [HDE.out]; exact h.1, by omega⟩]
      exact HVS.out.1.append (show Str ⟨#[46]⟩ [46] from rfl)
  case rest =>
  obtain ⟨V2, rfl, hwc, hV2⟩ := hcut
  subst hwc
  have HV2 := Lib.hid (And.intro hV2.out HVS.out.2)
  clear hV2 HVS HG
  have hV2z : (V2.size : Int) ≤ 40 := by
    rw [HV2.out.1.size, List.length_append]
    have h2 := HWK.out.2.2
    rw [Dc.text_sgn, List.length_append] at h2
    split <;> simp <;> omega
  obtain ⟨nx, rfl⟩ : ∃ nx : Nat, x = (nx : Int) := ⟨x.toNat, by omega⟩
  obtain ⟨ny, rfl⟩ : ∃ ny : Nat, y = (ny : Int) := ⟨y.toNat, by omega⟩
  obtain ⟨nz, rfl⟩ : ∃ nz : Nat, z = (nz : Int) := ⟨z.toNat, by omega⟩
  rw [Int.toNat_natCast] at HV2
  obtain ⟨Zx, hZx⟩ : ∃ Z : ByteArray, Z = ⟨(List.replicate nx (48 : UInt8)).toArray⟩ := ⟨_, rfl⟩
  obtain ⟨Zy, hZy⟩ : ∃ Z : ByteArray, Z = ⟨(List.replicate ny (48 : UInt8)).toArray⟩ := ⟨_, rfl⟩
  have hsx : Str Zx (List.replicate nx 48) := by rw [hZx]; exact Str.mk _
  have hsy : Str Zy (List.replicate ny 48) := by rw [hZy]; exact Str.mk _
  have hzx : (Zx.size : Int) ≤ 5 := by rw [hsx.size]; simp; omega
  have hzy : (Zy.size : Int) ≤ 5 := by rw [hsy.size]; simp; omega
  have HF := Lib.hid (form_pieces HSD.out.2 HV2.out.2 hsx HV2.out.1 hsy HU.out)
  have HQX := Lib.hid (fun x os => Calls.regrown_of (many_calls nx (by omega) (grow (redrawn w4 x) os)))
  have HQY := Lib.hid (fun x os => Calls.regrown_of (many_calls ny (by omega) (grow (redrawn w4 x) os)))
  rw [← hZx] at HQX
  rw [← hZy] at HQY
  have z1 : ((⟨#[58]⟩ : ByteArray).size : Int) = 1 := rfl
  have z2 : ((⟨#[124]⟩ : ByteArray).size : Int) = 1 := rfl
  have za := size_add
  clear hZx hZy hsx hsy HV2
  obtain ⟨m0, m1, m2, m3, m4, m5⟩ := HB4.out.sixq (.tail _ (.head _))
  have f0 := cell_regrown (HB4.out.cell (g := w.heap.size + 1) (i := 0) (.head _) rfl)
  have f1 := cell_regrown (HB4.out.cell (g := w.heap.size + 1) (i := 1) (.head _) rfl)
  go_wp2_with fail
  refine wp_region_quiet_below (by kernel_rfl) (by kernel_rfl) ?_
  repeat (go_big_quiet_step (first | with_reducible exact HQX.out _ _ | with_reducible exact HQY.out _ _))
  refine wpQuiet_nil ?_
  rintro _ ⟨⟨dq, osq⟩, rfl⟩
  have HB5 := Lib.hid (HB4.out.next (below_regrown _ dq osq))
  clear m0 m1 m2 m3 m4 m5 f0 f1 HQX HQY HB4
  generalize grow (redrawn w4 dq) osq = W5 at HB5 ⊢
  generalize (s ++ (⟨#[58]⟩ : ByteArray) ++ SG ++ Zx ++ V2 ++ Zy ++ (⟨#[124]⟩ : ByteArray) ++ u) = S5 at HF ⊢
  have hS5z : (S5.size : Int) ≤ 300 := by
    have := formS_len HSD.out.1 (i := nx) (j := ny) (q := []) (by omega) (by omega) (by simp)
    rw [HF.out.size]; omega
  have hrate := HSD.out.1.rate
  have e0 : isRate r = true := by unfold isRate; exact decide_eq_true hrate
  have HR := Lib.hid (ratetext_calls r W5 (HT.out.keep HB5.out.kept))
  unfold Told2 at HR
  rw [show textR r = rateText r.toNat by unfold textR; rw [e0]; rfl, show errR r = 0 by unfold errR; rw [e0]; rfl] at HR
  obtain ⟨Q, hQ⟩ : ∃ Q : ByteArray, Q = ⟨(rateText r.toNat).toArray⟩ := ⟨_, rfl⟩
  rw [← hQ] at HR
  have hQs : Str Q (rateText r.toNat) := by rw [hQ]; exact Str.mk _
  have hQz : (Q.size : Int) ≤ 8 := by
    rw [hQs.size]
    by_cases h : r = 1000000
    · subst h; decide
    · have := (rateText_len (n := r.toNat) (by omega) (by omega)).2
      omega
  have HQS := Lib.hid hQs
  clear hQ hQs e0 hrate z1 z2
  obtain ⟨c0, c1, c2, c3, c4, c5⟩ := HB5.out.six (.tail _ (.head _))
  go_wp2_with fail
  refine HR.out.mono ?_
  rintro e w6 ⟨rfl, hb⟩
  have HB6 := Lib.hid (HB5.out.next hb)
  clear hb HB5 HR c0 c1 c2 c3 c4 c5
  obtain ⟨c0, c1, c2, c3, c4, c5⟩ := HB6.out.six (.tail _ (.head _))
  have e2 := HB6.out.cell (g := w.heap.size + 1) (i := 2) (.head _) rfl
  go_upto_if 139 with fail
  go_cut [14] from 15 (fun s14 wx => ∃ (S : ByteArray) (lst : List UInt8), s14 = .string S ∧ Hid (Str S lst ∧ lst.length ≤ 900 ∧ parseS lst = (oneS name kd d r, 0, 0)) ∧ Hid (Kb w [(w.heap.size + 1, 46, [.int .i64 nx, .int .i64 ny, .int .i64 nz]), (w.heap.size, 25, [.string s, .int .i64 kd, .slice (some ⟨b, off, none⟩) 1 ca, .int .i64 r, .slice B k cb, .int .i64 0])] [(s, some ⟨b, off, none⟩, 1, B, k, oneS name kd d r)] wx))
  case first =>
    have z1 : ((⟨#[124, 64]⟩ : ByteArray).size : Int) = 2 := rfl
    have z2 : ((⟨#[124, 64, 49]⟩ : ByteArray).size : Int) = 3 := rfl
    by_cases hr : r = 1000000
    · have hrb : (r != 1000000) = false := by simpa using hr
      cases one
      · go_wp2_with fail
        go_meet
        refine ⟨_, _, rfl, ⟨HF.out, ?_, ?_⟩, HB6⟩
        · have := formS_len HSD.out.1 (i := nx) (j := ny) (q := []) (by omega) (by omega) (by simp); omega
        · exact HSD.out.1.forms nx ny nz [] (.inl ⟨hr, .inl rfl⟩)
      · go_wp2_with fail
        go_meet
        refine ⟨_, formS name kd d nx ny [124, 64, 49], rfl, ⟨?_, ?_, ?_⟩, HB6⟩
        · rw [formS_more]; exact HF.out.append (show Str ⟨#[124, 64, 49]⟩ [124, 64, 49] from rfl)
        · have := formS_len HSD.out.1 (i := nx) (j := ny) (q := [124, 64, 49]) (by omega) (by omega) (by simp); omega
        · exact HSD.out.1.forms nx ny nz [124, 64, 49] (.inl ⟨hr, .inr rfl⟩)
    · have hrb : (r != 1000000) = true := by simpa using hr
      obtain ⟨Zz, hZz⟩ : ∃ Z : ByteArray, Z = ⟨(List.replicate nz (48 : UInt8)).toArray⟩ := ⟨_, rfl⟩
      have hsz : Str Zz (List.replicate nz 48) := by rw [hZz]; exact Str.mk _
      have hzz : (Zz.size : Int) ≤ 5 := by rw [hsz.size]; simp; omega
      have HM := Lib.hid (many_calls nz (by omega) w6)
      rw [← hZz] at HM
      have hqz := HQS.out.append hsz
      have HQZ := Lib.hid hqz
      obtain ⟨QZ, hQZ⟩ : ∃ S : ByteArray, Q ++ Zz = S := ⟨_, rfl⟩
      rw [hQZ] at hqz HQZ
      have hqsz : (QZ.size : Int) = ((rateText r.toNat ++ List.replicate nz (48 : UInt8)).length : Int) := by rw [hqz.size]
      have hqz13 : (QZ.size : Int) ≤ 13 := by rw [← hQZ, size_add]; omega
      have HR := Lib.hid hr
      clear hZz hsz hqz hr
      go_wp2_with fail
      refine HM.out.mono ?_
      rintro e w7 ⟨rfl, hb⟩
      have HB7 := Lib.hid (HB6.out.next hb)
      clear hb HB6 HM c0 c1 c2 c3 c4 c5 e2
      by_cases hl8 : 8 < (QZ.size : Int)
      · have HL8 := Lib.hid (show ¬ (rateText r.toNat ++ List.replicate nz (48 : UInt8)).length ≤ 8 by omega)
        clear hqsz
        go_wp2_with fail
        go_meet
        refine ⟨_, formS name kd d nx ny (124 :: 64 :: rateText r.toNat), rfl, ⟨?_, ?_, ?_⟩, HB7⟩
        · rw [formS_more]
          have := (HF.out.append (show Str ⟨#[124, 64]⟩ [124, 64] from rfl)).append HQS.out
          simpa using this
        · have := formS_len HSD.out.1 (i := nx) (j := ny) (q := 124 :: 64 :: rateText r.toNat) (by omega) (by omega) (by have := HQS.out.size; simp; omega); omega
        · exact HSD.out.1.forms nx ny nz _ (.inr ⟨HR.out, by rw [if_neg HL8.out]⟩)
      · have HL8 := Lib.hid (show (rateText r.toNat ++ List.replicate nz (48 : UInt8)).length ≤ 8 by omega)
        clear hqsz
        go_wp2_with fail
        go_meet
        refine ⟨_, formS name kd d nx ny (124 :: 64 :: (rateText r.toNat ++ List.replicate nz 48)), rfl, ⟨?_, ?_, ?_⟩, HB7⟩
        · rw [formS_more]
          have := (HF.out.append (show Str ⟨#[124, 64]⟩ [124, 64] from rfl)).append HQZ.out
          simpa using this
        · have := formS_len HSD.out.1 (i := nx) (j := ny) (q := 124 :: 64 :: (rateText r.toNat ++ List.replicate nz 48)) (by omega) (by omega) (by have := HL8.out; simp at this ⊢; omega); omega
        · exact HSD.out.1.forms nx ny nz _ (.inr ⟨HR.out, by rw [if_pos HL8.out]⟩)
  case rest =>
  obtain ⟨S, lst, rfl, hSl, hb⟩ := hcut
  obtain ⟨W7, hW7⟩ : ∃ W, W = wc := ⟨_, rfl⟩
  subst hW7
  have HB7 := Lib.hid hb.out
  have HSL := Lib.hid hSl.out
  clear hb hSl HB6 HF HQS c0 c1 c2 c3 c4 c5 e2
  go_wp2_with fail
  refine (HB7.out.parse_ HSL.out.1 HSL.out.2.1 HSL.out.2.2).mono ?_
  rintro e w8 ⟨s8, A8, n8, ca8, B8, k8, cb8, rfl, hb⟩
  obtain ⟨o1, o2, o3, o4, o5, o6⟩ := Said.one name kd d r
  simp only [o2, o4, o6]
  have HB8 := Lib.hid (hb.lay2 (.string s8) (.int .i64 kd) (.slice A8 n8 ca8) (.int .i64 r) (.slice B8 k8 cb8) (.int .i64 0) (.int .i64 0) (.int .i64 0))
  clear hb HB7
  go_upto_region 28 with fail
  have HE := Lib.hid (HB8.out.equal_ (.head _) (.tail _ (.head _)) HS.out (decide_eq_true rfl) ca8 cb8 ca cb)
  rw [o2, o4, o6] at HE
  obtain ⟨c0, c1, c2, c3, c4, c5⟩ := HB8.out.six (g := w8.heap.size) (.tail _ (.head _))
  obtain ⟨d0, d1, d2, d3, d4, d5⟩ := HB8.out.six (g := w.heap.size) (.tail _ (.tail _ (.tail _ (.head _))))
  have f0 := HB8.out.cell (g := w8.heap.size + 1) (i := 0) (.head _) rfl
  have f1 := HB8.out.cell (g := w8.heap.size + 1) (i := 1) (.head _) rfl
  have q1 := fun w => feq_run (x := 0) (y := 0) (u := 0) (v := 0) (q := true) (by decide) w
  have hg := fguard
  clear o1 o2 o3 o4 o5 o6
  generalize World.alloc _ (.cells #[.int .i64 0, .int .i64 0] 34) = W9 at HB8 HE c0 c1 c2 c3 c4 c5 d0 d1 d2 d3 d4 d5 f0 f1 ⊢
  go_wp2_with fail
  refine HE.out.mono ?_
  rintro e w10 ⟨rfl, hb⟩
  have HB9 := Lib.hid hb
  clear hb HB8 HE c0 c1 c2 c3 c4 c5 d0 d1 d2 d3 d4 d5 f0 f1
  go_wp2_with fail
  refine (HB9.out.awake10_ HT.out).mono ?_
  rintro e w11 ⟨rfl, hb⟩
  have HB10 := Lib.hid hb
  clear hb HB9
  go_wp2_with fail
  go_ret
  exact ⟨rfl, HB10.out.kept⟩
end Go.Proofs.YtdliookdmgilgaaGreatDoor
