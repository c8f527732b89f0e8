/-
  Package dog: Line. No statement of the seat is proved here.
-/
import Derived.Test.YtbcmchkgamkceaaGreatDoorGrSdMath
import Derived.Test.YtbcmchkgamkceaaGreatDoorGrMNormal
import Derived.Test.YtbcmchkgamkceaaGreatDoorDPointed
import Derived.Test.YtbcmchkgamkceaaGreatDoorGrNText
import Derived.Test.YtbcmchkgamkceaaGreatDoorGrTAwake
import Derived.Deep.DeepCutAuto
import Derived.Deep.CutBlock
namespace Go.Proofs.YtbcmchkgamkceaaGreatDoor
open Go.RowKit
open Dc (D D0)

/-- The metric in its one form lies, while its line is put together. -/
structure LnI (w W : World) (s : ByteArray) (A : Option Addr) (n ca : Nat) (B : Option Addr) (k cb : Nat) (m : Mt) : Prop where
  kept : Below w.heap.size w W
  box : Box W w.heap.size 35 [.string s, .int .i64 m.kind, .slice A n ca, .int .i64 m.rate, .slice B k cb, .int .i64 m.time]
  met : MIs W s A n B k m
section
variable {w W W' : World} {s : ByteArray} {A B : Option Addr} {n ca k cb : Nat} {m : Mt}
theorem LnI.next (h : LnI w W s A n ca B k cb m) (b : Below W.heap.size W W') : LnI w W' s A n ca B k cb m := ⟨below_then h.kept b, h.box.keep b, h.met.keep b⟩
theorem LnI.alloc (h : LnI w W s A n ca B k cb m) (o : Obj) : LnI w (W.alloc o) s A n ca B k cb m := h.next ((Below.refl _ _).alloc (Nat.le_refl _) o)
theorem LnI.six (h : LnI w W s A n ca B k cb m) : W.cell? ⟨w.heap.size, 0, none⟩ = some (.string s) ∧ W.cell? ⟨w.heap.size, 1, none⟩ = some (.int .i64 m.kind) ∧ W.cell? ⟨w.heap.size, 2, none⟩ = some (.slice A n ca) ∧ W.cell? ⟨w.heap.size, 3, none⟩ = some (.int .i64 m.rate) ∧ W.cell? ⟨w.heap.size, 4, none⟩ = some (.slice B k cb) ∧ W.cell? ⟨w.heap.size, 5, none⟩ = some (.int .i64 m.time) :=
  ⟨h.box.cell 0, h.box.cell 1, h.box.cell 2, h.box.cell 3, h.box.cell 4, h.box.cell 5⟩
end

set_option maxRecDepth 100000 in
set_option maxHeartbeats 4000000 in
theorem oline_calls {w : World} {s : ByteArray} {A B : Option Addr} {n k ca cb : Nat} {m : Mt} (h : MIs w s A n B k m) (z : Small m) (ht : Tab w) :
    Calls Tryz.prog 15 #[.agg #[.string s, .int .i64 m.kind, .slice A n ca, .int .i64 m.rate, .slice B k cb, .int .i64 m.time]] w fun e w' => e = .returned (.tuple #[.string ⟨(lineO m).toArray⟩, .int .i64 (codeM m)]) ∧ Below w.heap.size w w' := by
  obtain ⟨q, hq⟩ : ∃ q, codeM m = q := ⟨_, rfl⟩
  obtain ⟨L, hL⟩ : ∃ L, lineO m = L := ⟨_, rfl⟩
  have hb0 := Box.new w 35 [.string s, .int .i64 m.kind, .slice A n ca, .int .i64 m.rate, .slice B k cb, .int .i64 m.time]
  have hk0 := (Below.refl w.heap.size w).alloc (Nat.le_refl _) (.cells #[.string s, .int .i64 m.kind, .slice A n ca, .int .i64 m.rate, .slice B k cb, .int .i64 m.time] 35)
  have HN := Lib.hid (mnormal_calls (ca := ca) (cb := cb) (h.keep hk0) z)
  rw [hq, hL]
  have HQ := Lib.hid (And.intro hq hL)
  have HT := Lib.hid ht
  have HB := Lib.hid (And.intro hb0 hk0)
  have c0 := hb0.cell 0
  have c1 := hb0.cell 1
  have c2 := hb0.cell 2
  have c3 := hb0.cell 3
  have c4 := hb0.cell 4
  have c5 := hb0.cell 5
  simp only [List.getElem?_cons_zero, List.getElem?_cons_succ] at c0 c1 c2 c3 c4 c5
  clear h z ht hq hL hb0 hk0
  go_enter Tryz.func15, Tryz.ntmps15
  go_wp2_with fail
  refine HN.out.mono ?_
  rintro e w1 ⟨⟨s1, A1, n1, ca1, B1, k1, cb1, rfl, hmi⟩, hb1⟩
  rw [HQ.out.1]
  simp only [mV]
  have hk1 := below_then HB.out.2 hb1
  have hbx1 : Box w1 w.heap.size 35 (mC s m.kind A n ca m.rate B k cb m.time) := HB.out.1.keep hb1
  have HLN := Lib.hid (show LnI w (putM w1 w.heap.size s1 (nM m).kind A1 n1 ca1 (nM m).rate B1 k1 cb1 (nM m).time) s1 A1 n1 ca1 B1 k1 cb1 (nM m) from
    ⟨putM_below hk1 (Nat.le_refl _), putM_is hbx1, putM_mis hmi hbx1⟩)
  have x0 := hbx1.cell 0
  have x1 := hbx1.cell 1
  have x2 := hbx1.cell 2
  have x3 := hbx1.cell 3
  have x4 := hbx1.cell 4
  have x5 := hbx1.cell 5
  have f0 := hbx1.frozen 0
  have f1 := hbx1.frozen 1
  have f2 := hbx1.frozen 2
  have f3 := hbx1.frozen 3
  have f4 := hbx1.frozen 4
  have f5 := hbx1.frozen 5
  unfold mC at x0 x1 x2 x3 x4 x5
  simp only [List.getElem?_cons_zero, List.getElem?_cons_succ] at x0 x1 x2 x3 x4 x5
  clear hk1 hbx1 hmi hb1 HB HN c0 c1 c2 c3 c4 c5
  by_cases hq0 : q ≠ 0
  · have hqb : (q != 0) = true := by simpa using hq0
    have HE := Lib.hid (show L = [] by rw [← HQ.out.2]; unfold lineO; rw [if_neg (by rw [HQ.out.1]; exact hq0)])
    clear hq0
    go_wp2_with fail
    go_ret2
    exact ⟨by rw [HE.out]; first | done | rfl, HLN.out.kept⟩
  obtain rfl : q = 0 := by omega
  have HE := Lib.hid (show L = lineD (nM m) by rw [← HQ.out.2]; unfold lineO; rw [if_pos HQ.out.1])
  have HR := Lib.hid (nM_right HQ.out.1)
  clear hq0 HQ
  generalize nM m = m' at HLN HE HR ⊢
  obtain ⟨hr, htn⟩ := HR.out
  have hpa := hr.parts
  have hvl := hr.many
  have hvn := HLN.out.met.vlen
  have gv : (0 : Int) ≤ (n1 : Int) ∧ (n1 : Int) ≤ 64 := by omega
  have HPA := Lib.hid (And.intro hpa (And.intro hvl hvn))
  have hns := HLN.out.met.name
  have HNS := Lib.hid (show Str s1 (hdT m'.name (m'.vals.take 0)) by rw [List.take_zero, hdT_nil]; exact hns)
  have za : ∀ a b : ByteArray, (a ++ b).size = a.size + b.size := fun a b => by simp
  clear hr htn hpa hvl hvn hns
  go_wp2_with fail
  go_loopw [5, 30] (fun v5 v30 wr => ∃ (j : Nat) (T : ByteArray), v5 = .string T ∧ v30 = .int .i64 (j : Int) ∧ j ≤ n1 ∧ Hid (LnI w wr s1 A1 n1 ca1 B1 k1 cb1 m' ∧ Str T (hdT m'.name (m'.vals.take j)))) (fun _ v30 _ => n1 - (intOf v30).toNat)
  case atStart => exact ⟨0, s1, rfl, rfl, by omega, ⟨HLN.out, HNS.out⟩⟩
  case round =>
    obtain ⟨j, T, rfl, rfl, hjn, hrel⟩ := hrel
    clear HLN HNS
    have g0 : (0 : Int) ≤ (j : Int) := by omega
    by_cases hlt : j < n1
    · have hlt' : (j : Int) < (n1 : Int) := by omega
      have hjv : j < m'.vals.length := by rw [HPA.out.2.2]; exact hlt
      obtain ⟨b, off, nx, y, zz, eA, d0, d1, d2, hdl⟩ := hrel.out.1.met.vals.get hjv
      subst eA
      obtain ⟨dd, hdd⟩ : ∃ dd, m'.vals[j] = dd := ⟨_, rfl⟩
      rw [hdd] at hdl
      obtain ⟨rfl, rfl, rfl⟩ : nx = dd.neg ∧ y = (dd.c : Int) ∧ zz = dd.e := ⟨hdl.neg, hdl.c, hdl.e⟩
      have hone : dd.One := by rw [← hdd]; exact HR.out.1.vals _ (List.getElem_mem hjv)
      have hTl : (T.size : Int) ≤ 8192 := by
        rw [hrel.out.2.size]
        have := joinTail_take m'.vals j m'.name
        have := HPA.out.1
        omega
      have hxl := Dc.text_length hone
      have e0 := Box.new wr 51 [.bool dd.neg, .int .u64 dd.c, .int .i64 dd.e]
      have q0 := e0.cell 0
      have q1 := e0.cell 1
      have q2 := e0.cell 2
      simp only [List.getElem?_cons_zero, List.getElem?_cons_succ] at q0 q1 q2
      have HL2 := Lib.hid (hrel.out.1.alloc (.cells #[.bool dd.neg, .int .u64 dd.c, .int .i64 dd.e] 51))
      have HTX := Lib.hid (Dc.text_calls dd hone.fits _ (HT.out.keep HL2.out.kept))
      rw [Dc.check_ok.2 hone] at HTX
      simp only [if_true] at HTX
      unfold Dc.dV at HTX
      have HD := Lib.hid (And.intro hdd (And.intro hrel.out.2 hxl))
      clear hrel hdl hone hdd hxl e0
      go_wp2_with fail
      refine HTX.out.mono ?_
      rintro e w3 ⟨v, rfl, hv, hb⟩
      have HL3 := Lib.hid (HL2.out.next hb)
      have hvz : (v.size : Int) ≤ 39 := by rw [hv.size]; have := HD.out.2.2; omega
      have HV := Lib.hid hv
      have z1 : ((⟨#[58]⟩ : ByteArray).size : Int) = 1 := rfl
      clear hb hv HL2 HTX d0 d1 d2 q0 q1 q2
      go_wp2_with fail
      refine ⟨⟨j + 1, T ++ (⟨#[58]⟩ ++ v), rfl, by go_num, by omega, ⟨HL3.out, ?_⟩⟩, by simp [intOf]; omega⟩
      rw [List.take_succ_eq_append_getElem hjv, hdT_snoc, HD.out.1]
      have := HD.out.2.1.append ((show Str ⟨#[58]⟩ [58] from rfl).append HV.out)
      simpa using this
    · have hlt' : ¬ (j : Int) < (n1 : Int) := by omega
      have HL3 := Lib.hid hrel.out.1
      have hT := hrel.out.2
      rw [List.take_of_length_le (by rw [HPA.out.2.2]; omega)] at hT
      have HTT := Lib.hid hT
      have hTz : (T.size : Int) ≤ 8192 := by rw [hT.size]; have := HPA.out.1; omega
      clear hrel hT
      obtain ⟨c0, c1, c2, c3, c4, c5⟩ := HL3.out.six
      obtain ⟨u, hu⟩ : ∃ u : ByteArray, u = ⟨(wordD m'.kind).toArray⟩ := ⟨_, rfl⟩
      have hus : Str u (wordD m'.kind) := by rw [hu]; exact Str.mk _
      have huz : (u.size : Int) ≤ 2 := by rw [hus.size]; have := (wordD_len HR.out.1.kind).2; omega
      have hck : codeDW m'.kind = 0 := if_pos HR.out.1.kind
      have HW := Lib.hid (fun W => oword_calls m'.kind W)
      rw [hck, ← hu] at HW
      have z1 : ((⟨#[124]⟩ : ByteArray).size : Int) = 1 := rfl
      have z2 : ((⟨#[124, 64]⟩ : ByteArray).size : Int) = 2 := rfl
      have z3 : ((⟨#[124, 35]⟩ : ByteArray).size : Int) = 2 := rfl
      have z4 : ((⟨#[124, 84]⟩ : ByteArray).size : Int) = 2 := rfl
      have HT1 := Lib.hid (show Str (T ++ (⟨#[124]⟩ ++ u)) (hdT m'.name m'.vals ++ 124 :: wordD m'.kind) by
        have := HTT.out.append ((show Str ⟨#[124]⟩ [124] from rfl).append hus)
        simpa using this)
      clear hu hus hck
      go_wp2_with fail
      refine (HW.out _).mono ?_
      rintro e w4 ⟨rfl, rfl⟩
      clear HW
      go_upto_if 56 with fail
      go_cut [5] from 17 (fun s5 wx => ∃ T1 : ByteArray, s5 = .string T1 ∧ Hid (LnI w wx s1 A1 n1 ca1 B1 k1 cb1 m' ∧ Str T1 (hdT m'.name m'.vals ++ 124 :: (wordD m'.kind ++ rateB m'.rate))))
      case first =>
        by_cases hr : m'.rate = 1000000
        · have hrb : (m'.rate != 1000000) = false := by simp [hr]
          have HF := Lib.hid (show rateB m'.rate = [] by rw [hr]; rfl)
          clear hr
          go_wp2_with fail
          go_meet
          exact ⟨_, rfl, ⟨HL3.out, by rw [HF.out, List.append_nil]; exact HT1.out⟩⟩
        · have hrb : (m'.rate != 1000000) = true := by simpa using hr
          have HF := Lib.hid (rateB_no hr)
          have hrt : textR m'.rate = rateText m'.rate.toNat ∧ errR m'.rate = 0 := by
            have := HR.out.1.rate
            have e0 : isRate m'.rate = true := by unfold isRate; exact decide_eq_true ⟨this.1, this.2.1⟩
            exact ⟨by unfold textR; rw [e0]; rfl, by unfold errR; rw [e0]; rfl⟩
          have HRT := Lib.hid (ratetext_calls m'.rate wr (HT.out.keep HL3.out.kept))
          unfold Told2 at HRT
          rw [hrt.1, hrt.2] at HRT
          obtain ⟨v, hv⟩ : ∃ v : ByteArray, v = ⟨(rateText m'.rate.toNat).toArray⟩ := ⟨_, rfl⟩
          rw [← hv] at HRT
          have hvs : Str v (rateText m'.rate.toNat) := by rw [hv]; exact Str.mk _
          have hvz : (v.size : Int) ≤ 8 := by
            rw [hvs.size]
            have := HR.out.1.rate
            have := (rateText_len (n := m'.rate.toNat) (by omega) (by omega)).2
            omega
          have HT2 := Lib.hid (show Str (T ++ (⟨#[124]⟩ ++ u) ++ (⟨#[124, 64]⟩ ++ v)) (hdT m'.name m'.vals ++ 124 :: (wordD m'.kind ++ rateB m'.rate)) by
            have := HT1.out.append ((show Str ⟨#[124, 64]⟩ [124, 64] from rfl).append hvs)
            rw [HF.out]
            simpa using this)
          clear hr hv hvs hrt HF
          go_wp2_with fail
          refine HRT.out.mono ?_
          rintro e w5 ⟨rfl, hb⟩
          have HL5 := Lib.hid (HL3.out.next hb)
          clear hb HRT
          go_wp2_with fail
          go_meet
          exact ⟨_, rfl, ⟨HL5.out, HT2.out⟩⟩
      case rest =>
      obtain ⟨T1, rfl, hcut⟩ := hcut
      have HL4 := Lib.hid hcut.out.1
      have HT2 := Lib.hid hcut.out.2
      have hT1z : (T1.size : Int) ≤ 8192 := by
        rw [hcut.out.2.size]
        have := HPA.out.1
        simp only [List.length_append, List.length_cons]
        omega
      obtain ⟨wd, hwd⟩ : ∃ wd, wd = wc := ⟨_, rfl⟩
      subst hwd
      clear hcut HL3 HT1 c0 c1 c2 c3 c4 c5 hTz HTT
      obtain ⟨c0, c1, c2, c3, c4, c5⟩ := HL4.out.six
      go_upto_if 70 with fail
      go_cut [5] from 17 (fun s5 wx => ∃ T1 : ByteArray, s5 = .string T1 ∧ Hid (LnI w wx s1 A1 n1 ca1 B1 k1 cb1 m' ∧ Str T1 (hdT m'.name m'.vals ++ 124 :: (wordD m'.kind ++ (rateB m'.rate ++ tagsB m'.tags)))))
      case first =>
        have htl := HL4.out.met.tlen
        by_cases hr : m'.tags = []
        · obtain rfl : k1 = 0 := by rw [← htl, hr]; rfl
          have HF := Lib.hid (show tagsB m'.tags = [] by rw [hr]; rfl)
          clear hr htl
          go_wp2_with fail
          go_meet
          exact ⟨_, rfl, ⟨HL4.out, by rw [HF.out, List.append_nil]; exact HT2.out⟩⟩
        · have hkp : (0 : Int) < (k1 : Int) := by have := List.length_pos_iff.2 hr; omega
          have HF := Lib.hid (tagsB_no hr)
          have HTT := Lib.hid (text_of_calls (cap := cb1) htl HL4.out.met.tags (by have := HR.out.1.tags.1; omega) (fun i hi => by
            have := right_parts (HR.out.1.tags.2 _ (List.getElem_mem hi))
            have h1 := this.1.2.1
            have h2 := this.2.1
            omega))
          have hbt : badT m'.tags = none := badT_none fun _ hi => HR.out.1.tags.2 _ (List.getElem_mem hi)
          have htz : (textT m'.tags).length ≤ 8192 := by
            have := HPA.out.1
            rw [HF.out] at this
            simp only [List.length_cons] at this
            omega
          have HZ := Lib.hid htz
          unfold TextP at HTT
          rw [hbt] at HTT
          clear hr htl hbt htz
          go_wp2_with fail
          refine HTT.out.mono ?_
          rintro e w5 ⟨hb, v, rfl, hvs⟩
          have HL5 := Lib.hid (HL4.out.next hb)
          have hvz : (v.size : Int) ≤ 8192 := by rw [hvs.size]; have := HZ.out; omega
          have HT3 := Lib.hid (show Str (T1 ++ (⟨#[124, 35]⟩ ++ v)) (hdT m'.name m'.vals ++ 124 :: (wordD m'.kind ++ (rateB m'.rate ++ tagsB m'.tags))) by
            have := HT2.out.append ((show Str ⟨#[124, 35]⟩ [124, 35] from rfl).append hvs)
            rw [HF.out]
            simpa using this)
          clear hb HTT hvs
          go_wp2_with fail
          go_meet
          exact ⟨_, rfl, ⟨HL5.out, HT3.out⟩⟩
      case rest =>
      obtain ⟨T2, rfl, hcut⟩ := hcut
      have HL5 := Lib.hid hcut.out.1
      have HT3 := Lib.hid hcut.out.2
      have hT2z : (T2.size : Int) ≤ 8192 := by
        rw [hcut.out.2.size]
        have := HPA.out.1
        simp only [List.length_append, List.length_cons]
        omega
      obtain ⟨we, hwe⟩ : ∃ we, we = wc := ⟨_, rfl⟩
      subst hwe
      clear hcut HL4 HT2 c0 c1 c2 c3 c4 c5 hT1z
      obtain ⟨c0, c1, c2, c3, c4, c5⟩ := HL5.out.six
      have HP := Lib.hid (lineD_parts m')
      by_cases hr : m'.time = 0
      · have hrb : (m'.time != 0) = false := by simp [hr]
        have HF := Lib.hid (show T2 = ⟨L.toArray⟩ by
          rw [HE.out, HP.out, show timeB m'.time = [] by rw [hr]; rfl, List.append_nil]
          exact HT3.out.eq)
        clear hr
        go_wp2_with fail
        go_ret2
        exact ⟨by rw [← HF.out]; first | done | rfl, HL5.out.kept⟩
      · have hrb : (m'.time != 0) = true := by simpa using hr
        have HI := Lib.hid (show Calls Tryz.prog 28 #[.int .i64 m'.time] we fun e w' => e = .returned (.string ⟨(Lib.decDigits m'.time.toNat).toArray⟩) ∧ Below we.heap.size we w' by
          have ht := HR.out.1.time
          have := itoa_calls m'.time.toNat (by have : MaxT = 1099511627776 := rfl; omega) we (HT.out.keep HL5.out.kept)
          rw [Int.toNat_of_nonneg ht.1] at this
          exact this)
        obtain ⟨v, hv⟩ : ∃ v : ByteArray, v = ⟨(Lib.decDigits m'.time.toNat).toArray⟩ := ⟨_, rfl⟩
        rw [← hv] at HI
        have hvs : Str v (Lib.decDigits m'.time.toNat) := by rw [hv]; exact Str.mk _
        have hvz : (v.size : Int) ≤ 13 := by rw [hvs.size]; have := time_len HR.out.1.time; omega
        have HF := Lib.hid (show T2 ++ (⟨#[124, 84]⟩ ++ v) = ⟨L.toArray⟩ by
          rw [HE.out, HP.out, timeB_no hr]
          have := HT3.out.append ((show Str ⟨#[124, 84]⟩ [124, 84] from rfl).append hvs)
          rw [this.eq]
          simp)
        clear hr hv hvs
        go_wp2_with fail
        refine HI.out.mono ?_
        rintro e w6 ⟨rfl, hb⟩
        have HL6 := Lib.hid (HL5.out.next hb)
        clear hb HI
        go_wp2_with fail
        go_ret2
        exact ⟨by rw [← HF.out]; first | done | rfl, HL6.out.kept⟩
end Go.Proofs.YtbcmchkgamkceaaGreatDoor
