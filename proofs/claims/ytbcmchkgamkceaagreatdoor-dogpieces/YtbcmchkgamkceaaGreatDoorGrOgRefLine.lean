/-
  OgRefLine, OgAwake, OgLaw. No statement of the seat is proved here.
-/
import Derived.Test.YtbcmchkgamkceaaGreatDoorOgDLine
import Derived.Test.YtbcmchkgamkceaaGreatDoorOgRefT
import Derived.Test.YtbcmchkgamkceaaGreatDoorDRefText
import Derived.Test.YtbcmchkgamkceaaGreatDoorGrNRefRate
import Derived.Lib.QuietBelow
import Derived.RegionTactic
import Derived.ChangeAlike
import Derived.BigRegion
import Derived.Deep.RegionHeld3
import Derived.Test.YtbcmchkgamkceaaGreatDoorGrOgMore
import Derived.Test.YtbcmchkgamkceaaGreatDoorGrMRef1
import Derived.Deep.DeepCutAuto
import Derived.Deep.CutBlock
/-
  The document's Line of a metric in its one form. No statement of the seat is proved here.
-/
namespace Go.Proofs.YtbcmchkgamkceaaGreatDoor
open Go.RowKit Go.Sort
open Dc (D D0)

set_option maxRecDepth 100000 in
set_option maxHeartbeats 4000000 in
theorem rdline_calls {w : World} {s : ByteArray} {A B : Option Addr} {n k ca cb : Nat} {m : Mt} (h : MIs w s A n B k m) (hr : RightM m) :
    Calls Tryz.prog 17 #[.agg #[.string s, .int .i64 m.kind, .slice A n ca, .int .i64 m.rate, .slice B k cb, .int .i64 m.time]] w fun e w' => e = .returned (.string ⟨(lineD m).toArray⟩) ∧ Below w.heap.size w w' := by
  obtain ⟨L, hL⟩ : ∃ L, lineD m = L := ⟨_, rfl⟩
  rw [hL]
  have HLL := Lib.hid (show L = hdT m.name m.vals ++ 124 :: (wordD m.kind ++ (rateB m.rate ++ (tagsB m.tags ++ timeB m.time))) by rw [← hL]; exact lineD_parts m)
  have hk0 := (Below.refl w.heap.size w).alloc (Nat.le_refl _) (.cells #[.string s, .int .i64 m.kind, .slice A n ca, .int .i64 m.rate, .slice B k cb, .int .i64 m.time] 35)
  have HLN := Lib.hid (show LnI w (w.alloc (.cells #[.string s, .int .i64 m.kind, .slice A n ca, .int .i64 m.rate, .slice B k cb, .int .i64 m.time] 35)) s A n ca B k cb m from
    ⟨hk0, Box.new w 35 [.string s, .int .i64 m.kind, .slice A n ca, .int .i64 m.rate, .slice B k cb, .int .i64 m.time], h.keep hk0⟩)
  have HR := Lib.hid hr
  have hpa := hr.parts
  have hvl := hr.many
  have hvn := h.vlen
  have gv : (0 : Int) ≤ (n : Int) ∧ (n : Int) ≤ 64 := by omega
  have HPA := Lib.hid (And.intro hpa (And.intro hvl hvn))
  have HNS := Lib.hid (show Str s (hdT m.name (m.vals.take 0)) by rw [List.take_zero, hdT_nil]; exact h.name)
  have za : ∀ a b : ByteArray, (a ++ b).size = a.size + b.size := fun a b => by simp
  obtain ⟨c0, c1, c2, c3, c4, c5⟩ := HLN.out.six
  clear h hr hL hk0 hpa hvl hvn
  go_enter Tryz.func17, Tryz.ntmps17
  go_wp2_with fail
  go_loopw [3, 4] (fun v4 v5 wr => ∃ (j : Nat) (T : ByteArray), v4 = .string T ∧ v5 = .int .i64 (j : Int) ∧ j ≤ n ∧ Hid (LnI w wr s A n ca B k cb m ∧ Str T (hdT m.name (m.vals.take j)))) (fun _ v5 _ => n - (intOf v5).toNat)
  case atStart => exact ⟨0, s, rfl, rfl, by omega, ⟨HLN.out, HNS.out⟩⟩
  case round =>
    obtain ⟨j, T, rfl, rfl, hjn, hrel⟩ := hrel
    clear HLN HNS c0 c1 c2 c3 c4 c5
    have g0 : (0 : Int) ≤ (j : Int) := by omega
    obtain ⟨c0, c1, c2, c3, c4, c5⟩ := hrel.out.1.six
    by_cases hlt : j < n
    · have hlt' : (j : Int) < (n : Int) := by omega
      have hjv : j < m.vals.length := by rw [HPA.out.2.2]; exact hlt
      obtain ⟨b, off, nx, y, zz, eA, d0, d1, d2, hdl⟩ := hrel.out.1.met.vals.get hjv
      subst eA
      obtain ⟨dd, hdd⟩ : ∃ dd, m.vals[j] = dd := ⟨_, rfl⟩
      rw [hdd] at hdl
      obtain ⟨rfl, rfl, rfl⟩ : nx = dd.neg ∧ y = (dd.c : Int) ∧ zz = dd.e := ⟨hdl.neg, hdl.c, hdl.e⟩
      have hone : dd.One := by rw [← hdd]; exact HR.out.vals _ (List.getElem_mem hjv)
      have hTl : (T.size : Int) ≤ 8192 := by
        rw [hrel.out.2.size]
        have := joinTail_take m.vals j m.name
        have := HPA.out.1
        omega
      have hxl := Dc.text_length hone
      have hvs := Str.mk (Dc.text dd)
      have hT : ∀ W, Calls Tryz.prog 32 #[.agg #[.bool dd.neg, .int .u64 dd.c, .int .i64 dd.e]] W fun e w' => e = .returned (.string ⟨(Dc.text dd).toArray⟩) ∧ Below W.heap.size W w' := fun W =>
        (Dc.rtext_calls dd hone W).mono fun e w' ⟨t, e1, ht, hb⟩ => ⟨by rw [e1, ht.eq], hb⟩
      have HQT := Lib.hid hT
      generalize (⟨(Dc.text dd).toArray⟩ : ByteArray) = v at hvs HQT
      have hvz : (v.size : Int) ≤ 39 := by rw [hvs.size]; omega
      have z1 : ((⟨#[58]⟩ : ByteArray).size : Int) = 1 := rfl
      have HD := Lib.hid (And.intro hdd (And.intro hrel.out.2 hvs))
      have HL2 := Lib.hid hrel.out.1
      clear hrel hdl hone hdd hxl hT hvs
      go_wp2_with fail
      refine (HQT.out _).mono ?_
      rintro e w3 ⟨rfl, hb⟩
      have HL3 := Lib.hid (HL2.out.next hb)
      clear hb HL2 HQT c0 c1 c2 c3 c4 c5 d0 d1 d2
      go_wp2_with fail
      refine ⟨⟨j + 1, T ++ ⟨#[58]⟩ ++ v, rfl, by go_num, by omega, ⟨HL3.out, ?_⟩⟩, by simp [intOf]; omega⟩
      rw [List.take_succ_eq_append_getElem hjv, hdT_snoc, HD.out.1]
      have := (HD.out.2.1.append (show Str ⟨#[58]⟩ [58] from rfl)).append HD.out.2.2
      simpa using this
    · have hlt' : ¬ (j : Int) < (n : Int) := by omega
      have HL3 := Lib.hid hrel.out.1
      have hT := hrel.out.2
      rw [List.take_of_length_le (by rw [HPA.out.2.2]; omega)] at hT
      have HTT := Lib.hid hT
      have hTz : (T.size : Int) ≤ 8192 := by rw [hT.size]; have := HPA.out.1; omega
      obtain ⟨u, hu⟩ : ∃ u : ByteArray, u = ⟨(wordD m.kind).toArray⟩ := ⟨_, rfl⟩
      have hus : Str u (wordD m.kind) := by rw [hu]; exact Str.mk _
      have huz : u.size ≤ 2 := by rw [hus.size]; exact (wordD_len HR.out.kind).2
      have hTn : T.size ≤ 8192 := by omega
      have hg1 : ¬ 9223372036854775807 < T.size + 1 := by omega
      have hg2 : ¬ 9223372036854775807 < T.size + (⟨#[124]⟩ : ByteArray).size := by have : (⟨#[124]⟩ : ByteArray).size = 1 := rfl; omega
      have hg3 : ¬ 9223372036854775807 < (T ++ (⟨#[124]⟩ : ByteArray)).size + u.size := by have : (⟨#[124]⟩ : ByteArray).size = 1 := rfl; rw [za]; omega
      have hg4 : ¬ 9223372036854775807 < T.size + 1 + u.size := by omega
      have z1 : ((⟨#[124]⟩ : ByteArray).size : Int) = 1 := rfl
      have HU := Lib.hid (And.intro hu hus)
      have HT1 := Lib.hid (show Str (T ++ ⟨#[124]⟩ ++ u) (hdT m.name m.vals ++ 124 :: wordD m.kind) by
        have := (HTT.out.append (show Str ⟨#[124]⟩ [124] from rfl)).append hus
        simpa using this)
      clear hrel hT hu hus
      go_upto_region 6 with fail
      go_cut [3] from 5 (fun s3 wx => s3 = .string (T ++ ⟨#[124]⟩ ++ u) ∧ Hid (LnI w wx s A n ca B k cb m))
      case first =>
        have hkc := HR.out.kind
        rcases (by omega : m.kind = 1 ∨ m.kind = 2 ∨ m.kind = 3 ∨ m.kind = 4 ∨ m.kind = 5) with hk | hk | hk | hk | hk
        · have HKN := Lib.hid hk
          have HWD := Lib.hid (show words5[0]? = some (.string u) by rw [HU.out.1, hk]; rfl)
          rw [hk] at c1
          clear hk hkc
          go_region_with (go_at_call 12; refine (rwords_calls _).mono ?_; rintro e w4 ⟨rfl, hbx, hb⟩; have hb' := below_then (Same.below (Same.drewN wr 1)) hb; have HL4 := Lib.hid (HL3.out.next hb'); have c1 : w4.cell? ⟨w.heap.size, 1, none⟩ = some (.int .i64 1) := (by rw [← HKN.out]; exact HL4.out.six.2.1); have q0 : w4.cell? ⟨wr.heap.size, 0, none⟩ = some (.string u) := (by rw [← HWD.out]; exact hbx.cell 0); clear hbx hb hb')
          all_goals
            go_wp2_with fail
            go_meet
            exact ⟨rfl, HL4⟩
        · have HKN := Lib.hid hk
          have HWD := Lib.hid (show words5[1]? = some (.string u) by rw [HU.out.1, hk]; rfl)
          rw [hk] at c1
          clear hk hkc
          go_region_with (go_at_call 12; refine (rwords_calls _).mono ?_; rintro e w4 ⟨rfl, hbx, hb⟩; have hb' := below_then (Same.below (Same.drewN wr 1)) hb; have HL4 := Lib.hid (HL3.out.next hb'); have c1 : w4.cell? ⟨w.heap.size, 1, none⟩ = some (.int .i64 2) := (by rw [← HKN.out]; exact HL4.out.six.2.1); have q0 : w4.cell? ⟨wr.heap.size, 1, none⟩ = some (.string u) := (by rw [← HWD.out]; exact hbx.cell 1); clear hbx hb hb')
          all_goals
            go_wp2_with fail
            go_meet
            exact ⟨rfl, HL4⟩
        · have HKN := Lib.hid hk
          have HWD := Lib.hid (show words5[2]? = some (.string u) by rw [HU.out.1, hk]; rfl)
          rw [hk] at c1
          clear hk hkc
          go_region_with (go_at_call 12; refine (rwords_calls _).mono ?_; rintro e w4 ⟨rfl, hbx, hb⟩; have hb' := below_then (Same.below (Same.drewN wr 1)) hb; have HL4 := Lib.hid (HL3.out.next hb'); have c1 : w4.cell? ⟨w.heap.size, 1, none⟩ = some (.int .i64 3) := (by rw [← HKN.out]; exact HL4.out.six.2.1); have q0 : w4.cell? ⟨wr.heap.size, 2, none⟩ = some (.string u) := (by rw [← HWD.out]; exact hbx.cell 2); clear hbx hb hb')
          all_goals
            go_wp2_with fail
            go_meet
            exact ⟨rfl, HL4⟩
        · have HKN := Lib.hid hk
          have HWD := Lib.hid (show words5[3]? = some (.string u) by rw [HU.out.1, hk]; rfl)
          rw [hk] at c1
          clear hk hkc
          go_region_with (go_at_call 12; refine (rwords_calls _).mono ?_; rintro e w4 ⟨rfl, hbx, hb⟩; have hb' := below_then (Same.below (Same.drewN wr 1)) hb; have HL4 := Lib.hid (HL3.out.next hb'); have c1 : w4.cell? ⟨w.heap.size, 1, none⟩ = some (.int .i64 4) := (by rw [← HKN.out]; exact HL4.out.six.2.1); have q0 : w4.cell? ⟨wr.heap.size, 3, none⟩ = some (.string u) := (by rw [← HWD.out]; exact hbx.cell 3); clear hbx hb hb')
          all_goals
            go_wp2_with fail
            go_meet
            exact ⟨rfl, HL4⟩
        · have HKN := Lib.hid hk
          have HWD := Lib.hid (show words5[4]? = some (.string u) by rw [HU.out.1, hk]; rfl)
          rw [hk] at c1
          clear hk hkc
          go_region_with (go_at_call 12; refine (rwords_calls _).mono ?_; rintro e w4 ⟨rfl, hbx, hb⟩; have hb' := below_then (Same.below (Same.drewN wr 1)) hb; have HL4 := Lib.hid (HL3.out.next hb'); have c1 : w4.cell? ⟨w.heap.size, 1, none⟩ = some (.int .i64 5) := (by rw [← HKN.out]; exact HL4.out.six.2.1); have q0 : w4.cell? ⟨wr.heap.size, 4, none⟩ = some (.string u) := (by rw [← HWD.out]; exact hbx.cell 4); clear hbx hb hb')
          all_goals
            go_wp2_with fail
            go_meet
            exact ⟨rfl, HL4⟩
      case rest =>
      obtain ⟨rfl, hcut⟩ := hcut
      have HL4 := Lib.hid hcut.out
      obtain ⟨wd, hwd⟩ : ∃ wd, wd = wc := ⟨_, rfl⟩
      subst hwd
      have hT1s := HT1.out
      generalize T ++ ⟨#[124]⟩ ++ u = T1 at HT1 hT1s ⊢
      have hT1z : (T1.size : Int) ≤ 8192 := by
        rw [hT1s.size]
        have := HPA.out.1
        simp only [List.length_append, List.length_cons]
        omega
      have z2 : ((⟨#[124, 64]⟩ : ByteArray).size : Int) = 2 := rfl
      have z3 : ((⟨#[124, 35]⟩ : ByteArray).size : Int) = 2 := rfl
      have z4 : ((⟨#[124, 84]⟩ : ByteArray).size : Int) = 2 := rfl
      clear hcut HL3 hT1s c0 c1 c2 c3 c4 c5 hTz HTT HU huz hTn hg1 hg2 hg3 hg4
      obtain ⟨c0, c1, c2, c3, c4, c5⟩ := HL4.out.six
      go_upto_if 34 with fail
      go_cut [3] from 5 (fun s3 wx => ∃ T1 : ByteArray, s3 = .string T1 ∧ Hid (LnI w wx s A n ca B k cb m ∧ Str T1 (hdT m.name m.vals ++ 124 :: (wordD m.kind ++ rateB m.rate))))
      case first =>
        by_cases hr : m.rate = 1000000
        · have hrb : (m.rate != 1000000) = false := by simp [hr]
          have HF := Lib.hid (show rateB m.rate = [] by rw [hr]; rfl)
          clear hr
          go_wp2_with fail
          go_meet
          exact ⟨_, rfl, ⟨HL4.out, by rw [HF.out, List.append_nil]; exact HT1.out⟩⟩
        · have hrb : (m.rate != 1000000) = true := by simpa using hr
          have HF := Lib.hid (rateB_no hr)
          have HRT := Lib.hid (fun W => rratetext_calls m.rate HR.out.rate.1 HR.out.rate.2.1 W)
          obtain ⟨v, hv⟩ : ∃ v : ByteArray, v = ⟨(rateText m.rate.toNat).toArray⟩ := ⟨_, rfl⟩
          rw [← hv] at HRT
          have hvs : Str v (rateText m.rate.toNat) := by rw [hv]; exact Str.mk _
          have hvz : (v.size : Int) ≤ 8 := by
            rw [hvs.size]
            have := HR.out.rate
            have := (rateText_len (n := m.rate.toNat) (by omega) (by omega)).2
            omega
          have HT2 := Lib.hid (show Str (T1 ++ ⟨#[124, 64]⟩ ++ v) (hdT m.name m.vals ++ 124 :: (wordD m.kind ++ rateB m.rate)) by
            have := (HT1.out.append (show Str ⟨#[124, 64]⟩ [124, 64] from rfl)).append hvs
            rw [HF.out]
            simpa using this)
          clear hr hv hvs HF
          go_wp2_with fail
          refine (HRT.out _).mono ?_
          rintro e w5 ⟨rfl, hb⟩
          have HL5 := Lib.hid (HL4.out.next hb)
          clear hb HRT
          go_wp2_with fail
          go_meet
          exact ⟨_, rfl, ⟨HL5.out, HT2.out⟩⟩
      case rest =>
      obtain ⟨T2, rfl, hcut⟩ := hcut
      have HL5 := Lib.hid hcut.out.1
      have HT2 := Lib.hid hcut.out.2
      have hT2z : (T2.size : Int) ≤ 8192 := by
        rw [hcut.out.2.size]
        have := HPA.out.1
        simp only [List.length_append, List.length_cons]
        omega
      obtain ⟨we, hwe⟩ : ∃ we, we = wc := ⟨_, rfl⟩
      subst hwe
      clear hcut HL4 HT1 c0 c1 c2 c3 c4 c5 hT1z
      obtain ⟨c0, c1, c2, c3, c4, c5⟩ := HL5.out.six
      go_upto_if 44 with fail
      go_cut [3] from 5 (fun s3 wx => ∃ T1 : ByteArray, s3 = .string T1 ∧ Hid (LnI w wx s A n ca B k cb m ∧ Str T1 (hdT m.name m.vals ++ 124 :: (wordD m.kind ++ (rateB m.rate ++ tagsB m.tags)))))
      case first =>
        have htl := HL5.out.met.tlen
        by_cases hr : m.tags = []
        · obtain rfl : k = 0 := by rw [← htl, hr]; rfl
          have HF := Lib.hid (show tagsB m.tags = [] by rw [hr]; rfl)
          clear hr htl
          go_wp2_with fail
          go_meet
          exact ⟨_, rfl, ⟨HL5.out, by rw [HF.out, List.append_nil]; exact HT2.out⟩⟩
        · have hkp : (0 : Int) < (k : Int) := by have := List.length_pos_iff.2 hr; omega
          have HF := Lib.hid (tagsB_no hr)
          have htk : ∀ i, (textT (m.tags.take i)).length ≤ 100000 := fun i => by
            have h1 := tags_len (m.tags.take i) (fun t ht => HR.out.tags.2 t (List.mem_of_mem_take ht))
            have h2 := HR.out.tags.1
            unfold textT
            rw [List.length_take] at h1
            omega
          have HTT := Lib.hid (rttext_calls (cap := cb) htl HL5.out.met.tags (by have := HR.out.tags.1; omega) (fun t ht => by
            have := right_parts (HR.out.tags.2 _ ht)
            have h1 := this.1.2.1
            have h2 := this.2.1
            omega) htk)
          have htz : (textT m.tags).length ≤ 8192 := by
            have := HPA.out.1
            rw [HF.out] at this
            simp only [List.length_cons] at this
            omega
          obtain ⟨v, hv⟩ : ∃ v : ByteArray, v = ⟨(textT m.tags).toArray⟩ := ⟨_, rfl⟩
          rw [← hv] at HTT
          have hvs : Str v (textT m.tags) := by rw [hv]; exact Str.mk _
          have hvz : (v.size : Int) ≤ 8192 := by rw [hvs.size]; omega
          have HT3 := Lib.hid (show Str (T2 ++ ⟨#[124, 35]⟩ ++ v) (hdT m.name m.vals ++ 124 :: (wordD m.kind ++ (rateB m.rate ++ tagsB m.tags))) by
            have := (HT2.out.append (show Str ⟨#[124, 35]⟩ [124, 35] from rfl)).append hvs
            rw [HF.out]
            simpa using this)
          clear hr htl htz htk hv hvs HF
          go_wp2_with fail
          refine HTT.out.mono ?_
          rintro e w5 ⟨rfl, hb⟩
          have HL6 := Lib.hid (HL5.out.next hb)
          clear hb HTT
          go_wp2_with fail
          go_meet
          exact ⟨_, rfl, ⟨HL6.out, HT3.out⟩⟩
      case rest =>
      obtain ⟨T3, rfl, hcut⟩ := hcut
      have HL6 := Lib.hid hcut.out.1
      have HT3 := Lib.hid hcut.out.2
      have hT3z : (T3.size : Int) ≤ 8192 := by
        rw [hcut.out.2.size]
        have := HPA.out.1
        simp only [List.length_append, List.length_cons]
        omega
      obtain ⟨wf, hwf⟩ : ∃ wf, wf = wc := ⟨_, rfl⟩
      subst hwf
      clear hcut HL5 HT2 c0 c1 c2 c3 c4 c5 hT2z
      obtain ⟨c0, c1, c2, c3, c4, c5⟩ := HL6.out.six
      by_cases hr : m.time = 0
      · have hrb : (m.time != 0) = false := by simp [hr]
        have HF := Lib.hid (show T3 = ⟨L.toArray⟩ by
          rw [HLL.out, show timeB m.time = [] by rw [hr]; rfl, List.append_nil]
          exact HT3.out.eq)
        clear hr
        go_wp2_with fail
        go_ret
        exact ⟨by rw [← HF.out]; first | done | rfl, HL6.out.kept⟩
      · have hrb : (m.time != 0) = true := by simpa using hr
        have HI := Lib.hid (fun W => rtext5_calls m.time HR.out.time.1 (by have : MaxT = 1099511627776 := rfl; have := HR.out.time.2; omega) W)
        obtain ⟨v, hv⟩ : ∃ v : ByteArray, v = ⟨(Lib.decDigits m.time.toNat).toArray⟩ := ⟨_, rfl⟩
        rw [← hv] at HI
        have hvs : Str v (Lib.decDigits m.time.toNat) := by rw [hv]; exact Str.mk _
        have hvz : (v.size : Int) ≤ 13 := by rw [hvs.size]; have := time_len HR.out.time; omega
        have HF := Lib.hid (show T3 ++ ⟨#[124, 84]⟩ ++ v = ⟨L.toArray⟩ by
          rw [HLL.out, timeB_no hr]
          have := (HT3.out.append (show Str ⟨#[124, 84]⟩ [124, 84] from rfl)).append hvs
          rw [this.eq]
          simp)
        clear hr hv hvs
        go_wp2_with fail
        refine (HI.out _).mono ?_
        rintro e w6 ⟨rfl, hb⟩
        have HL7 := Lib.hid (HL6.out.next hb)
        clear hb HI
        go_wp2_with fail
        go_ret
        exact ⟨by rw [← HF.out]; first | done | rfl, HL7.out.kept⟩
end Go.Proofs.YtbcmchkgamkceaaGreatDoor

/-
  Layer 11: what the laws call, over what is kept; awake. No statement of the seat is proved here.
-/
namespace Go.Proofs.YtbcmchkgamkceaaGreatDoor
open Go.RowKit Go.Sort
open Dc (D D0)

theorem otells_says {w w' : World} {e : Ending} {x : Mt × Int × Int} {m : Mt} {c a : Int} (hx : x = (m, c, a)) (h : TellsM w x e w') :
    ∃ s A n ca B k cb, e = .returned (.tuple #[.agg #[.string s, .int .i64 m.kind, .slice A n ca, .int .i64 m.rate, .slice B k cb, .int .i64 m.time], .agg #[.int .i64 c, .int .i64 a]]) ∧ MIs w' s A n B k m ∧ Below w.heap.size w w' := by
  subst hx
  exact h
section
variable {w W : World} {L : List (Nat × TypeId × List Value)} {M : List (ByteArray × Option Addr × Nat × Option Addr × Nat × Mt)}
/-- What a call of Parse leaves. -/
def OKb (w : World) (L : List (Nat × TypeId × List Value)) (M : List (ByteArray × Option Addr × Nat × Option Addr × Nat × Mt)) (m : Mt) (c a : Int) (e : Ending) (w' : World) : Prop :=
  ∃ s A n ca B k cb, e = .returned (.tuple #[.agg #[.string s, .int .i64 m.kind, .slice A n ca, .int .i64 m.rate, .slice B k cb, .int .i64 m.time], .agg #[.int .i64 c, .int .i64 a]]) ∧ Kb w L ((s, A, n, B, k, m) :: M) w'
theorem Kb.oparse_ {t : ByteArray} {l : List UInt8} {m : Mt} {c a : Int} (h : Kb w L M W) (hs : Str t l) (hl : l.length ≤ 100000) (hp : parseD l = (m, c, a)) : Calls Tryz.prog 18 #[.string t] W (OKb w L M m c a) :=
  (oparse_any hs hl W).mono fun e w' k => by
    obtain ⟨s, A, n, ca, B, k, cb, he, hm, hb⟩ := otells_says hp k
    exact ⟨s, A, n, ca, B, k, cb, he, (h.next hb).mAdd hm⟩
theorem Kb.orparse_ {t : ByteArray} {l : List UInt8} {m : Mt} {c a : Int} (h : Kb w L M W) (hs : Str t l) (hl : l.length ≤ 100000) (hp : parseD l = (m, c, a)) : Calls Tryz.prog 19 #[.string t] W (OKb w L M m c a) :=
  (rdparse_any hs hl W).mono fun e w' k => by
    obtain ⟨s, A, n, ca, B, k, cb, he, hm, hb⟩ := otells_says hp k
    exact ⟨s, A, n, ca, B, k, cb, he, (h.next hb).mAdd hm⟩
theorem Kb.oline_ {s : ByteArray} {A B : Option Addr} {n k : Nat} {m : Mt} {t : List UInt8} {c : Int} (h : Kb w L M W) (hm : (s, A, n, B, k, m) ∈ M) (z : Small m) (ht : Tab w) (hl : lineO m = t) (hc : codeM m = c) (ca cb : Nat) :
    Calls Tryz.prog 15 #[.agg #[.string s, .int .i64 m.kind, .slice A n ca, .int .i64 m.rate, .slice B k cb, .int .i64 m.time]] W fun e w' => e = .returned (.tuple #[.string ⟨t.toArray⟩, .int .i64 c]) ∧ Kb w L M w' := by
  have := oline_calls (ca := ca) (cb := cb) (h.m hm) z (ht.keep h.kept)
  rw [hl, hc] at this
  exact this.mono fun e w' k => ⟨k.1, h.next k.2⟩
theorem Kb.orline_ {s : ByteArray} {A B : Option Addr} {n k : Nat} {m : Mt} {t : List UInt8} (h : Kb w L M W) (hm : (s, A, n, B, k, m) ∈ M) (hr : RightM m) (hl : lineD m = t) (ca cb : Nat) :
    Calls Tryz.prog 17 #[.agg #[.string s, .int .i64 m.kind, .slice A n ca, .int .i64 m.rate, .slice B k cb, .int .i64 m.time]] W fun e w' => e = .returned (.string ⟨t.toArray⟩) ∧ Kb w L M w' := by
  have := rdline_calls (ca := ca) (cb := cb) (h.m hm) hr
  rw [hl] at this
  exact this.mono fun e w' k => ⟨k.1, h.next k.2⟩
/-- The two blocks that a Metric and a Fault are laid in. -/
theorem Kb.olay2 (h : Kb w L M W) (a b c d e f x y : Value) : Kb w ((W.heap.size + 1, 42, [x, y]) :: (W.heap.size, 35, [a, b, c, d, e, f]) :: L) M ((W.alloc (.cells #[a, b, c, d, e, f] 35)).alloc (.cells #[x, y] 42)) :=
  (h.push 35 [a, b, c, d, e, f]).pushAt (by rw [size_alloc]) 42 [x, y]
end
def mO : Mt := ⟨[97], 3, [⟨false, 1, 0⟩, ⟨false, 25, -1⟩], 500000, [([97], [120]), ([98], [])], 7⟩
theorem ao1 : parseD [97, 58, 49, 58, 50, 46, 53, 48, 124, 109, 115, 124, 64, 48, 46, 53, 124, 35, 98, 44, 97, 58, 120, 124, 84, 55] = (mO, 0, 0) := by decide +kernel
theorem ao2 : parseD [97, 58, 49, 124, 103, 124, 64, 48, 46, 53] = (M0, 18, 6) := by decide +kernel
theorem ao3 : parseD [97, 58, 49, 124, 99, 124, 84, 55, 124, 64, 49] = (M0, 11, 9) := by decide +kernel
theorem ao4 : lineO mO = [97, 58, 49, 58, 50, 46, 53, 124, 109, 115, 124, 64, 48, 46, 53, 124, 35, 97, 58, 120, 44, 98, 124, 84, 55] := by decide +kernel
theorem ao5 : codeM mO = 0 := by decide +kernel
theorem small_mO : Small mO := ⟨by decide, by decide, by
  intro d hd
  simp only [mO, List.mem_cons, List.not_mem_nil, or_false] at hd
  rcases hd with rfl | rfl <;> exact ⟨by decide, by decide, by decide⟩, by decide, by
  intro t ht
  simp only [mO, List.mem_cons, List.not_mem_nil, or_false] at ht
  rcases ht with rfl | rfl <;> exact ⟨by decide, by decide⟩⟩
theorem lies_box {W : World} {g : Nat} {t : TypeId} {cs : List Value} (h : Box W g t cs) : Lies W (some ⟨g, 0, none⟩) cs := fun i u hu => ⟨g, 0, rfl, by rw [Nat.zero_add, h.cell i]; exact hu⟩
set_option maxRecDepth 100000 in
set_option maxHeartbeats 4000000 in
theorem awake11_calls (w : World) (ht : Tab w) : Calls Tryz.prog 9 #[] w fun e w' => e = .returned (.bool true) ∧ Below w.heap.size w w' := by
  have HT := Lib.hid ht
  clear ht
  go_enter Tryz.func9, Tryz.ntmps9
  go_wp2_with fail
  refine ((Kb.start w).oparse_ (l := [97, 58, 49, 58, 50, 46, 53, 48, 124, 109, 115, 124, 64, 48, 46, 53, 124, 35, 98, 44, 97, 58, 120, 124, 84, 55]) (Str.mk _) (by decide) ao1).mono ?_
  rintro e w1 ⟨s1, A1, n1, ca1, B1, k1, cb1, rfl, hb⟩
  simp only [show mO.kind = 3 from rfl, show mO.rate = 500000 from rfl, show mO.time = 7 from rfl]
  have hn1 : n1 = 2 := (hb.m (.head _)).vlen.symm
  have hk1 : k1 = 2 := (hb.m (.head _)).tlen.symm
  subst hn1 hk1
  have HB1 := Lib.hid (hb.olay2 (.string s1) (.int .i64 3) (.slice A1 2 ca1) (.int .i64 500000) (.slice B1 2 cb1) (.int .i64 7) (.int .i64 0) (.int .i64 0))
  clear hb
  have HL := Lib.hid (HB1.out.oline_ (.head _) small_mO HT.out ao4 ao5 ca1 cb1)
  simp only [show mO.kind = 3 from rfl, show mO.rate = 500000 from rfl, show mO.time = 7 from rfl] at HL
  go_wp2_with fail
  refine HL.out.mono ?_
  rintro e w2 ⟨rfl, hb⟩
  have HB2 := Lib.hid hb
  clear hb HL HB1
  go_wp2_with fail
  refine (HB2.out.oparse_ (l := [97, 58, 49, 124, 103, 124, 64, 48, 46, 53]) (Str.mk _) (by decide) ao2).mono ?_
  rintro e w3 ⟨s3, A3, n3, ca3, B3, k3, cb3, rfl, hb⟩
  simp only [show M0.kind = 0 from rfl, show M0.rate = 0 from rfl, show M0.time = 0 from rfl]
  have HB3 := Lib.hid (hb.olay2 (.string s3) (.int .i64 0) (.slice A3 n3 ca3) (.int .i64 0) (.slice B3 k3 cb3) (.int .i64 0) (.int .i64 18) (.int .i64 6))
  clear hb HB2
  go_wp2_with fail
  refine (HB3.out.oparse_ (l := [97, 58, 49, 124, 99, 124, 84, 55, 124, 64, 49]) (Str.mk _) (by decide) ao3).mono ?_
  rintro e w4 ⟨s4, A4, n4, ca4, B4, k4, cb4, rfl, hb⟩
  simp only [show M0.kind = 0 from rfl, show M0.rate = 0 from rfl, show M0.time = 0 from rfl]
  have HB4 := Lib.hid (hb.olay2 (.string s4) (.int .i64 0) (.slice A4 n4 ca4) (.int .i64 0) (.slice B4 k4 cb4) (.int .i64 0) (.int .i64 11) (.int .i64 9))
  clear hb HB3
  have h5 := HB4.out.pushAt (g := w4.heap.size + 2) (by rw [size_alloc, size_alloc]) 51 [.bool false, .int .u64 1, .int .i64 0, .bool false, .int .u64 25, .int .i64 (-1)]
  have h6 := h5.pushAt (g := w4.heap.size + 3) (by rw [size_alloc, size_alloc, size_alloc]) 53 [.string ⟨#[97]⟩, .string ⟨#[120]⟩, .string ⟨#[98]⟩, .string ⟨#[]⟩]
  have hm : MIs _ ⟨#[97]⟩ (some ⟨w4.heap.size + 2, 0, none⟩) 2 (some ⟨w4.heap.size + 3, 0, none⟩) 2 mO := ⟨rfl, rfl, lies_box (h6.box (w4.heap.size + 2, 51, _) (.tail _ (.head _))), rfl, lies_box (h6.box (w4.heap.size + 3, 53, _) (.head _))⟩
  have h7 := (h6.mAdd hm).pushAt (g := w4.heap.size + 4) (by rw [size_alloc, size_alloc, size_alloc, size_alloc]) 35 [.string ⟨#[97]⟩, .int .i64 3, .slice (some ⟨w4.heap.size + 2, 0, none⟩) 2 2, .int .i64 500000, .slice (some ⟨w4.heap.size + 3, 0, none⟩) 2 2, .int .i64 7]
  have HB5 := Lib.hid h7
  clear h5 h6 hm h7
  go_upto_region 6 with fail
  simp only [Nat.add_assoc, Nat.reduceAdd]
  have HQE := Lib.hid (HB5.out.requal_ (x := true) (s := s1) (A := A1) (B := B1) (n := 2) (k := 2) (m := mO) (.tail _ (.tail _ (.tail _ (.head _)))) (.head _) small_mO (by decide) ca1 cb1 2 2)
  simp only [show mO.kind = 3 from rfl, show mO.rate = 500000 from rfl, show mO.time = 7 from rfl] at HQE
  obtain ⟨c0, c1, c2, c3, c4, c5⟩ := HB5.out.six (g := w1.heap.size) (.tail _ (.tail _ (.tail _ (.tail _ (.tail _ (.tail _ (.tail _ (.tail _ (.head _)))))))))
  obtain ⟨d0, d1, d2, d3, d4, d5⟩ := HB5.out.six (g := w4.heap.size + 4) (.head _)
  have f0 := HB5.out.cell (g := w1.heap.size + 1) (i := 0) (.tail _ (.tail _ (.tail _ (.tail _ (.tail _ (.tail _ (.tail _ (.head _)))))))) rfl
  have f1 := HB5.out.cell (g := w1.heap.size + 1) (i := 1) (.tail _ (.tail _ (.tail _ (.tail _ (.tail _ (.tail _ (.tail _ (.head _)))))))) rfl
  have q1 := fun w => feq_run (x := 0) (y := 0) (u := 0) (v := 0) (q := true) (by decide) w
  have q2 := fun w => feq_run (x := 18) (y := 6) (u := 18) (v := 6) (q := true) (by decide) w
  have q3 := fun w => feq_run (x := 11) (y := 9) (u := 11) (v := 9) (q := true) (by decide) w
  have hg := fguard
  generalize World.alloc _ (.cells #[.string ⟨#[97]⟩, .int .i64 3, .slice (some ⟨w4.heap.size + 2, 0, none⟩) 2 2, .int .i64 500000, .slice (some ⟨w4.heap.size + 3, 0, none⟩) 2 2, .int .i64 7] 35) = W5 at *
  clear HB4 HB5
  go_wp2_with fail
  refine HQE.out.mono ?_
  rintro e w6 ⟨rfl, hb⟩
  clear c0 c1 c2 c3 c4 c5 d0 d1 d2 d3 d4 d5 f0 f1 HQE
  have g0 := hb.cell (g := w3.heap.size + 1) (i := 0) (.tail _ (.tail _ (.tail _ (.tail _ (.tail _ (.head _)))))) rfl
  have g1 := hb.cell (g := w3.heap.size + 1) (i := 1) (.tail _ (.tail _ (.tail _ (.tail _ (.tail _ (.head _)))))) rfl
  have h0 := hb.cell (g := w4.heap.size + 1) (i := 0) (.tail _ (.tail _ (.tail _ (.head _)))) rfl
  have h1 := hb.cell (g := w4.heap.size + 1) (i := 1) (.tail _ (.tail _ (.tail _ (.head _)))) rfl
  have HB7 := Lib.hid hb.kept
  clear hb
  go_wp2_with fail
  go_ret
  exact ⟨rfl, HB7.out⟩
section
variable {w W : World} {L : List (Nat × TypeId × List Value)} {M : List (ByteArray × Option Addr × Nat × Option Addr × Nat × Mt)}
theorem Kb.awake11_ (h : Kb w L M W) (ht : Tab w) : Calls Tryz.prog 9 #[] W fun e w' => e = .returned (.bool true) ∧ Kb w L M w' :=
  (awake11_calls W (ht.keep h.kept)).mono fun _ _ k => ⟨k.1, h.next k.2⟩
end
end Go.Proofs.YtbcmchkgamkceaaGreatDoor

/-
  Layer 11: what all its laws need: what is right is small; less is kept. No statement of the seat is proved here.
-/
namespace Go.Proofs.YtbcmchkgamkceaaGreatDoor
open Go.RowKit
open Dc (D D0)

theorem RightM.small {m : Mt} (h : RightM m) : Small m := by
  have hn := name_bytes h.name
  refine ⟨by omega, by have := h.many; omega, fun d hd => (h.vals d hd).fits, by have := h.tags.1; omega, fun t ht => ?_⟩
  have hr := right_parts (h.tags.2 t ht)
  have h1 := hr.1.1
  have h2 := hr.2.1
  omega
theorem Kb.subs {w W : World} {L L' : List (Nat × TypeId × List Value)} {M M' : List (ByteArray × Option Addr × Nat × Option Addr × Nat × Mt)} (h : Kb w L M W) (hL : ∀ x ∈ L', x ∈ L) (hM : ∀ x ∈ M', x ∈ M) : Kb w L' M' W :=
  ⟨h.kept, fun x hx => h.box x (hL x hx), fun x hx => h.met x (hM x hx)⟩
theorem small00 : Small M0 := ⟨by decide, by decide, fun d hd => (by cases hd), by decide, fun t ht => (by cases ht)⟩
/-- What Line tells of a metric that is right, and of another. -/
theorem lineO_right {m : Mt} (h : codeM m = 0) : lineO m = lineD (nM m) := if_pos h
theorem lineO_wrong {m : Mt} (h : codeM m ≠ 0) : lineO m = [] := if_neg h
/-- What is in its one form is its own. -/
theorem RightM.nM_ {m : Mt} (h : RightM m) (hn : m.tags = norm m.tags) : codeM m = 0 ∧ nM m = m := by
  have h1 := h.isM hn
  rw [isM_iff, Bool.and_eq_true, decide_eq_true_eq, decide_eq_true_eq] at h1
  exact ⟨check_code h1.1, by rw [nM_ok (check_code h1.1), ← h1.2]⟩
theorem Kb.awake11_ret (w : World) (ht : Tab w) : ∀ W', Below w.heap.size w W' → Calls Tryz.prog 9 #[] W' fun e w' => e = .returned (.bool true) ∧ Below W'.heap.size W' w' := fun W' b => awake11_calls W' (ht.keep b)
end Go.Proofs.YtbcmchkgamkceaaGreatDoor
