/-
  The walk of NumRateBack, at the rate of one. No statement of the seat is proved here.
-/
import Derived.Test.YtgcacbkoilmofaaDoorLawNRateBack1
namespace Go.Proofs.YtgcacbkoilmofaaDoor
open Go.RowKit

set_option maxRecDepth 100000 in
set_option maxHeartbeats 8000000 in
theorem nrate_one (z : Int) (s : ByteArray) (hm : (s.size : Int) ≤ 200) (hz0 : 0 ≤ z ∧ z ≤ 6) (w : World) (ht : Tab w) : Calls Tryd.prog 6 #[.int .i64 1000000, .int .i64 z, .string s] w fun e w' => e = .returned (.bool true) ∧ Below w.heap.size w w' := by
  have HT := Lib.hid ht
  clear ht
  have h200 : ¬ 200 < (s.size : Int) := by omega
  have g0 : ¬ z < 0 := by omega
  have g6 : ¬ 6 < z := by omega
  obtain ⟨m, a, b, hp⟩ : ∃ m a b, rated s.data.toList = (m, a, b) := ⟨_, _, _, rfl⟩
  have HP := Lib.hid (fun W => rate_says (Str.self s) (by omega) hp W)
  have hcs : (a = 0 ∧ b = 0) ∨ (m = 0 ∧ ((a == 0) = false ∨ ((a == 0) = true ∧ (b == 0) = false))) := by
    by_cases hab : a = 0 ∧ b = 0
    · exact .inl hab
    · refine .inr ⟨rated_wrong hp hab, ?_⟩
      by_cases e : a = 0
      · right; exact ⟨by simp [e], by simpa using fun h => hab ⟨e, h⟩⟩
      · left; simpa using e
  have HPB := Lib.hid (And.intro (fun (ha : a = 0) (hb : b = 0) => rated_text_back (l := s.data.toList) (n := m) (by rw [hp, ha, hb])) (fun (ha : a = 0) (hb : b = 0) => strip_ends (s := s) (n := m) (by rw [hp, ha, hb])))
  clear hp
  have HN := Lib.hid (fun W h => ratetext_says (show textR 1000000 = [49] by decide) (show errR 1000000 = 0 by decide) W h)
  have HQ := Lib.hid (fun W => rate_says (s := ⟨#[49]⟩) (l := [49]) rfl (by decide) (show rated [49] = (1000000, 0, 0) by decide) W)
  have HW0 := Lib.hid (FAt.start w)
  go_enter Tryd.func6, Tryd.ntmps6
  go_wp2_with fail
  refine (HN.out _ HT.out).mono ?_
  rintro e w4 ⟨rfl, hb⟩
  have HW4 := Lib.hid (HW0.out.next hb)
  clear hb HN HW0
  go_wp2_with fail
  refine (HQ.out _).mono ?_
  rintro e w6 ⟨rfl, hb⟩
  have HW6 := Lib.hid ((HW4.out.next hb).push (.int .i64 0) (.int .i64 0))
  clear hb HW4 HQ
  obtain ⟨k10, k11⟩ := HW6.out.cells (g := w6.heap.size) (a := .int .i64 0) (b := .int .i64 0) (by simp)
  go_wp2_with fail
  refine (HP.out _).mono ?_
  rintro e w7 ⟨rfl, hb⟩
  have HB7 := Lib.hid (below_then (HW6.out.kept) hb)
  clear hb HP HW6 k10 k11
  rcases hcs with ⟨rfl, rfl⟩ | ⟨rfl, hcs⟩
  · obtain ⟨m0, m1, htx⟩ := HPB.out.1 rfl rfl
    have hr2 := fun W h => ratetext_says (n := m) htx (show errR m = 0 by unfold errR; rw [(isRate_iff m).2 ⟨m0, m1⟩]; rfl) W h
    have hend := HPB.out.2 rfl rfl
    have g1 : ¬ m < 1 := by omega
    have g2 : ¬ 1000000 < m := by omega
    generalize hU : (⟨(Lib.trimRightB s.data.toList 48).toArray⟩ : ByteArray) = U at hr2
    have HU := Lib.hid hU
    have HR2 := Lib.hid hr2
    have HEND := Lib.hid hend
    clear hr2 hU htx hend HPB
    go_wp2_with fail
    refine (HR2.out _ (HT.out.keep (HB7.out.alloc HB7.out.size _))).mono ?_
    rintro e w8 ⟨rfl, hb⟩
    have HB8 := Lib.hid (below_then (HB7.out.alloc HB7.out.size _) hb)
    clear hb HB7 HR2
    go_wp2_with fail
    go_loopw [2] (fun v2 wr => ∃ (q : ByteArray) (j : Nat), v2 = .string q ∧ w8 = wr ∧ (q.size : Int) = (j : Int) + 1 ∧ (j : Int) + 1 ≤ 200 ∧ Hid (StripAt s.data.toList j q)) (fun v2 _ => Lib.strSize v2)
    case atStart =>
      obtain ⟨j, hj, hst⟩ := HEND.out.1
      exact ⟨s, j, rfl, rfl, hj, by omega, hst⟩
    case round =>
      obtain ⟨q, j, rfl, rfl, hqj, hj2, hst⟩ := hrel
      obtain ⟨hjl, hqs, hq1, hq2⟩ := hst.out
      obtain ⟨hz, hix, q2, hqt, hsl⟩ := Str.last hqs
      have hlt : ((s.data.toList.take j).length : Int) = (j : Int) := by rw [List.length_take]; omega
      rw [hlt] at hix hsl
      have hqm : (q.size : Int) - 1 = (j : Int) := by omega
      have HQT := Lib.hid hqt
      clear hqs hqt hz hlt hq1 hq2
      by_cases hx : ((s.data.toList[j]).toNat : Int) = 48
      · by_cases hj0 : j = 0
        · have HE := Lib.hid (show U = q by rw [← HU.out]; exact (HEND.out.2 j q hst.out (.inl hj0)).symm)
          have hlen : ¬ 1 < (q.size : Int) := by omega
          have hq1 : (q.size : Int) = 1 := by omega
          clear hqj hx hix hsl hqm
          obtain rfl := HE.out
          go_wp2_with fail
          refine (awake5_calls _ (HT.out.keep HB8.out)).mono ?_
          rintro e w9 ⟨rfl, hb⟩
          have HB9 := Lib.hid (below_then HB8.out hb)
          clear hb
          go_wp2_with fail
          go_ret
          exact ⟨rfl, HB9.out⟩
        · have HX := Lib.hid (hst.out.down hj0 hx HQT.out)
          have hlen : 1 < (q.size : Int) := by omega
          rw [hx] at hix
          clear hx
          go_wp2_with fail
          obtain ⟨i, hi, hz2, hstr⟩ := HX.out
          exact ⟨⟨q2, i, rfl, trivial, hz2, by omega, hstr⟩, by simp only [Lib.strSize]; omega⟩
      · have HE := Lib.hid (show U = q by rw [← HU.out]; exact (HEND.out.2 j q hst.out (.inr hx)).symm)
        obtain ⟨y, hy⟩ : ∃ y : Int, y = ((s.data.toList[j]).toNat : Int) := ⟨_, rfl⟩
        have hix2 : ∀ W, (Instr.index 9 (.string q) (.int .i64 (j : Int))).run Tryd.prog W = .ok (.int .u8 y) W := fun W => by rw [hy]; exact hix W
        have hyb : (y == 48) = false := by rw [hy]; simpa using hx
        clear hx hix hy hsl
        by_cases hj0 : (j : Int) = 0
        · have hlen : ¬ 1 < (q.size : Int) := by omega
          have hq1 : (q.size : Int) = 1 := by omega
          clear hqj hix2 hqm hj0
          obtain rfl := HE.out
          go_wp2_with fail
          refine (awake5_calls _ (HT.out.keep HB8.out)).mono ?_
          rintro e w9 ⟨rfl, hb⟩
          have HB9 := Lib.hid (below_then HB8.out hb)
          clear hb
          go_wp2_with fail
          go_ret
          exact ⟨rfl, HB9.out⟩
        · have hlen : 1 < (q.size : Int) := by omega
          obtain rfl := HE.out
          go_wp2_with fail
          refine (awake5_calls _ (HT.out.keep HB8.out)).mono ?_
          rintro e w9 ⟨rfl, hb⟩
          have HB9 := Lib.hid (below_then HB8.out hb)
          clear hb
          go_wp2_with fail
          go_ret
          exact ⟨rfl, HB9.out⟩
  · clear HPB
    rcases hcs with k1 | ⟨k1, k2⟩
    all_goals
      go_wp2_with fail
      refine (awake5_calls _ (HT.out.keep (HB7.out.alloc HB7.out.size _))).mono ?_
      rintro e w9 ⟨rfl, hb⟩
      have HB9 := Lib.hid (below_then (HB7.out.alloc HB7.out.size _) hb)
      clear hb HB7
      go_wp2_with fail
      go_ret
      exact ⟨rfl, HB9.out⟩
end Go.Proofs.YtgcacbkoilmofaaDoor
