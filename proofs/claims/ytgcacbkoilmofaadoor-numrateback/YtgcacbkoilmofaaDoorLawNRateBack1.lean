/-
  The walk of NumRateBack. No statement of the seat is proved here.
-/
import Derived.Test.YtgcacbkoilmofaaDoorNAwake
import Derived.Test.YtgcacbkoilmofaaDoorNRefRate
namespace Go.Proofs.YtgcacbkoilmofaaDoor
open Go.RowKit

/-- Where the taking off of zeros stands: the first j + 1 bytes are left. -/
structure StripAt (l : List UInt8) (j : Nat) (q : ByteArray) : Prop where
  lt : j < l.length
  left : Str q (l.take j ++ [l[j]])
  size : q.size = j + 1
  off : ∀ (i : Nat) b, j + 1 ≤ i → l[i]? = some b → b = 48

theorem StripAt.down {l : List UInt8} {j : Nat} {q q2 : ByteArray} (h : StripAt l j q) (hj : j ≠ 0) (hx : ((l[j]'h.lt).toNat : Int) = 48) (h2 : Str q2 (l.take j)) : ∃ i : Nat, j = i + 1 ∧ (q2.size : Int) = (i : Int) + 1 ∧ Hid (StripAt l i q2) := by
  obtain ⟨i, rfl⟩ : ∃ i, j = i + 1 := ⟨j - 1, by omega⟩
  have hl := h.lt
  have hz : q2.size = i + 1 := by rw [h2.size, List.length_take]; omega
  refine ⟨i, rfl, by omega, ⟨by omega, ?_, hz, ?_⟩⟩
  · rw [← List.take_succ_eq_append_getElem (by omega)]; exact h2
  · intro k b hk hb
    rcases Nat.lt_or_ge k (i + 2) with h' | h'
    · obtain rfl : k = i + 1 := by omega
      rw [List.getElem?_eq_getElem hl] at hb
      injection hb with hb
      rw [← hb]
      exact UInt8.toNat_inj.1 (by show (l[i + 1]).toNat = 48; omega)
    · exact h.off k b h' hb

theorem rated_text_back {l : List UInt8} {n : Int} (h : rated l = (n, 0, 0)) : 1 ≤ n ∧ n ≤ 1000000 ∧ textR n = Lib.trimRightB l 48 := by
  obtain ⟨h1, h2, h3, _⟩ := rated_back h
  refine ⟨h1, h2, ?_⟩
  unfold textR
  rw [(isRate_iff n).2 ⟨h1, h2⟩, ← h3]
  rfl
/-- How the taking off begins, and where it ends. -/
theorem strip_ends {s : ByteArray} {n : Int} (h : rated s.data.toList = (n, 0, 0)) : (∃ j : Nat, (s.size : Int) = (j : Int) + 1 ∧ Hid (StripAt s.data.toList j s)) ∧
    ∀ j (q : ByteArray) (hs : StripAt s.data.toList j q), (j = 0 ∨ ¬ (((s.data.toList[j]'hs.lt).toNat : Int) = 48)) → q = ⟨(Lib.trimRightB s.data.toList 48).toArray⟩ := by
  obtain ⟨_, _, _, hne, hno⟩ := rated_back h
  have hsz := (Str.self s).size
  have hst := Str.self s
  clear h
  generalize s.data.toList = l at *
  have hpos := List.length_pos_iff.2 hne
  refine ⟨⟨l.length - 1, by omega, ⟨by omega, ?_, by omega, ?_⟩⟩, ?_⟩
  · rw [← List.take_succ_eq_append_getElem (by omega), show l.length - 1 + 1 = l.length by omega, List.take_length]; exact hst
  · intro i b hi hb
    rw [List.getElem?_eq_none (by omega)] at hb
    cases hb
  · intro j q hs hend
    have hl := hs.lt
    have hx : ¬ (((l[j]'hl).toNat : Int) = 48) := by
      rcases hend with rfl | h'
      · intro h48
        refine hno 0 hl (by omega) (fun i hi _ => ?_)
        rcases Nat.eq_zero_or_pos i with rfl | hp
        · exact UInt8.toNat_inj.1 (by show (l[0]).toNat = 48; omega)
        · exact hs.off i _ (by omega) (List.getElem?_eq_getElem hi)
      · exact h'
    have := Lib.trimRightB_take l 48 (j + 1) (by omega) hs.off (fun b _ hb => by
      rw [show j + 1 - 1 = j by omega, List.getElem?_eq_getElem hl] at hb
      injection hb with hb
      rintro rfl
      apply hx
      rw [hb]
      rfl)
    rw [this, List.take_succ_eq_append_getElem hl]
    exact hs.left.eq

set_option maxRecDepth 100000 in
set_option maxHeartbeats 8000000 in
theorem nrate_none (n z : Int) (s : ByteArray) (hm : (s.size : Int) ≤ 200) (hz0 : 0 ≤ z ∧ z ≤ 6) (hn : isRate n = false) (w : World) (ht : Tab w) : Calls Tryd.prog 6 #[.int .i64 n, .int .i64 z, .string s] w fun e w' => e = .returned (.bool true) ∧ Below w.heap.size w w' := by
  have HT := Lib.hid ht
  clear ht
  have h200 : ¬ 200 < (s.size : Int) := by omega
  have g0 : ¬ z < 0 := by omega
  have g6 : ¬ 6 < z := by omega
  obtain ⟨m, a, b, hp⟩ : ∃ m a b, rated s.data.toList = (m, a, b) := ⟨_, _, _, rfl⟩
  have HP := Lib.hid (fun W => rate_says (Str.self s) (by omega) hp W)
  have hcs : (a = 0 ∧ b = 0) ∨ (m = 0 ∧ ((a == 0) = false ∨ ((a == 0) = true ∧ (b == 0) = false))) := by
    by_cases hab : a = 0 ∧ b = 0
    · exact .inl hab
    · refine .inr ⟨rated_wrong hp hab, ?_⟩
      by_cases e : a = 0
      · right; exact ⟨by simp [e], by simpa using fun h => hab ⟨e, h⟩⟩
      · left; simpa using e
  have HPB := Lib.hid (And.intro (fun (ha : a = 0) (hb : b = 0) => rated_text_back (l := s.data.toList) (n := m) (by rw [hp, ha, hb])) (fun (ha : a = 0) (hb : b = 0) => strip_ends (s := s) (n := m) (by rw [hp, ha, hb])))
  clear hp
  have e1 : textR n = [] := by unfold textR; rw [hn]; rfl
  have e2 : errR n = 10 := by unfold errR; rw [hn]; rfl
  have HN := Lib.hid (fun W h => ratetext_says e1 e2 W h)
  have hcn : ¬ 1 ≤ n ∨ (1 ≤ n ∧ ¬ n ≤ 1000000) := by
    have := fun h => (isRate_iff n).2 h
    by_cases h1 : 1 ≤ n
    · right; exact ⟨h1, fun h2 => by rw [this ⟨h1, h2⟩] at hn; cases hn⟩
    · left; exact h1
  clear e1 e2 hn
  go_enter Tryd.func6, Tryd.ntmps6
  go_wp2_with fail
  refine (HN.out _ HT.out).mono ?_
  rintro e w6 ⟨rfl, hb⟩
  have HB6 := Lib.hid hb
  clear hb HN
  rcases hcn with hcn | ⟨hcn, hcn'⟩
  all_goals
    go_wp2_with fail
    refine (HP.out _).mono ?_
    rintro e w7 ⟨rfl, hb⟩
    have HB7 := Lib.hid (below_then (HB6.out) hb)
    clear hb HP HB6
    rcases hcs with ⟨rfl, rfl⟩ | ⟨rfl, hcs⟩
    · obtain ⟨m0, m1, htx⟩ := HPB.out.1 rfl rfl
      have hr2 := fun W h => ratetext_says (n := m) htx (show errR m = 0 by unfold errR; rw [(isRate_iff m).2 ⟨m0, m1⟩]; rfl) W h
      have hend := HPB.out.2 rfl rfl
      have g1 : ¬ m < 1 := by omega
      have g2 : ¬ 1000000 < m := by omega
      generalize hU : (⟨(Lib.trimRightB s.data.toList 48).toArray⟩ : ByteArray) = U at hr2
      have HU := Lib.hid hU
      have HR2 := Lib.hid hr2
      have HEND := Lib.hid hend
      clear hr2 hU htx hend HPB
      go_wp2_with fail
      refine (HR2.out _ (HT.out.keep (HB7.out.alloc HB7.out.size _))).mono ?_
      rintro e w8 ⟨rfl, hb⟩
      have HB8 := Lib.hid (below_then (HB7.out.alloc HB7.out.size _) hb)
      clear hb HB7 HR2
      go_wp2_with fail
      go_loopw [2] (fun v2 wr => ∃ (q : ByteArray) (j : Nat), v2 = .string q ∧ w8 = wr ∧ (q.size : Int) = (j : Int) + 1 ∧ (j : Int) + 1 ≤ 200 ∧ Hid (StripAt s.data.toList j q)) (fun v2 _ => Lib.strSize v2)
      case atStart =>
        obtain ⟨j, hj, hst⟩ := HEND.out.1
        exact ⟨s, j, rfl, rfl, hj, by omega, hst⟩
      case round =>
        obtain ⟨q, j, rfl, rfl, hqj, hj2, hst⟩ := hrel
        obtain ⟨hjl, hqs, hq1, hq2⟩ := hst.out
        obtain ⟨hz, hix, q2, hqt, hsl⟩ := Str.last hqs
        have hlt : ((s.data.toList.take j).length : Int) = (j : Int) := by rw [List.length_take]; omega
        rw [hlt] at hix hsl
        have hqm : (q.size : Int) - 1 = (j : Int) := by omega
        have HQT := Lib.hid hqt
        clear hqs hqt hz hlt hq1 hq2
        by_cases hx : ((s.data.toList[j]).toNat : Int) = 48
        · by_cases hj0 : j = 0
          · have HE := Lib.hid (show U = q by rw [← HU.out]; exact (HEND.out.2 j q hst.out (.inl hj0)).symm)
            have hlen : ¬ 1 < (q.size : Int) := by omega
            have hq1 : (q.size : Int) = 1 := by omega
            clear hqj hx hix hsl hqm
            obtain rfl := HE.out
            go_wp2_with fail
            refine (awake5_calls _ (HT.out.keep HB8.out)).mono ?_
            rintro e w9 ⟨rfl, hb⟩
            have HB9 := Lib.hid (below_then HB8.out hb)
            clear hb
            go_wp2_with fail
            go_ret
            exact ⟨rfl, HB9.out⟩
          · have HX := Lib.hid (hst.out.down hj0 hx HQT.out)
            have hlen : 1 < (q.size : Int) := by omega
            rw [hx] at hix
            clear hx
            go_wp2_with fail
            obtain ⟨i, hi, hz2, hstr⟩ := HX.out
            exact ⟨⟨q2, i, rfl, trivial, hz2, by omega, hstr⟩, by simp only [Lib.strSize]; omega⟩
        · have HE := Lib.hid (show U = q by rw [← HU.out]; exact (HEND.out.2 j q hst.out (.inr hx)).symm)
          obtain ⟨y, hy⟩ : ∃ y : Int, y = ((s.data.toList[j]).toNat : Int) := ⟨_, rfl⟩
          have hix2 : ∀ W, (Instr.index 9 (.string q) (.int .i64 (j : Int))).run Tryd.prog W = .ok (.int .u8 y) W := fun W => by rw [hy]; exact hix W
          have hyb : (y == 48) = false := by rw [hy]; simpa using hx
          clear hx hix hy hsl
          by_cases hj0 : (j : Int) = 0
          · have hlen : ¬ 1 < (q.size : Int) := by omega
            have hq1 : (q.size : Int) = 1 := by omega
            clear hqj hix2 hqm hj0
            obtain rfl := HE.out
            go_wp2_with fail
            refine (awake5_calls _ (HT.out.keep HB8.out)).mono ?_
            rintro e w9 ⟨rfl, hb⟩
            have HB9 := Lib.hid (below_then HB8.out hb)
            clear hb
            go_wp2_with fail
            go_ret
            exact ⟨rfl, HB9.out⟩
          · have hlen : 1 < (q.size : Int) := by omega
            obtain rfl := HE.out
            go_wp2_with fail
            refine (awake5_calls _ (HT.out.keep HB8.out)).mono ?_
            rintro e w9 ⟨rfl, hb⟩
            have HB9 := Lib.hid (below_then HB8.out hb)
            clear hb
            go_wp2_with fail
            go_ret
            exact ⟨rfl, HB9.out⟩
    · clear HPB
      rcases hcs with k1 | ⟨k1, k2⟩
      all_goals
        go_wp2_with fail
        refine (awake5_calls _ (HT.out.keep (HB7.out.alloc HB7.out.size _))).mono ?_
        rintro e w9 ⟨rfl, hb⟩
        have HB9 := Lib.hid (below_then (HB7.out.alloc HB7.out.size _) hb)
        clear hb HB7
        go_wp2_with fail
        go_ret
        exact ⟨rfl, HB9.out⟩
end Go.Proofs.YtgcacbkoilmofaaDoor
