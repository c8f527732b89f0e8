/-
  KRefBad, KRefText. No statement of the seat is proved here.
-/
import Derived.Test.YtdliookdmgilgaaGreatDoorGrKIs
/-
  Layer 4: the document's answer (lists of bytes). No statement of the seat is proved here.
-/
namespace Go.Proofs.YtdliookdmgilgaaGreatDoor
open Go.RowKit

def dLst : List UInt8 := [48, 49, 50, 51, 52, 53, 54, 55, 56, 57]
def aLst : List UInt8 := [65, 66, 67, 68, 69, 70, 71, 72, 73, 74, 75, 76, 77, 78, 79, 80, 81, 82, 83, 84, 85, 86, 87, 88, 89, 90, 97, 98, 99, 100, 101, 102, 103, 104, 105, 106, 107, 108, 109, 110, 111, 112, 113, 114, 115, 116, 117, 118, 119, 120, 121, 122]
def vLst : List UInt8 := [47, 33, 34, 35, 36, 37, 38, 39, 40, 41, 42, 43, 58, 59, 60, 61, 62, 63, 64, 91, 92, 93, 94, 96, 123, 125, 126]
def nLst : List UInt8 := aLst ++ dLst ++ [95, 46, 45]
/-- The bytes of a class, as the document's answer lists them. -/
def rList (k : Int) : List UInt8 := if k = 1 then nLst else if k = 2 then nLst ++ [47] else if k = 3 then nLst ++ vLst else if k = 4 then dLst else []
def rIs (k x : Int) : Bool := (rList k).any fun b => (b.toNat : Int) == x

theorem dLst_str : Str ⟨#[48, 49, 50, 51, 52, 53, 54, 55, 56, 57]⟩ dLst := rfl
theorem aLst_str : Str ⟨#[65, 66, 67, 68, 69, 70, 71, 72, 73, 74, 75, 76, 77, 78, 79, 80, 81, 82, 83, 84, 85, 86, 87, 88, 89, 90, 97, 98, 99, 100, 101, 102, 103, 104, 105, 106, 107, 108, 109, 110, 111, 112, 113, 114, 115, 116, 117, 118, 119, 120, 121, 122]⟩ aLst := rfl
theorem vLst_str : Str ⟨#[47, 33, 34, 35, 36, 37, 38, 39, 40, 41, 42, 43, 58, 59, 60, 61, 62, 63, 64, 91, 92, 93, 94, 96, 123, 125, 126]⟩ vLst := rfl
theorem nLst_str : Str ((⟨#[65, 66, 67, 68, 69, 70, 71, 72, 73, 74, 75, 76, 77, 78, 79, 80, 81, 82, 83, 84, 85, 86, 87, 88, 89, 90, 97, 98, 99, 100, 101, 102, 103, 104, 105, 106, 107, 108, 109, 110, 111, 112, 113, 114, 115, 116, 117, 118, 119, 120, 121, 122]⟩ : ByteArray) ++ ⟨#[48, 49, 50, 51, 52, 53, 54, 55, 56, 57]⟩ ++ ⟨#[95, 46, 45]⟩) nLst :=
  (aLst_str.append dLst_str).append (b := [95, 46, 45]) rfl

theorem rIs_key : ∀ b : Fin 256, (rIs 0 b.val = false ∧ isOf 0 b.val = false) ∧ rIs 1 b.val = isOf 1 b.val ∧ rIs 2 b.val = isOf 2 b.val ∧ rIs 3 b.val = isOf 3 b.val ∧ rIs 4 b.val = isOf 4 b.val := by decide +kernel
theorem rIs_is {c x : Int} (hc : isCls c = true) (h0 : 0 ≤ x) (h1 : x < 256) : rIs c x = isOf c x := by
  obtain ⟨n, rfl⟩ : ∃ n : Nat, x = n := ⟨x.toNat, by omega⟩
  have h := rIs_key ⟨n, by omega⟩
  unfold isCls at hc
  rw [decide_eq_true_eq] at hc
  rcases (by omega : c = 1 ∨ c = 2 ∨ c = 3 ∨ c = 4) with rfl | rfl | rfl | rfl
  · exact h.2.1
  · exact h.2.2.1
  · exact h.2.2.2.1
  · exact h.2.2.2.2

theorem rList_len (k : Int) : (rList k).length ≤ 100 := by
  unfold rList
  repeat' split
  all_goals decide

set_option maxRecDepth 100000 in
set_option maxHeartbeats 2000000 in
theorem bytes_calls (k : Int) (w : World) : Calls Tryz.prog 128 #[.int .i64 k] w fun e w' => (∃ s, e = .returned (.string s) ∧ Str s (rList k)) ∧ Below w.heap.size w w' := by
  rcases (by omega : k = 1 ∨ k = 2 ∨ k = 3 ∨ k = 4 ∨ (¬ k = 1 ∧ ¬ k = 2 ∧ ¬ k = 3 ∧ ¬ k = 4)) with rfl | rfl | rfl | rfl | ⟨h1, h2, h3, h4⟩
  · go_enter Tryz.func128, Tryz.ntmps128
    go_wp2_with fail
    go_ret
    exact ⟨⟨_, rfl, nLst_str⟩, Below.refl _ _⟩
  · go_enter Tryz.func128, Tryz.ntmps128
    go_wp2_with fail
    go_ret
    exact ⟨⟨_, rfl, nLst_str.append (b := [47]) rfl⟩, Below.refl _ _⟩
  · go_enter Tryz.func128, Tryz.ntmps128
    go_wp2_with fail
    go_ret
    exact ⟨⟨_, rfl, nLst_str.append vLst_str⟩, Below.refl _ _⟩
  · go_enter Tryz.func128, Tryz.ntmps128
    go_wp2_with fail
    go_ret
    exact ⟨⟨_, rfl, dLst_str⟩, Below.refl _ _⟩
  · go_enter Tryz.func128, Tryz.ntmps128
    go_wp2_with fail
    go_ret
    exact ⟨⟨_, rfl, by unfold rList; rw [if_neg h1, if_neg h2, if_neg h3, if_neg h4]; rfl⟩, Below.refl _ _⟩

theorem rIs_yes {k x : Int} {i : Nat} (h : i < (rList k).length) (hx : ((rList k)[i].toNat : Int) = x) : rIs k x = true := by
  unfold rIs
  rw [List.any_eq_true]
  exact ⟨_, List.getElem_mem h, by simp [hx]⟩
theorem rIs_no {k x : Int} (h : ∀ i (h : i < (rList k).length), ((rList k)[i].toNat : Int) ≠ x) : rIs k x = false := by
  unfold rIs
  rw [List.any_eq_false]
  intro b hb
  obtain ⟨i, hi, rfl⟩ := List.mem_iff_getElem.mp hb
  simp [h i hi]

set_option maxRecDepth 100000 in
set_option maxHeartbeats 2000000 in
theorem ris_calls (k x : Int) (w : World) : Calls Tryz.prog 106 #[.int .i64 k, .int .u8 x] w fun e w' => e = .returned (.bool (rIs k x)) ∧ Below w.heap.size w w' := by
  have HB := Lib.hid (bytes_calls k w)
  have hlen := rList_len k
  obtain ⟨q, hq⟩ : ∃ q, q = rIs k x := ⟨_, rfl⟩
  rw [← hq]
  have HQ := Lib.hid hq
  clear hq
  go_enter Tryz.func106, Tryz.ntmps106
  go_wp2_with fail
  refine HB.out.mono ?_
  rintro e w1 ⟨⟨s, rfl, hs⟩, hb⟩
  have hn := hs.size
  have HS := Lib.hid hs
  have HBB := Lib.hid hb
  clear hb hs HB
  go_wp2_with fail
  go_loopw [6] (fun v6 wr => ∃ i : Nat, v6 = .int .i64 i ∧ i ≤ (rList k).length ∧ w1 = wr ∧ Hid (∀ j (h : j < (rList k).length), j < i → ((rList k)[j].toNat : Int) ≠ x)) (fun v6 _ => (rList k).length - (intOf v6).toNat)
  case atStart => exact ⟨0, rfl, by omega, rfl, fun i h hi => absurd hi (by omega)⟩
  case round =>
    obtain ⟨i, rfl, hil, rfl, hrel⟩ := hrel
    by_cases hlt : i < (rList k).length
    · have hidx := HS.out.index (i := (i : Int)) i rfl hlt
      have hlt' : (i : Int) < (s.size : Int) := by omega
      obtain ⟨y, hy⟩ : ∃ y : Int, y = ((rList k)[i].toNat : Int) := ⟨_, rfl⟩
      rw [← hy] at hidx
      have HY := Lib.hid hy
      clear hy hn
      by_cases hxy : y = x
      · have HX := Lib.hid (show q = true by rw [HQ.out]; exact rIs_yes hlt (by rw [← HY.out]; exact hxy))
        subst hxy
        go_wp2_with fail
        go_ret
        exact ⟨by rw [HX.out]; first | done | rfl, HBB.out⟩
      · have hxy' : (y == x) = false := by simp [hxy]
        have HX := Lib.hid hxy
        clear hxy
        go_wp2_with fail
        refine ⟨⟨i + 1, by go_num, by omega, by trivial, ?_⟩, by simp [intOf]; omega⟩
        intro j hj hji
        rcases Nat.lt_or_ge j i with h1 | h1
        · exact hrel.out j hj h1
        · obtain rfl : i = j := by omega
          rw [← HY.out]; exact HX.out
    · have hlt' : ¬ (i : Int) < (s.size : Int) := by omega
      have HX := Lib.hid (show q = false by rw [HQ.out]; exact rIs_no (fun j hj => hrel.out j hj (by omega)))
      clear hn
      go_wp2_with fail
      go_ret
      exact ⟨by rw [HX.out]; first | done | rfl, HBB.out⟩

set_option maxRecDepth 100000 in
set_option maxHeartbeats 2000000 in
theorem rbad_calls (c : Int) (hc : isCls c = true) (s : ByteArray) (l : List UInt8) (h : Str s l) (hz : (s.size : Int) ≤ 100000) (w : World) : Calls Tryz.prog 70 #[.int .i64 c, .string s] w fun e w' => e = .returned (.int .i64 (bad c l)) ∧ Below w.heap.size w w' := by
  have HS := Lib.hid h
  have HC := Lib.hid hc
  have hn : s.size = l.length := h.size
  clear h hc
  obtain ⟨z, hz'⟩ : ∃ z, z = bad c l := ⟨_, rfl⟩
  rw [← hz']
  have HZ := Lib.hid hz'
  clear hz'
  go_enter Tryz.func70, Tryz.ntmps70
  go_wp2_with fail
  go_loopw [5] (fun v5 wr => ∃ k : Nat, v5 = .int .i64 k ∧ k ≤ l.length ∧ Hid (Below w.heap.size w wr ∧ ∀ i (h : i < l.length), i < k → isOf c l[i].toNat = true)) (fun v5 _ => l.length - (intOf v5).toNat)
  case atStart => exact ⟨0, rfl, by omega, ⟨Below.refl _ _, fun i h hi => absurd hi (by omega)⟩⟩
  case round =>
    obtain ⟨k, rfl, hkl, hrel⟩ := hrel
    by_cases hlt : k < l.length
    · have hidx := HS.out.index (i := (k : Int)) k rfl hlt
      have hlt' : (k : Int) < (s.size : Int) := by omega
      have hbb := ris_calls c (l[k].toNat : Int) wr
      rw [rIs_is HC.out (by omega) (by have := l[k].toNat_lt; omega)] at hbb
      obtain ⟨x, hx⟩ : ∃ x : Int, x = (l[k].toNat : Int) := ⟨_, rfl⟩
      rw [← hx] at hidx hbb
      obtain ⟨o, ho⟩ : ∃ o, o = isOf c x := ⟨_, rfl⟩
      rw [← ho] at hbb
      have HO := Lib.hid (And.intro hx ho)
      have HI := Lib.hid hbb
      clear hx ho hbb hn
      rcases o with _ | _
      · have HX := Lib.hid (show z = k by rw [HZ.out]; exact bad_at hlt hrel.out.2 (by have := HO.out; rw [← this.1]; exact this.2.symm))
        go_wp2_with fail
        refine HI.out.mono ?_
        rintro e w2 ⟨rfl, hb⟩
        have HB := Lib.hid (Below.trans hrel.out.1 (hb.mono hrel.out.1.size))
        clear hb HI
        go_wp2_with fail
        go_ret
        exact ⟨by rw [HX.out]; first | done | rfl, HB.out⟩
      · go_wp2_with fail
        refine HI.out.mono ?_
        rintro e w2 ⟨rfl, hb⟩
        have HB := Lib.hid (Below.trans hrel.out.1 (hb.mono hrel.out.1.size))
        clear hb HI
        go_wp2_with fail
        refine ⟨⟨k + 1, by go_num, by omega, ⟨HB.out, ?_⟩⟩, by simp [intOf]; omega⟩
        intro i hi hik
        rcases Nat.lt_or_ge i k with h1 | h1
        · exact hrel.out.2 i hi h1
        · obtain rfl : k = i := by omega
          have := HO.out; rw [← this.1]; exact this.2.symm
    · have hlt' : ¬ (k : Int) < (s.size : Int) := by omega
      have HX := Lib.hid (show z = -1 by rw [HZ.out]; exact bad_none (fun i hi => hrel.out.2 i hi (by omega)))
      clear hn
      go_wp2_with fail
      go_ret
      exact ⟨by rw [HX.out]; first | done | rfl, hrel.out.1⟩
end Go.Proofs.YtdliookdmgilgaaGreatDoor

/-
  Layer 4: the document's Text. No statement of the seat is proved here.
-/
namespace Go.Proofs.YtdliookdmgilgaaGreatDoor
open Go.RowKit

set_option maxRecDepth 100000 in
set_option maxHeartbeats 2000000 in
theorem rtext_calls (c : Int) (hc : isCls c = true) (s : ByteArray) (l : List UInt8) (h : Str s l) (hz : (s.size : Int) ≤ 100000) (lo hi : Int) (hlo : ¬ lo < 0) (hhi : ¬ hi < lo) (w : World) :
    Calls Tryz.prog 67 #[.int .i64 c, .string s, .int .i64 lo, .int .i64 hi] w (Faults w (faultOf c l lo hi)) := by
  have hn : s.size = l.length := h.size
  have HK := Lib.hid (rbad_calls c hc s l h hz)
  have HC := Lib.hid hc
  clear h hc
  have b0 := Box.new w 34 [.int .i64 0, .int .i64 0]
  have HB := Lib.hid (And.intro b0 ((Below.refl w.heap.size w).alloc (Nat.le_refl _) (.cells #[.int .i64 0, .int .i64 0] 34)))
  rcases (by omega : ((s.size : Int) < lo) ∨ (¬ (s.size : Int) < lo ∧ hi < (s.size : Int)) ∨ (¬ (s.size : Int) < lo ∧ ¬ hi < (s.size : Int))) with h3 | ⟨h3, h4⟩ | ⟨h3, h4⟩
  · have hr : faultOf c l lo hi = (13, (l.length : Int)) := by
      unfold faultOf; rw [if_neg, if_pos (by omega)]
      have := HC.out; simp [this]; omega
    have HR := Lib.hid hr
    clear hr
    go_enter Tryz.func67, Tryz.ntmps67
    go_wp2_with fail
    exact ret_fault rfl rfl rfl (Box.new w 34 [_, _]) (faults_of HR.out ((Below.refl w.heap.size w).alloc (Nat.le_refl _) _))
  · have hr : faultOf c l lo hi = (12, hi) := by
      unfold faultOf; rw [if_neg, if_neg (by omega), if_pos (by omega)]
      have := HC.out; simp [this]; omega
    have HR := Lib.hid hr
    clear hr
    go_enter Tryz.func67, Tryz.ntmps67
    go_wp2_with fail
    exact ret_fault rfl rfl rfl (Box.new w 34 [_, _]) (faults_of HR.out ((Below.refl w.heap.size w).alloc (Nat.le_refl _) _))
  · have hr : faultOf c l lo hi = if 0 ≤ bad c l then (14, bad c l) else (0, 0) := by
      unfold faultOf; rw [if_neg, if_neg (by omega), if_neg (by omega)]
      have := HC.out; simp [this]; omega
    obtain ⟨z, hz'⟩ : ∃ z, z = bad c l := ⟨_, rfl⟩
    rw [← hz'] at hr
    have HR := Lib.hid hr
    have HZ := Lib.hid hz'
    clear hr hz' b0
    go_enter Tryz.func67, Tryz.ntmps67
    go_wp2_with fail
    refine (HK.out _).mono ?_
    rintro e w2 ⟨rfl, hb⟩
    rw [← HZ.out]
    have b2 := HB.out.1.keep hb
    have HB2 := Lib.hid (And.intro b2 (Below.trans HB.out.2 (hb.mono HB.out.2.size)))
    have c0 : w2.cell? ⟨w.heap.size, 0, none⟩ = some (.int .i64 0) := b2.cell 0
    have c1 : w2.cell? ⟨w.heap.size, 1, none⟩ = some (.int .i64 0) := b2.cell 1
    have f0 := b2.frozen 0
    have f1 := b2.frozen 1
    clear hb b2 HB HK HZ
    by_cases hz0 : 0 ≤ z
    · have HR2 := Lib.hid (show faultOf c l lo hi = (14, z) by rw [HR.out, if_pos hz0])
      clear HR
      go_wp2_with fail
      exact ret_fault rfl rfl rfl (laidF_is HB2.out.1 HB2.out.2 _ _).1 (faults_of HR2.out (laidF_is HB2.out.1 HB2.out.2 _ _).2)
    · have HR2 := Lib.hid (show faultOf c l lo hi = (0, 0) by rw [HR.out, if_neg hz0])
      clear HR
      go_wp2_with fail
      exact ret_fault rfl rfl rfl (laidF_is HB2.out.1 HB2.out.2 _ _).1 (faults_of HR2.out (laidF_is HB2.out.1 HB2.out.2 _ _).2)
end Go.Proofs.YtdliookdmgilgaaGreatDoor
