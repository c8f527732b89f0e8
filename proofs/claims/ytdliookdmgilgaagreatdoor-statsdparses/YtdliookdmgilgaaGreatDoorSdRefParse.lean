/-
  The document's Parse of lines of StatsD. No statement of the seat is proved here.
-/
import Derived.Test.YtdliookdmgilgaaGreatDoorSdRes
import Derived.Test.YtdliookdmgilgaaGreatDoorNRefRated
import Derived.RegionTactic
import Derived.ChangeAlike
import Derived.BigRegion
import Derived.Deep.DeepCutAuto
import Derived.Deep.CutBlock
namespace Go.Proofs.YtdliookdmgilgaaGreatDoor
open Go.RowKit
open Dc (D D0)

theorem find_says {s : ByteArray} {l : List UInt8} (h : Str s l) (hz : l.length ≤ 100000) (n b : Nat) (i : Int) (z : Int) (c : UInt8) (hi : (n : Int) = i) (hc : (c.toNat : Int) = z) (hn : n ≤ l.length) (hb : findB l n c = b) (w : World) :
    Calls Tryz.prog 37 #[.string s, .int .i64 i, .int .u8 z] w fun e w' => e = .returned (.int .i64 (b : Int)) ∧ w = w' := by
  subst hi hc hb
  exact find_calls s l h hz n hn c w
theorem parse_nil : (Dc.parse []).2.1 ≠ 0 := by decide +kernel
theorem btw_head {l : List UInt8} {n b : Nat} (h : n < b) (hb : b ≤ l.length) : (btw l n b).head? = some (l[n]'(by omega)) := by
  unfold btw
  rw [List.drop_eq_getElem_cons (by omega), show b - n = (b - n - 1) + 1 by omega, List.take_succ_cons]
  rfl
theorem drop_head {l : List UInt8} {n : Nat} (h : n < l.length) : (l.drop n).head? = some l[n] := by
  rw [List.drop_eq_getElem_cons h]; rfl

set_option maxRecDepth 100000 in
set_option maxHeartbeats 4000000 in
theorem rsparse_calls {s : ByteArray} {l : List UInt8} (hs : Str s l) (hl : l.length ≤ 600) (w : World) : Calls Tryz.prog 15 #[.string s] w (TellsM w (parseS l)) := by
  obtain ⟨a, ha⟩ : ∃ a, findB l 0 58 = a := ⟨_, rfl⟩
  obtain ⟨x, hx⟩ : ∃ x, parseS l = x := ⟨_, rfl⟩
  rw [hx]
  have hle := (findB_le l (Nat.zero_le _) 58).2
  rw [ha] at hle
  have hsz : (s.size : Int) = (l.length : Int) := by rw [hs.size]
  have hX := parseS_num ha
  rw [hx] at hX
  obtain ⟨S1, hS1, hcut1⟩ := hs.to_ (j := (a : Int)) a rfl hle
  rw [← btw_zero] at hS1
  obtain ⟨p, hp⟩ : ∃ p, nameR (btw l 0 a) = p := ⟨_, rfl⟩
  have hN := fun W => sname_calls hS1 (by rw [hS1.size, btw_len (by omega) hle]; omega) W
  simp only [hp] at hN
  rw [hp] at hX
  have HF := Lib.hid (find_says hs (by omega) 0 a 0 58 58 rfl rfl (Nat.zero_le _) ha)
  have HX := Lib.hid hX
  have HS := Lib.hid hs
  have HS1 := Lib.hid hS1
  have HN := Lib.hid hN
  have HR := Lib.hid (ResS.start w)
  have ga : (0 : Int) ≤ (a : Int) ∧ (a : Int) ≤ 600 := by omega
  clear hX hs hS1 hN ha hx hp
  go_enter Tryz.func15, Tryz.ntmps15
  go_wp2_with fail
  refine (HF.out _).mono ?_
  rintro e w1 ⟨rfl, rfl⟩
  clear HF
  go_wp2_with fail
  refine (HN.out _).mono ?_
  rintro e w2 ⟨rfl, hb⟩
  have HR2 := Lib.hid (HR.out.next hb)
  clear hb HR HN hcut1
  cases p
  · have HE := Lib.hid (show x = failS 15 0 by rw [HX.out]; rfl)
    go_wp2_with fail
    refine (rwrong_calls 15 0 _).mono ?_
    rintro e wF ⟨rfl, hbF⟩
    have HRF := Lib.hid (HR2.out.next hbF)
    have HP := Lib.hid (HRF.out.fault 15 0)
    obtain ⟨c0, c1, c2, c3, c4, c5, c6, c7⟩ := HRF.out.cells
    obtain ⟨f0, f1, f2, f3, f4, f5, f6, f7⟩ := HRF.out.frozen
    clear hbF HRF HR2
    go_wp2_with fail
    refine ret_mf rfl rfl rfl rfl HP.out.one HP.out.two ?_
    exact HP.out.fault HE.out
  by_cases hal : a = l.length
  · have HE := Lib.hid (show x = failS 11 a by rw [HX.out, if_neg (by decide), if_pos hal, hal])
    have hab : ((a : Int) == (s.size : Int)) = true := by rw [hsz, hal]; simp
    clear hal
    go_wp2_with fail
    refine (rwrong_calls 11 (a : Int) _).mono ?_
    rintro e wF ⟨rfl, hbF⟩
    have HRF := Lib.hid (HR2.out.next hbF)
    have HP := Lib.hid (HRF.out.fault 11 (a : Int))
    obtain ⟨c0, c1, c2, c3, c4, c5, c6, c7⟩ := HRF.out.cells
    obtain ⟨f0, f1, f2, f3, f4, f5, f6, f7⟩ := HRF.out.frozen
    clear hbF HRF HR2
    go_wp2_with fail
    refine ret_mf rfl rfl rfl rfl HP.out.one HP.out.two ?_
    exact HP.out.fault HE.out
  have hab : ((a : Int) == (s.size : Int)) = false := by rw [hsz]; simpa using fun h => hal (by omega)
  have HX2 := Lib.hid (show x = valueS (a + 1) l.length (btw l 0 a) (l.drop (a + 1)) by rw [HX.out, if_neg (by decide), if_neg hal])
  obtain ⟨b, hb⟩ : ∃ b, findB l (a + 1) 124 = b := ⟨_, rfl⟩
  have hlb := findB_le l (n := a + 1) (by omega) 124
  rw [hb] at hlb
  obtain ⟨S2, hS2, hcut2⟩ := HS.out.part (ki := .i64) (kj := .i64) (i := (a : Int) + 1) (j := (b : Int)) (a + 1) b (by omega) rfl hlb.1 hlb.2
  have hS2 : Str S2 (btw l (a + 1) b) := hS2
  obtain ⟨d, c', a', hd⟩ : ∃ d c' a', Dc.parse (btw l (a + 1) b) = (d, c', a') := ⟨_, _, _, rfl⟩
  have hP := fun W => (Dc.rparse_calls S2 _ hS2 (by rw [btw_len hlb.1 hlb.2]; omega) W).mono fun _ _ k => parses_says hd k
  have hv := valueS_num (by omega) hb l.length (btw l 0 a)
  rw [← HX2.out, hd] at hv
  have HX3 := Lib.hid hv
  have HF := Lib.hid (find_says HS.out (by omega) (a + 1) b ((a : Int) + 1) 124 124 (by omega) rfl (by omega) hb)
  have HP := Lib.hid hP
  have HD := Lib.hid (And.intro hd hal)
  have gb : (0 : Int) ≤ (b : Int) ∧ (b : Int) ≤ 600 := by omega
  clear hv hP hd hb hal HX HX2 hS2
  go_wp2_with fail
  refine (HF.out _).mono ?_
  rintro e w1 ⟨rfl, rfl⟩
  clear HF
  go_wp2_with fail
  refine (HP.out _).mono ?_
  rintro e w3 ⟨rfl, hb⟩
  have HR3 := Lib.hid (((HR2.out.next hb).alloc (.cells #[.bool d.neg, .int .u64 d.c, .int .i64 d.e] 50)).alloc (.cells #[.int .i64 c', .int .i64 a'] 34))
  have HBD := Lib.hid ((Box.new w3 50 [.bool d.neg, .int .u64 d.c, .int .i64 d.e]).alloc (.cells #[.int .i64 c', .int .i64 a'] 34))
  clear hb HR2 HP hcut2
  by_cases hc0 : c' = 0
  rotate_left
  · have HE := Lib.hid (show x = failS 17 (a + 1) by rw [HX3.out, if_pos hc0])
    have hcb : (c' != 0) = true := by simpa using hc0
    go_wp2_with fail
    refine (rwrong_calls 17 ((a : Int) + 1) _).mono ?_
    rintro e wF ⟨rfl, hbF⟩
    have HRF := Lib.hid (HR3.out.next hbF)
    have HP := Lib.hid (HRF.out.fault 17 ((a : Int) + 1))
    obtain ⟨c0, c1, c2, c3, c4, c5, c6, c7⟩ := HRF.out.cells
    obtain ⟨f0, f1, f2, f3, f4, f5, f6, f7⟩ := HRF.out.frozen
    clear hbF HRF HR3
    go_wp2_with fail
    refine ret_mf rfl rfl rfl rfl HP.out.one HP.out.two ?_
    exact HP.out.fault HE.out
  subst hc0
  have HX4 := Lib.hid (show x = if b = l.length then failS 11 l.length else wordS (a + 1) (b + 1) (btw l 0 a) (btw l (a + 1) b) d (l.drop (b + 1)) by rw [HX3.out, if_neg (by simp)])
  clear HX3
  by_cases hbl : b = l.length
  · have HE := Lib.hid (show x = failS 11 b by rw [HX4.out, if_pos hbl, hbl])
    have hbb : ((b : Int) == (s.size : Int)) = true := by rw [hsz, hbl]; simp
    clear hbl
    go_wp2_with fail
    refine (rwrong_calls 11 (b : Int) _).mono ?_
    rintro e wF ⟨rfl, hbF⟩
    have HRF := Lib.hid (HR3.out.next hbF)
    have HP := Lib.hid (HRF.out.fault 11 (b : Int))
    obtain ⟨c0, c1, c2, c3, c4, c5, c6, c7⟩ := HRF.out.cells
    obtain ⟨f0, f1, f2, f3, f4, f5, f6, f7⟩ := HRF.out.frozen
    clear hbF HRF HR3
    go_wp2_with fail
    refine ret_mf rfl rfl rfl rfl HP.out.one HP.out.two ?_
    exact HP.out.fault HE.out
  have hbb : ((b : Int) == (s.size : Int)) = false := by rw [hsz]; simpa using fun h => hbl (by omega)
  obtain ⟨c, hc⟩ : ∃ c, findB l (b + 1) 124 = c := ⟨_, rfl⟩
  have hlc := findB_le l (n := b + 1) (by omega) 124
  rw [hc] at hlc
  obtain ⟨S3, hS3, hcut3⟩ := HS.out.part (ki := .i64) (kj := .i64) (i := (b : Int) + 1) (j := (c : Int)) (b + 1) c (by omega) rfl hlc.1 hlc.2
  have hS3 : Str S3 (btw l (b + 1) c) := hS3
  obtain ⟨k, hk⟩ : ∃ k, kindOf (btw l (b + 1) c) = k := ⟨_, rfl⟩
  have hK := fun W => rkind_calls S3 _ hS3 W
  have hv := wordS_num (by omega) hc (a + 1) (btw l 0 a) (btw l (a + 1) b) d
  simp only [hk] at hK hv
  rw [show wordS (a + 1) (b + 1) (btw l 0 a) (btw l (a + 1) b) d (l.drop (b + 1)) = x by rw [HX4.out, if_neg hbl]] at hv
  have hne : a + 1 < b := by
    rcases Nat.lt_or_ge (a + 1) b with h | h
    · exact h
    · exfalso
      have h0 : btw l (a + 1) b = [] := by unfold btw; rw [show b - (a + 1) = 0 by omega]; rfl
      have h1 := HD.out.1
      rw [h0] at h1
      exact parse_nil (by rw [h1])
  rw [btw_head hne hlb.2] at hv
  have hix := HS.out.index (i := (a : Int) + 1) (a + 1) (by omega) (by omega)
  obtain ⟨y, hy⟩ : ∃ y, l[a + 1]'(by omega) = y := ⟨_, rfl⟩
  rw [hy] at hv hix
  have HX5 := Lib.hid hv
  have HF := Lib.hid (find_says HS.out (by omega) (b + 1) c ((b : Int) + 1) 124 124 (by omega) rfl (by omega) hc)
  have HK := Lib.hid hK
  have gc : (0 : Int) ≤ (c : Int) ∧ (c : Int) ≤ 600 := by omega
  have HM := Lib.hid (And.intro hbl (And.intro hne (And.intro hlb hlc)))
  clear hv hK hk hc hbl hy HX4 hS3
  go_wp2_with fail
  refine (HF.out _).mono ?_
  rintro e w1 ⟨rfl, rfl⟩
  clear HF
  go_wp2_with fail
  refine (HK.out _).mono ?_
  rintro e w4 ⟨rfl, hb⟩
  have HR4 := Lib.hid (HR3.out.next hb)
  have HBD4 := Lib.hid (HBD.out.keep hb)
  clear hb HR3 HBD HK hcut3
  by_cases hk0 : k = 0
  · have HE := Lib.hid (show x = failS 16 (b + 1) by rw [HX5.out, if_pos hk0])
    subst hk0
    go_wp2_with fail
    refine (rwrong_calls 16 ((b : Int) + 1) _).mono ?_
    rintro e wF ⟨rfl, hbF⟩
    have HRF := Lib.hid (HR4.out.next hbF)
    have HP := Lib.hid (HRF.out.fault 16 ((b : Int) + 1))
    obtain ⟨c0, c1, c2, c3, c4, c5, c6, c7⟩ := HRF.out.cells
    obtain ⟨f0, f1, f2, f3, f4, f5, f6, f7⟩ := HRF.out.frozen
    clear hbF HRF HR4
    go_wp2_with fail
    refine ret_mf rfl rfl rfl rfl HP.out.one HP.out.two ?_
    exact HP.out.fault HE.out
  have HX6 := Lib.hid (HX5.out.trans (if_neg hk0))
  have hkb : (k == 0) = false := by simpa using hk0
  obtain ⟨z, hz⟩ : ∃ z : Int, (y.toNat : Int) = z := ⟨_, rfl⟩
  rw [hz] at hix
  have HZ := Lib.hid (And.intro hz hk0)
  clear hz hk0 HX5
  obtain ⟨g, hgd⟩ : ∃ g : Bool, g = decide (k = 2 ∧ z = 45) := ⟨_, rfl⟩
  have HG := Lib.hid hgd
  clear hgd
  go_upto_region 16 with fail
  go_cut [86] from 14 (fun s86 wx => s86 = .bool g ∧ w4 = wx)
  case first =>
    rcases (by by_cases h : k = 2 <;> by_cases h2 : z = 45 <;> simp [h, h2] : (k == 2) = false ∨ ((k == 2) = true ∧ (z == 45) = false) ∨ ((k == 2) = true ∧ (z == 45) = true)) with hk2 | ⟨hk2, hzb⟩ | ⟨hk2, hzb⟩
    · have HE := Lib.hid (show g = false by rw [HG.out]; exact decide_eq_false fun h => by rw [h.1] at hk2; cases hk2)
      go_wp2_with fail
      go_meet
      exact ⟨by rw [HE.out], rfl⟩
    · have HE := Lib.hid (show g = false by rw [HG.out]; exact decide_eq_false fun h => by rw [h.2] at hzb; cases hzb)
      go_wp2_with fail
      go_meet
      exact ⟨by rw [HE.out], rfl⟩
    · have HE := Lib.hid (show g = true by rw [HG.out]; exact decide_eq_true ⟨by simpa using hk2, by simpa using hzb⟩)
      go_wp2_with fail
      go_meet
      exact ⟨by rw [HE.out], rfl⟩
  case rest =>
  obtain ⟨rfl, hwc⟩ := hcut
  subst hwc
  clear hix hkb
  cases g
  rotate_left
  · have hg : k = 2 ∧ z = 45 := of_decide_eq_true HG.out.symm
    obtain ⟨rfl, rfl⟩ := hg
    have HE := Lib.hid (show x = failS 26 (a + 1) by
      obtain rfl : y = 45 := UInt8.toNat_inj.1 (by have := HZ.out.1; show y.toNat = 45; omega)
      rw [HX6.out, if_pos ⟨rfl, rfl⟩])
    go_wp2_with fail
    refine (rwrong_calls 26 ((a : Int) + 1) _).mono ?_
    rintro e wF ⟨rfl, hbF⟩
    have HRF := Lib.hid (HR4.out.next hbF)
    have HP := Lib.hid (HRF.out.fault 26 ((a : Int) + 1))
    obtain ⟨c0, c1, c2, c3, c4, c5, c6, c7⟩ := HRF.out.cells
    obtain ⟨f0, f1, f2, f3, f4, f5, f6, f7⟩ := HRF.out.frozen
    clear hbF HRF HR4
    go_wp2_with fail
    refine ret_mf rfl rfl rfl rfl HP.out.one HP.out.two ?_
    exact HP.out.fault HE.out
  have hg : ¬ (k = 2 ∧ z = 45) := of_decide_eq_false HG.out.symm
  have HX7 := Lib.hid (show x = if c = l.length then (oneS (btw l 0 a) k d 1000000, 0, 0) else restS (c + 1) (btw l 0 a) k d (l.drop (c + 1)) by
    rw [HX6.out, if_neg]
    rintro ⟨h1, h2⟩
    injection h2 with h2
    subst h2
    exact hg ⟨h1, HZ.out.1.symm⟩)
  clear HX6 hg HG HZ
  obtain ⟨S5, hS5, hcut5⟩ := HS.out.to_ (j := (a : Int)) a rfl (by omega)
  have HS5 := Lib.hid (show Str S5 (btw l 0 a) by rw [btw_zero]; exact hS5)
  clear hS5 HS1 HD
  go_upto_region 18 with fail
  go_cut [10] from 14 (fun s10 wx => ∃ gm gs, s10 = .pointer (some ⟨gm, 0, none⟩) ∧ Hid (MetS w wx gm gs S5 k 1000000 d))
  case first =>
    have d0 : w4.cell? ⟨w3.heap.size, 0, none⟩ = some (.bool d.neg) := HBD4.out.cell 0
    have d1 : w4.cell? ⟨w3.heap.size, 1, none⟩ = some (.int .u64 d.c) := HBD4.out.cell 1
    have d2 : w4.cell? ⟨w3.heap.size, 2, none⟩ = some (.int .i64 d.e) := HBD4.out.cell 2
    have e0 : ∀ o, (w4.alloc o).cell? ⟨w3.heap.size, 0, none⟩ = some (.bool d.neg) := fun o => (HBD4.out.alloc o).cell 0
    have e1 : ∀ o, (w4.alloc o).cell? ⟨w3.heap.size, 1, none⟩ = some (.int .u64 d.c) := fun o => (HBD4.out.alloc o).cell 1
    have e2 : ∀ o, (w4.alloc o).cell? ⟨w3.heap.size, 2, none⟩ = some (.int .i64 d.e) := fun o => (HBD4.out.alloc o).cell 2
    go_region
    · go_wp2_with fail
      go_meet
      exact ⟨_, _, rfl, MetS.first HR4.out S5 k 1000000 d⟩
    · go_wp2_with fail
      go_meet
      exact ⟨_, _, rfl, MetS.second HR4.out S5 k 1000000 d⟩
  case rest =>
  obtain ⟨gm, gs, rfl, hm5⟩ := hcut
  have HM5 := Lib.hid hm5.out
  clear HR4 HBD4 hcut5 hm5
  obtain ⟨W5, hW5⟩ : ∃ W, W = wc := ⟨_, rfl⟩
  subst hW5
  by_cases hcl : c = l.length
  · have HE := Lib.hid (show x = (oneS (btw l 0 a) k d 1000000, 0, 0) by rw [HX7.out, if_pos hcl])
    have hcb : ((c : Int) == (s.size : Int)) = true := by rw [hsz, hcl]; simp
    obtain ⟨m0, m1, m2, m3, m4, m5⟩ := HM5.out.six
    obtain ⟨c0, c1, c2, c3, c4, c5, c6, c7⟩ := HM5.out.res.cells
    obtain ⟨f0, f1, f2, f3, f4, f5, f6, f7⟩ := HM5.out.res.frozen
    have HP := Lib.hid (HM5.out.put HS5.out)
    clear hcl HM5
    go_wp2_with fail
    refine ret_mf rfl rfl rfl rfl HP.out.one HP.out.two ?_
    exact HP.out.told HE.out
  have hcb : ((c : Int) == (s.size : Int)) = false := by rw [hsz]; simpa using fun h => hcl (by omega)
  have HX8 := Lib.hid (show x = restS (c + 1) (btw l 0 a) k d (l.drop (c + 1)) by rw [HX7.out, if_neg hcl])
  clear HX7
  by_cases h64 : (l.drop (c + 1)).head? = some 64
  rotate_left
  · have HE := Lib.hid (show x = failS 11 (c + 1) by rw [HX8.out]; exact restS_end _ _ _ _ h64)
    have HR5 := Lib.hid HM5.out.res
    clear HX8 HM5
    by_cases hc1 : c + 1 = l.length
    · have hsz2 : (s.size : Int) = (c : Int) + 1 := by omega
      clear hc1 h64 hsz
      go_wp2_with fail
      refine (rwrong_calls 11 ((c : Int) + 1) _).mono ?_
      rintro e wF ⟨rfl, hbF⟩
      have HRF := Lib.hid (HR5.out.next hbF)
      have HP := Lib.hid (HRF.out.fault 11 ((c : Int) + 1))
      obtain ⟨c0, c1, c2, c3, c4, c5, c6, c7⟩ := HRF.out.cells
      obtain ⟨f0, f1, f2, f3, f4, f5, f6, f7⟩ := HRF.out.frozen
      clear hbF HRF HR5
      go_wp2_with fail
      refine ret_mf rfl rfl rfl rfl HP.out.one HP.out.two ?_
      exact HP.out.fault HE.out
    · have hcb1 : ((c : Int) + 1 == (s.size : Int)) = false := by rw [hsz]; simpa using fun h => hc1 (by omega)
      have hix2 := HS.out.index (i := (c : Int) + 1) (c + 1) (by omega) (by omega)
      rw [drop_head (by omega)] at h64
      have hcs : (c : Int) + 1 < (s.size : Int) := by omega
      obtain ⟨y2, hy2⟩ : ∃ y2 : Int, ((l[c + 1]'(by omega)).toNat : Int) = y2 := ⟨_, rfl⟩
      rw [hy2] at hix2
      have hyb : (y2 != 64) = true := by
        simp only [bne_iff_ne, ne_eq]
        intro e
        exact h64 (congrArg some (UInt8.toNat_inj.1 (by show (l[c + 1]'(by omega)).toNat = 64; omega)))
      clear hc1 h64 hy2
      go_wp2_with fail
      refine (rwrong_calls 11 ((c : Int) + 1) _).mono ?_
      rintro e wF ⟨rfl, hbF⟩
      have HRF := Lib.hid (HR5.out.next hbF)
      have HP := Lib.hid (HRF.out.fault 11 ((c : Int) + 1))
      obtain ⟨c0, c1, c2, c3, c4, c5, c6, c7⟩ := HRF.out.cells
      obtain ⟨f0, f1, f2, f3, f4, f5, f6, f7⟩ := HRF.out.frozen
      clear hbF HRF HR5
      go_wp2_with fail
      refine ret_mf rfl rfl rfl rfl HP.out.one HP.out.two ?_
      exact HP.out.fault HE.out
  have hc1 : c + 1 < l.length := by
    rcases Nat.lt_or_ge (c + 1) l.length with h | h
    · exact h
    · rw [List.drop_of_length_le h] at h64; cases h64
  have hcb1 : ((c : Int) + 1 == (s.size : Int)) = false := by rw [hsz]; simp; omega
  have hcs : (c : Int) + 1 < (s.size : Int) := by omega
  have hix2 := HS.out.index (i := (c : Int) + 1) (c + 1) (by omega) hc1
  have hy2 : ((l[c + 1]'hc1).toNat : Int) = 64 := by
    rw [drop_head hc1] at h64
    injection h64 with h64
    rw [h64]; rfl
  rw [hy2] at hix2
  obtain ⟨e, he⟩ : ∃ e, findB l (c + 2) 124 = e := ⟨_, rfl⟩
  have hle2 := findB_le l (n := c + 2) (by omega) 124
  rw [he] at hle2
  obtain ⟨S6, hS6, hcut6⟩ := HS.out.part (ki := .i64) (kj := .i64) (i := (c : Int) + 2) (j := (e : Int)) (c + 2) e (by omega) rfl hle2.1 hle2.2
  have hS6 : Str S6 (btw l (c + 2) e) := hS6
  obtain ⟨r, c2, a2, hr⟩ : ∃ r c2 a2, rated (btw l (c + 2) e) = (r, c2, a2) := ⟨_, _, _, rfl⟩
  have hQ := fun W => (rrate_calls S6 _ hS6 (by rw [hS6.size, btw_len hle2.1 hle2.2]; omega) W).mono fun _ _ k => told3_says hr k
  have hv := restS_num h64 he (btw l 0 a) k d
  rw [← HX8.out, hr] at hv
  have HX9 := Lib.hid hv
  have HF := Lib.hid (find_says HS.out (by omega) (c + 2) e ((c : Int) + 2) 124 124 (by omega) rfl (by omega) he)
  have HQ := Lib.hid hQ
  have ge : (0 : Int) ≤ (e : Int) ∧ (e : Int) ≤ 600 := by omega
  clear hv hQ hr he hy2 HX8 hS6 h64 hcl
  go_wp2_with fail
  refine (HF.out _).mono ?_
  rintro e' w1 ⟨rfl, rfl⟩
  clear HF
  go_wp2_with fail
  refine (HQ.out _).mono ?_
  rintro e' w6 ⟨rfl, hb⟩
  have HM6 := Lib.hid ((HM5.out.next hb).alloc (.cells #[.int .i64 c2, .int .i64 a2] 34))
  clear hb HM5 HQ hcut6 hix2
  obtain ⟨g, hgd⟩ : ∃ g : Bool, g = decide (c2 ≠ 0 ∨ (k = 2 ∧ r ≠ 1000000)) := ⟨_, rfl⟩
  have HG := Lib.hid hgd
  clear hgd
  go_upto_region 25 with fail
  go_cut [145] from 14 (fun s145 wx => s145 = .bool g ∧ w6.alloc (.cells #[.int .i64 c2, .int .i64 a2] 34) = wx)
  case first =>
    rcases (by by_cases h : c2 = 0 <;> by_cases h2 : k = 2 <;> by_cases h3 : r = 1000000 <;> simp [h, h2, h3] : (c2 != 0) = true ∨ ((c2 != 0) = false ∧ (k == 2) = false) ∨ ((c2 != 0) = false ∧ (k == 2) = true ∧ (r != 1000000) = false) ∨ ((c2 != 0) = false ∧ (k == 2) = true ∧ (r != 1000000) = true)) with h1 | ⟨h1, h2⟩ | ⟨h1, h2, h3⟩ | ⟨h1, h2, h3⟩
    · have HE := Lib.hid (show g = true by rw [HG.out]; exact decide_eq_true (.inl (by simpa using h1)))
      go_wp2_with fail
      go_meet
      exact ⟨by rw [HE.out], rfl⟩
    · have HE := Lib.hid (show g = false by rw [HG.out]; exact decide_eq_false (by simp at h1 h2; simp [h1, h2]))
      go_wp2_with fail
      go_meet
      exact ⟨by rw [HE.out], rfl⟩
    · have HE := Lib.hid (show g = false by rw [HG.out]; exact decide_eq_false (by simp at h1 h3; simp [h1, h3]))
      go_wp2_with fail
      go_meet
      exact ⟨by rw [HE.out], rfl⟩
    · have HE := Lib.hid (show g = true by rw [HG.out]; exact decide_eq_true (.inr ⟨by simpa using h2, by simpa using h3⟩))
      go_wp2_with fail
      go_meet
      exact ⟨by rw [HE.out], rfl⟩
  case rest =>
  obtain ⟨rfl, hwc⟩ := hcut
  rw [hwc] at HM6
  clear hwc
  cases g
  rotate_left
  · have HE := Lib.hid (show x = failS 18 (c + 2) by rw [HX9.out, if_pos (of_decide_eq_true HG.out.symm)])
    have HR6 := Lib.hid HM6.out.res
    clear HM6 HX9
    go_wp2_with fail
    refine (rwrong_calls 18 ((c : Int) + 2) _).mono ?_
    rintro e wF ⟨rfl, hbF⟩
    have HRF := Lib.hid (HR6.out.next hbF)
    have HP := Lib.hid (HRF.out.fault 18 ((c : Int) + 2))
    obtain ⟨c0, c1, c2, c3, c4, c5, c6, c7⟩ := HRF.out.cells
    obtain ⟨f0, f1, f2, f3, f4, f5, f6, f7⟩ := HRF.out.frozen
    clear hbF HRF HR6
    go_wp2_with fail
    refine ret_mf rfl rfl rfl rfl HP.out.one HP.out.two ?_
    exact HP.out.fault HE.out
  have HXA := Lib.hid (show x = if e = l.length then (oneS (btw l 0 a) k d r, 0, 0) else failS 11 e by rw [HX9.out, if_neg (of_decide_eq_false HG.out.symm)])
  clear HX9 HG
  by_cases hel : e = l.length
  · have HE := Lib.hid (show x = (oneS (btw l 0 a) k d r, 0, 0) by rw [HXA.out, if_pos hel])
    have heb : ¬ (e : Int) < (s.size : Int) := by omega
    obtain ⟨m0, m1, m2, m3, m4, m5⟩ := HM6.out.six
    have fm := HM6.out.box.frozen 3
    have HM7 := Lib.hid (HM6.out.rate r)
    obtain ⟨n0, n1, n2, n3, n4, n5⟩ := HM7.out.six
    obtain ⟨c0, c1, c2, c3, c4, c5, c6, c7⟩ := HM7.out.res.cells
    obtain ⟨f0, f1, f2, f3, f4, f5, f6, f7⟩ := HM7.out.res.frozen
    have HP := Lib.hid (HM7.out.put HS5.out)
    clear hel HM6 HM7
    go_wp2_with fail
    refine ret_mf rfl rfl rfl rfl HP.out.one HP.out.two ?_
    exact HP.out.told HE.out
  · have HE := Lib.hid (show x = failS 11 e by rw [HXA.out, if_neg hel])
    have heb : (e : Int) < (s.size : Int) := by omega
    have HR6 := Lib.hid HM6.out.res
    clear HM6 hel
    go_wp2_with fail
    refine (rwrong_calls 11 (e : Int) _).mono ?_
    rintro e wF ⟨rfl, hbF⟩
    have HRF := Lib.hid (HR6.out.next hbF)
    have HP := Lib.hid (HRF.out.fault 11 (e : Int))
    obtain ⟨c0, c1, c2, c3, c4, c5, c6, c7⟩ := HRF.out.cells
    obtain ⟨f0, f1, f2, f3, f4, f5, f6, f7⟩ := HRF.out.frozen
    clear hbF HRF HR6
    go_wp2_with fail
    refine ret_mf rfl rfl rfl rfl HP.out.one HP.out.two ?_
    exact HP.out.fault HE.out
end Go.Proofs.YtdliookdmgilgaaGreatDoor
