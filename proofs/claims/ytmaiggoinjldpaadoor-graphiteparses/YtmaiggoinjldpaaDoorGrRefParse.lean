/-
  The document's Parse of lines of Graphite. No statement of the seat is proved here.
-/
import Derived.Test.YtmaiggoinjldpaaDoorSdRes
import Derived.Test.YtmaiggoinjldpaaDoorGrGrParts
import Derived.Test.YtmaiggoinjldpaaDoorOgRefT
import Derived.RegionTactic
import Derived.ChangeAlike
import Derived.BigRegion
import Derived.Deep.DeepCutAuto
import Derived.Deep.CutBlock
namespace Go.Proofs.YtmaiggoinjldpaaDoor
open Go.RowKit
open Dc (D D0)

theorem findG_says {s : ByteArray} {l : List UInt8} (h : Str s l) (hz : l.length ≤ 100000) (n b : Nat) (i : Int) (z : Int) (c : UInt8) (hi : (n : Int) = i) (hc : (c.toNat : Int) = z) (hn : n ≤ l.length) (hb : findB l n c = b) (w : World) :
    Calls Tryd.prog 21 #[.string s, .int .i64 i, .int .u8 z] w fun e w' => e = .returned (.int .i64 (b : Int)) ∧ w = w' := by
  subst hi hc hb
  exact find_calls s l h hz n hn c w
set_option maxRecDepth 100000 in
set_option maxHeartbeats 4000000 in
theorem rgwrong_calls (c a : Int) (w : World) : Calls Tryd.prog 23 #[.int .i64 c, .int .i64 a] w fun e w' => e = .returned (.tuple #[.agg #[.string ⟨#[]⟩, .int .i64 0, .slice none 0 0, .int .i64 0, .slice none 0 0, .int .i64 0], .agg #[.int .i64 c, .int .i64 a]]) ∧ Below w.heap.size w w' := by
  have HB := Lib.hid (((Kb.start w).push 26 [.string ⟨#[]⟩, .int .i64 0, .slice none 0 0, .int .i64 0, .slice none 0 0, .int .i64 0]).pushAt (g := w.heap.size + 1) (by rw [size_alloc]) 29 [.int .i64 c, .int .i64 a])
  go_enter Tryd.func23, Tryd.ntmps23
  go_wp2_with fail
  refine ret_mf (g := w.heap.size) (g' := w.heap.size + 1) rfl rfl rfl rfl (HB.out.box (_, _, _) (.tail _ (.head _))) (HB.out.box (_, _, _) (.head _)) ?_
  exact ⟨rfl, HB.out.kept⟩

set_option maxRecDepth 100000 in
set_option maxHeartbeats 4000000 in
theorem rgparse_calls {s : ByteArray} {l : List UInt8} (hs : Str s l) (hl : l.length ≤ 9000) (w : World) : Calls Tryd.prog 9 #[.string s] w (TellsM w (parseG l)) := by
  obtain ⟨a, ha⟩ : ∃ a, findB l 0 32 = a := ⟨_, rfl⟩
  obtain ⟨x, hx⟩ : ∃ x, parseG l = x := ⟨_, rfl⟩
  rw [hx]
  have hle := (findB_le l (Nat.zero_le _) 32).2
  rw [ha] at hle
  have hsz : (s.size : Int) = (l.length : Int) := by rw [hs.size]
  have hX := parseG_num ha
  rw [hx] at hX
  obtain ⟨S1, hS1, hcut1⟩ := hs.to_ (j := (a : Int)) a rfl hle
  rw [← btw_zero] at hS1
  obtain ⟨p, hp⟩ : ∃ p, nameR (btw l 0 a) = p := ⟨_, rfl⟩
  have hN := fun W => sname_calls hS1 (by rw [hS1.size, btw_len (by omega) hle]; omega) W
  simp only [hp] at hN
  rw [hp] at hX
  have HF := Lib.hid (findG_says hs (by omega) 0 a 0 32 32 rfl rfl (Nat.zero_le _) ha)
  have HX := Lib.hid hX
  have HS := Lib.hid hs
  have HS1 := Lib.hid hS1
  have HN := Lib.hid hN
  have HR := Lib.hid (ResS.start w)
  have ga : (0 : Int) ≤ (a : Int) ∧ (a : Int) ≤ 9000 := by omega
  clear hX hs hS1 hN ha hx hp
  go_enter Tryd.func9, Tryd.ntmps9
  go_wp2_with fail
  refine (HF.out _).mono ?_
  rintro e w1 ⟨rfl, rfl⟩
  clear HF
  go_wp2_with fail
  refine (HN.out _).mono ?_
  rintro e w2 ⟨rfl, hb⟩
  have HR2 := Lib.hid (HR.out.next hb)
  clear hb HR HN hcut1
  cases p
  · have HE := Lib.hid (show x = failS 15 0 by rw [HX.out]; rfl)
    go_wp2_with fail
    refine (rgwrong_calls 15 0 _).mono ?_
    rintro e wF ⟨rfl, hbF⟩
    have HRF := Lib.hid (HR2.out.next hbF)
    have HP := Lib.hid (HRF.out.fault 15 0)
    obtain ⟨c0, c1, c2, c3, c4, c5, c6, c7⟩ := HRF.out.cells
    obtain ⟨f0, f1, f2, f3, f4, f5, f6, f7⟩ := HRF.out.frozen
    clear hbF HRF HR2
    go_wp2_with fail
    refine ret_mf rfl rfl rfl rfl HP.out.one HP.out.two ?_
    exact HP.out.fault HE.out
  by_cases hal : a = l.length
  · have HE := Lib.hid (show x = failS 11 a by rw [HX.out, if_neg (by decide), if_pos hal, hal])
    have hab : ((a : Int) == (s.size : Int)) = true := by rw [hsz, hal]; simp
    clear hal
    go_wp2_with fail
    refine (rgwrong_calls 11 (a : Int) _).mono ?_
    rintro e wF ⟨rfl, hbF⟩
    have HRF := Lib.hid (HR2.out.next hbF)
    have HP := Lib.hid (HRF.out.fault 11 (a : Int))
    obtain ⟨c0, c1, c2, c3, c4, c5, c6, c7⟩ := HRF.out.cells
    obtain ⟨f0, f1, f2, f3, f4, f5, f6, f7⟩ := HRF.out.frozen
    clear hbF HRF HR2
    go_wp2_with fail
    refine ret_mf rfl rfl rfl rfl HP.out.one HP.out.two ?_
    exact HP.out.fault HE.out
  have hab : ((a : Int) == (s.size : Int)) = false := by rw [hsz]; simpa using fun h => hal (by omega)
  have HX2 := Lib.hid (show x = valueG (a + 1) l.length (btw l 0 a) (l.drop (a + 1)) by rw [HX.out, if_neg (by decide), if_neg hal])
  obtain ⟨b, hb⟩ : ∃ b, findB l (a + 1) 32 = b := ⟨_, rfl⟩
  have hlb := findB_le l (n := a + 1) (by omega) 32
  rw [hb] at hlb
  obtain ⟨S2, hS2, hcut2⟩ := HS.out.part (ki := .i64) (kj := .i64) (i := (a : Int) + 1) (j := (b : Int)) (a + 1) b (by omega) rfl hlb.1 hlb.2
  have hS2 : Str S2 (btw l (a + 1) b) := hS2
  obtain ⟨d, c', a', hd⟩ : ∃ d c' a', Dc.parse (btw l (a + 1) b) = (d, c', a') := ⟨_, _, _, rfl⟩
  have hP := fun W => (Dc.rparse_calls S2 _ hS2 (by rw [btw_len hlb.1 hlb.2]; omega) W).mono fun _ _ k => parses_says hd k
  have hv := valueG_num (by omega) hb l.length (btw l 0 a)
  rw [← HX2.out, hd] at hv
  have HX3 := Lib.hid hv
  have HF := Lib.hid (findG_says HS.out (by omega) (a + 1) b ((a : Int) + 1) 32 32 (by omega) rfl (by omega) hb)
  have HP := Lib.hid hP
  have HD := Lib.hid (And.intro hd hal)
  have gb : (0 : Int) ≤ (b : Int) ∧ (b : Int) ≤ 9000 := by omega
  clear hv hP hd hb hal HX HX2 hS2
  go_wp2_with fail
  refine (HF.out _).mono ?_
  rintro e w1 ⟨rfl, rfl⟩
  clear HF
  go_wp2_with fail
  refine (HP.out _).mono ?_
  rintro e w3 ⟨rfl, hb⟩
  have HR3 := Lib.hid (((HR2.out.next hb).alloc (.cells #[.bool d.neg, .int .u64 d.c, .int .i64 d.e] 42)).alloc (.cells #[.int .i64 c', .int .i64 a'] 29))
  have HBD := Lib.hid ((Box.new w3 42 [.bool d.neg, .int .u64 d.c, .int .i64 d.e]).alloc (.cells #[.int .i64 c', .int .i64 a'] 29))
  clear hb HR2 HP hcut2
  by_cases hc0 : c' = 0
  rotate_left
  · have HE := Lib.hid (show x = failS 17 (a + 1) by rw [HX3.out, if_pos hc0])
    have hcb : (c' != 0) = true := by simpa using hc0
    go_wp2_with fail
    refine (rgwrong_calls 17 ((a : Int) + 1) _).mono ?_
    rintro e wF ⟨rfl, hbF⟩
    have HRF := Lib.hid (HR3.out.next hbF)
    have HP := Lib.hid (HRF.out.fault 17 ((a : Int) + 1))
    obtain ⟨c0, c1, c2, c3, c4, c5, c6, c7⟩ := HRF.out.cells
    obtain ⟨f0, f1, f2, f3, f4, f5, f6, f7⟩ := HRF.out.frozen
    clear hbF HRF HR3
    go_wp2_with fail
    refine ret_mf rfl rfl rfl rfl HP.out.one HP.out.two ?_
    exact HP.out.fault HE.out
  subst hc0
  have HX4 := Lib.hid (show x = if b = l.length then failS 11 l.length else timeG (b + 1) (btw l 0 a) d (l.drop (b + 1)) by rw [HX3.out, if_neg (by simp)])
  clear HX3
  by_cases hbl : b = l.length
  · have HE := Lib.hid (show x = failS 11 b by rw [HX4.out, if_pos hbl, hbl])
    have hbb : ((b : Int) == (s.size : Int)) = true := by rw [hsz, hbl]; simp
    clear hbl
    go_wp2_with fail
    refine (rgwrong_calls 11 (b : Int) _).mono ?_
    rintro e wF ⟨rfl, hbF⟩
    have HRF := Lib.hid (HR3.out.next hbF)
    have HP := Lib.hid (HRF.out.fault 11 (b : Int))
    obtain ⟨c0, c1, c2, c3, c4, c5, c6, c7⟩ := HRF.out.cells
    obtain ⟨f0, f1, f2, f3, f4, f5, f6, f7⟩ := HRF.out.frozen
    clear hbF HRF HR3
    go_wp2_with fail
    refine ret_mf rfl rfl rfl rfl HP.out.one HP.out.two ?_
    exact HP.out.fault HE.out
  have hbb : ((b : Int) == (s.size : Int)) = false := by rw [hsz]; simpa using fun h => hbl (by omega)
  obtain ⟨c, hc⟩ : ∃ c, findB l (b + 1) 32 = c := ⟨_, rfl⟩
  have hlc := findB_le l (n := b + 1) (by omega) 32
  rw [hc] at hlc
  obtain ⟨S3, hS3, hcut3⟩ := HS.out.part (ki := .i64) (kj := .i64) (i := (b : Int) + 1) (j := (c : Int)) (b + 1) c (by omega) rfl hlc.1 hlc.2
  have hS3 : Str S3 (btw l (b + 1) c) := hS3
  obtain ⟨t, c2, a2, ht⟩ : ∃ t c2 a2, parsed (btw l (b + 1) c) 1 1099511627776 = (t, c2, a2) := ⟨_, _, _, rfl⟩
  have hQ := fun W => (rtime5_calls S3 _ hS3 (by rw [hS3.size, btw_len hlc.1 hlc.2]; omega) W).mono fun _ _ k => told3_says ht k
  have hv := timeG_num (by omega) hc (btw l 0 a) d
  rw [show timeG (b + 1) (btw l 0 a) d (l.drop (b + 1)) = x by rw [HX4.out, if_neg hbl], show parsed (btw l (b + 1) c) 1 MaxT = (t, c2, a2) from ht] at hv
  have HX5 := Lib.hid hv
  have HF := Lib.hid (findG_says HS.out (by omega) (b + 1) c ((b : Int) + 1) 32 32 (by omega) rfl (by omega) hc)
  have HQ := Lib.hid hQ
  have gc : (0 : Int) ≤ (c : Int) ∧ (c : Int) ≤ 9000 := by omega
  clear hv hQ ht hc hbl HX4 hS3
  go_wp2_with fail
  refine (HF.out _).mono ?_
  rintro e w1 ⟨rfl, rfl⟩
  clear HF
  go_wp2_with fail
  refine (HQ.out _).mono ?_
  rintro e w4 ⟨rfl, hb⟩
  have HR4 := Lib.hid ((HR3.out.next hb).alloc (.cells #[.int .i64 c2, .int .i64 a2] 29))
  have HBD4 := Lib.hid ((HBD.out.keep hb).alloc (.cells #[.int .i64 c2, .int .i64 a2] 29))
  clear hb HR3 HBD HQ hcut3
  by_cases hc2 : c2 = 0
  rotate_left
  · have HE := Lib.hid (show x = failS 20 (b + 1) by rw [HX5.out, if_pos hc2])
    have hcb : (c2 != 0) = true := by simpa using hc2
    go_wp2_with fail
    refine (rgwrong_calls 20 ((b : Int) + 1) _).mono ?_
    rintro e wF ⟨rfl, hbF⟩
    have HRF := Lib.hid (HR4.out.next hbF)
    have HP := Lib.hid (HRF.out.fault 20 ((b : Int) + 1))
    obtain ⟨c0, c1, c2, c3, c4, c5, c6, c7⟩ := HRF.out.cells
    obtain ⟨f0, f1, f2, f3, f4, f5, f6, f7⟩ := HRF.out.frozen
    clear hbF HRF HR4
    go_wp2_with fail
    refine ret_mf rfl rfl rfl rfl HP.out.one HP.out.two ?_
    exact HP.out.fault HE.out
  subst hc2
  have HX6 := Lib.hid (show x = if c = l.length then (oneG (btw l 0 a) d t, 0, 0) else failS 11 c by rw [HX5.out, if_neg (by simp)])
  clear HX5
  by_cases hcl : c = l.length
  rotate_left
  · have HE := Lib.hid (show x = failS 11 c by rw [HX6.out, if_neg hcl])
    have hcs : (c : Int) < (s.size : Int) := by omega
    clear hcl
    go_wp2_with fail
    refine (rgwrong_calls 11 (c : Int) _).mono ?_
    rintro e wF ⟨rfl, hbF⟩
    have HRF := Lib.hid (HR4.out.next hbF)
    have HP := Lib.hid (HRF.out.fault 11 (c : Int))
    obtain ⟨c0, c1, c2, c3, c4, c5, c6, c7⟩ := HRF.out.cells
    obtain ⟨f0, f1, f2, f3, f4, f5, f6, f7⟩ := HRF.out.frozen
    clear hbF HRF HR4
    go_wp2_with fail
    refine ret_mf rfl rfl rfl rfl HP.out.one HP.out.two ?_
    exact HP.out.fault HE.out
  have HE := Lib.hid (show x = (oneG (btw l 0 a) d t, 0, 0) by rw [HX6.out, if_pos hcl])
  have hcs : ¬ (c : Int) < (s.size : Int) := by omega
  obtain ⟨S5, hS5, hcut5⟩ := HS.out.to_ (j := (a : Int)) a rfl (by omega)
  have HS5 := Lib.hid (show Str S5 (btw l 0 a) by rw [btw_zero]; exact hS5)
  have hbd := HBD4.out
  have hr4 := HR4.out
  clear HX6 hcl hS5 HS1 HD HR4 HBD4
  go_wp2_with fail
  generalize World.alloc w4 _ = W5 at hbd hr4 ⊢
  generalize w3.heap.size = g3 at hbd ⊢
  have d0 : W5.cell? ⟨g3, 0, none⟩ = some (.bool d.neg) := hbd.cell 0
  have d1 : W5.cell? ⟨g3, 1, none⟩ = some (.int .u64 d.c) := hbd.cell 1
  have d2 : W5.cell? ⟨g3, 2, none⟩ = some (.int .i64 d.e) := hbd.cell 2
  obtain ⟨c0, c1, c2, c3, c4, c5, c6, c7⟩ := hr4.cells
  obtain ⟨f0, f1, f2, f3, f4, f5, f6, f7⟩ := hr4.frozen
  obtain ⟨m0, m1, m2, m3, m4, m5, m6, m7⟩ := (hr4.alloc (.cells #[.bool d.neg, .int .u64 d.c, .int .i64 d.e] 42)).cells
  obtain ⟨q0, q1, q2, q3, q4, q5, q6, q7⟩ := (hr4.alloc (.cells #[.bool d.neg, .int .u64 d.c, .int .i64 d.e] 42)).frozen
  have hmis : MIs (W5.alloc (.cells #[.bool d.neg, .int .u64 d.c, .int .i64 d.e] 42)) S5 (some ⟨W5.heap.size, 0, none⟩) 1 none 0 (oneG (btw l 0 a) d t) := ⟨HS5.out, rfl, decs_at rfl (Dl.mk_ d), rfl, Tags.nil⟩
  have HP := Lib.hid ((hr4.alloc (.cells #[.bool d.neg, .int .u64 d.c, .int .i64 d.e] 42)).put hmis 1 0 0 0)
  have HPD := Lib.hid HP.out.drewG
  clear hbd hr4 hmis
  go_region
  all_goals
    go_wp2_with fail
    refine ret_mf rfl rfl rfl rfl HPD.out.one HPD.out.two ?_
    exact HPD.out.toldG HE.out
end Go.Proofs.YtmaiggoinjldpaaDoor
