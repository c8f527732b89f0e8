/-
  The walk of GraphiteParts. No statement of the seat is proved here.
-/
import Derived.Test.YtmaiggoinjldpaaDoorLawGBack
namespace Go.Proofs.YtmaiggoinjldpaaDoor
open Go.RowKit
open Dc (D D0)

theorem check_name (l : List UInt8) : (checkM (oneG l D0 0) = 0) ↔ nameR l = true := by
  unfold checkM
  rw [restM_zero]
  refine ⟨fun h => h.1, fun h => ⟨h, show kindR 2 = true by decide, ?_, show rateR 2 1000000 = true by decide, rfl, show timeR 0 = true by decide⟩⟩
  show valsR (okV [D0]) 1 = true
  decide +kernel
theorem cell_three {w W : World} {L : List (Nat × TypeId × List Value)} {M : List (ByteArray × Option Addr × Nat × Option Addr × Nat × Mt)} {g : Nat} {t : TypeId} {T : Nat → ByteArray} (h : Kb w L M W) (hm : (g, t, [.string (T 0), .string (T 1), .string (T 2)]) ∈ L) {i : Nat} (hi : i < 3) : W.cell? ⟨g, i, none⟩ = some (.string (T i)) := by
  rcases (by omega : i = 0 ∨ i = 1 ∨ i = 2) with rfl | rfl | rfl
  · exact h.cell hm rfl
  · exact h.cell hm rfl
  · exact h.cell hm rfl

set_option maxRecDepth 100000 in
set_option maxHeartbeats 4000000 in
theorem gparts_walk (T : Nat → ByteArray) (w : World) (ht : Tab w) : Calls Tryd.prog 5 #[.agg #[.string (T 0), .string (T 1), .string (T 2)]] w fun e w' => e = .returned (.bool true) ∧ Below w.heap.size w w' := by
  obtain ⟨Lt, hLt⟩ : ∃ Lt : Nat → List UInt8, ∀ i, Str (T i) (Lt i) := ⟨fun i => (T i).data.toList, fun i => Str.self _⟩
  have HT := Lib.hid ht
  have HL := Lib.hid hLt
  have HB := Lib.hid ((Kb.start w).push 39 [.string (T 0), .string (T 1), .string (T 2)])
  clear ht hLt
  go_enter Tryd.func5, Tryd.ntmps5
  go_wp2_with fail
  generalize World.alloc w _ = W1 at HB ⊢
  go_loopw [3] (fun v wr => ∃ i : Nat, v = .int .i64 i ∧ i ≤ 3 ∧ W1 = wr ∧ Hid (∀ j, j < i → (Lt j).length ≤ 250 ∧ (32 : UInt8) ∉ Lt j)) (fun v _ => 3 - (intOf v).toNat)
  case atStart => exact ⟨0, rfl, by omega, rfl, fun j h => absurd h (by omega)⟩
  case round =>
    obtain ⟨i, rfl, hi, hw, hrel⟩ := hrel
    subst hw
    by_cases hlt : i < 3
    · have hi0 : (0 : Int) ≤ (i : Int) := by omega
      have hi3 : (i : Int) < 3 := by omega
      have hc := cell_three HB.out (.head _) hlt
      have hs := HL.out i
      obtain ⟨t, htt⟩ : ∃ t, T i = t := ⟨_, rfl⟩
      obtain ⟨l, hll⟩ : ∃ l, Lt i = l := ⟨_, rfl⟩
      rw [htt] at hc
      rw [htt, hll] at hs
      have hsz : (t.size : Int) = (l.length : Int) := by rw [hs.size]
      have HS := Lib.hid (And.intro hs hll)
      clear hs htt hll
      by_cases hbig : 250 < (t.size : Int)
      · go_wp2_with fail
        refine (HB.out.awake12_ HT.out).mono ?_
        rintro e w2 ⟨rfl, hb⟩
        have HB2 := Lib.hid hb
        clear hb HB hc
        go_wp2_with fail
        go_ret
        exact ⟨rfl, HB2.out.kept⟩
      · go_wp2_with fail
        have HR := Lib.hid hrel.out
        clear hrel
        go_loopw [4] (fun v wr => ∃ k : Nat, v = .int .i64 k ∧ k ≤ l.length ∧ W1 = wr ∧ Hid (∀ m (h : m < l.length), m < k → l[m] ≠ 32)) (fun v _ => l.length - (intOf v).toNat)
        case atStart => exact ⟨0, rfl, Nat.zero_le _, rfl, fun m h h2 => absurd h2 (by omega)⟩
        case round =>
          obtain ⟨k, rfl, hk, hw, hrel⟩ := hrel
          subst hw
          have hk0 : (0 : Int) ≤ (k : Int) := by omega
          by_cases hlt2 : k < l.length
          · have hidx := HS.out.1.index (i := (k : Int)) k rfl hlt2
            have hkl : (k : Int) < (t.size : Int) := by omega
            obtain ⟨y, hy⟩ : ∃ y : Int, (l[k].toNat : Int) = y := ⟨_, rfl⟩
            rw [hy] at hidx
            by_cases hy32 : y = 32
            · subst hy32
              go_wp2_with fail
              refine (HB.out.awake12_ HT.out).mono ?_
              rintro e w2 ⟨rfl, hb⟩
              have HB2 := Lib.hid hb
              clear hb HB hc
              go_wp2_with fail
              go_ret
              exact ⟨rfl, HB2.out.kept⟩
            · have hyb : (y == 32) = false := by simpa using hy32
              have HN := Lib.hid (show l[k] ≠ 32 from fun e => hy32 (by rw [← hy, e]; rfl))
              clear hy hy32
              go_wp2_with fail
              refine ⟨⟨k + 1, by go_num, by omega, by simp, fun m h h2 => ?_⟩, by simp [intOf]; omega⟩
              rcases Nat.lt_or_ge m k with h' | h'
              · exact hrel.out m h h'
              · obtain rfl : k = m := by omega
                exact HN.out
          · have hkl : ¬ (k : Int) < (t.size : Int) := by omega
            have HN := Lib.hid (show (Lt i).length ≤ 250 ∧ (32 : UInt8) ∉ Lt i by
              rw [HS.out.2]
              refine ⟨by omega, fun hm => ?_⟩
              obtain ⟨m, hm1, hm2⟩ := List.mem_iff_getElem.1 hm
              exact hrel.out m hm1 (by omega) hm2)
            go_wp2_with fail
            refine ⟨⟨i + 1, by go_num, by omega, by simp, fun j hj => ?_⟩, by simp [intOf]; omega⟩
            rcases Nat.lt_or_ge j i with h' | h'
            · exact HR.out j h'
            · obtain rfl : i = j := by omega
              exact HN.out
    · obtain rfl : i = 3 := by omega
      obtain ⟨z0, b0⟩ := hrel.out 0 (by omega)
      obtain ⟨z1, b1⟩ := hrel.out 1 (by omega)
      obtain ⟨z2, b2⟩ := hrel.out 2 (by omega)
      have h0 := HL.out 0
      have h1 := HL.out 1
      have h2 := HL.out 2
      have c0 := cell_three HB.out (.head _) (i := 0) (by omega)
      have c1 := cell_three HB.out (.head _) (i := 1) (by omega)
      have c2 := cell_three HB.out (.head _) (i := 2) (by omega)
      have HPG := Lib.hid (parseG_parts b0 b1 b2)
      generalize T 0 = T0 at *
      generalize T 1 = T1 at *
      generalize T 2 = T2 at *
      generalize Lt 0 = l0 at *
      generalize Lt 1 = l1 at *
      generalize Lt 2 = l2 at *
      have y0 : (T0.size : Int) = (l0.length : Int) := by rw [h0.size]
      have y1 : (T1.size : Int) = (l1.length : Int) := by rw [h1.size]
      have y2 : (T2.size : Int) = (l2.length : Int) := by rw [h2.size]
      have zz : ((⟨#[32]⟩ : ByteArray).size : Int) = 1 := rfl
      have za := sizeG_add
      have hU : Str (T0 ++ (⟨#[32]⟩ : ByteArray) ++ T1 ++ (⟨#[32]⟩ : ByteArray) ++ T2) (l0 ++ 32 :: (l1 ++ 32 :: l2)) := lineG_pieces h0 h1 h2
      obtain ⟨m, cm, am, hp⟩ : ∃ m cm am, parseG (l0 ++ 32 :: (l1 ++ 32 :: l2)) = (m, cm, am) := ⟨_, _, _, rfl⟩
      obtain ⟨d, cd, ad, hd⟩ : ∃ d cd ad, Dc.parse l1 = (d, cd, ad) := ⟨_, _, _, rfl⟩
      obtain ⟨t, ct, at_, hq⟩ : ∃ t ct at_, parsed l2 1 1099511627776 = (t, ct, at_) := ⟨_, _, _, rfl⟩
      have hpg := HPG.out
      rw [hp, hd, show parsed l2 1 MaxT = (t, ct, at_) from hq] at hpg
      have HU := Lib.hid (And.intro hU (And.intro (show (l0 ++ 32 :: (l1 ++ 32 :: l2)).length ≤ 9000 by simp; omega) hp))
      have HPD := Lib.hid (fun W => (Dc.parse_calls T1 _ h1 (by omega) W).mono fun _ _ k => parses_says hd k)
      have HQ := Lib.hid (fun W => (ntime_calls T2 _ h2 (by omega) W).mono fun _ _ k => told3_says hq k)
      have HX := Lib.hid (And.intro hpg (And.intro h0 (And.intro hd hq)))
      have gz : (l0.length : Int) ≤ 250 ∧ (l1.length : Int) ≤ 250 ∧ (l2.length : Int) ≤ 250 := by omega
      clear hpg hU hp hd hq HPG HL h0 h1 h2 b0 b1 b2 z0 z1 z2 hrel
      go_wp2_with fail
      refine (HB.out.gparse_ HU.out.1 HU.out.2.1 HU.out.2.2).mono ?_
      rintro e w2 ⟨s1, A1, n1, ca1, B1, k1, cb1, rfl, hb⟩
      have HB2 := Lib.hid (hb.lay2 (.string s1) (.int .i64 m.kind) (.slice A1 n1 ca1) (.int .i64 m.rate) (.slice B1 k1 cb1) (.int .i64 m.time) (.int .i64 cm) (.int .i64 am))
      clear hb HB c0 c1 c2 HU
      have c1 := HB2.out.cell (g := w.heap.size) (i := 1) (.tail _ (.tail _ (.head _))) rfl
      go_wp2_with fail
      refine (HPD.out _).mono ?_
      rintro e w3 ⟨rfl, hb⟩
      have HB3 := Lib.hid (((HB2.out.next hb).push 42 [.bool d.neg, .int .u64 d.c, .int .i64 d.e]).pushAt (g := w3.heap.size + 1) (by rw [size_alloc]) 29 [.int .i64 cd, .int .i64 ad])
      clear hb HB2 HPD c1
      have c2 := HB3.out.cell (g := w.heap.size) (i := 2) (.tail _ (.tail _ (.tail _ (.tail _ (.head _))))) rfl
      go_wp2_with fail
      refine (HQ.out _).mono ?_
      rintro e w4 ⟨rfl, hb⟩
      have HB4 := Lib.hid ((HB3.out.next hb).push 29 [.int .i64 ct, .int .i64 at_])
      clear hb HB3 HQ c2
      have c0 := HB4.out.cell (g := w.heap.size) (i := 0) (.tail _ (.tail _ (.tail _ (.tail _ (.tail _ (.head _)))))) rfl
      obtain ⟨q, hq⟩ : ∃ q, checkM (oneG l0 D0 0) = q := ⟨_, rfl⟩
      have HK := Lib.hid hq
      have hsm : Small (oneG l0 D0 0) := ⟨by show l0.length ≤ 1000; omega, by show 1 ≤ 1000; omega, fun d' hd' => (by rcases List.mem_singleton.1 hd' with rfl; exact Dc.D0_one.fits), by show 0 ≤ 200; omega, fun t ht => by cases ht⟩
      have HC := Lib.hid ((((HB4.out.push 42 [.bool false, .int .u64 0, .int .i64 0]).mAdd (show MIs _ T0 (some ⟨w4.heap.size + 1, 0, none⟩) 1 none 0 (oneG l0 D0 0) from ⟨HX.out.2.1, rfl, decs_at (size_alloc _ _) (d := D0) ⟨rfl, rfl, rfl⟩, rfl, Tags.nil⟩)).check_ (.head _) hsm hq 1 0))
      clear hq hsm
      go_wp2_with fail
      refine HC.out.mono ?_
      rintro e w5 ⟨rfl, hb⟩
      have HB5 := Lib.hid hb
      clear hb HB4 HC c0
      have hg := fguard
      have f0 := HB5.out.cell (g := w2.heap.size + 1) (i := 0) (.tail _ (.tail _ (.tail _ (.tail _ (.head _))))) rfl
      have f1 := HB5.out.cell (g := w2.heap.size + 1) (i := 1) (.tail _ (.tail _ (.tail _ (.tail _ (.head _))))) rfl
      have g0 := HB5.out.cell (g := w3.heap.size + 1) (i := 0) (.tail _ (.tail _ (.head _))) rfl
      have g1 := HB5.out.cell (g := w3.heap.size + 1) (i := 1) (.tail _ (.tail _ (.head _))) rfl
      have h0 := HB5.out.cell (g := w4.heap.size) (i := 0) (.tail _ (.head _)) rfl
      have h1 := HB5.out.cell (g := w4.heap.size) (i := 1) (.tail _ (.head _)) rfl
      have c0 := HB5.out.cell (g := w.heap.size) (i := 0) (.tail _ (.tail _ (.tail _ (.tail _ (.tail _ (.tail _ (.head _))))))) rfl
      have c1 := HB5.out.cell (g := w.heap.size) (i := 1) (.tail _ (.tail _ (.tail _ (.tail _ (.tail _ (.tail _ (.head _))))))) rfl
      have hpg := HX.out.1
      by_cases hn : nameR l0 = true
      rotate_left
      · have hqb : (q == 0) = false := by
          have : q ≠ 0 := fun e => hn ((check_name l0).1 (HK.out.trans e))
          simpa using this
        rw [if_pos (by simpa using hn)] at hpg
        injection hpg with e1 e2
        injection e2 with e2 e3
        have HE := Lib.hid (And.intro e2 e3)
        clear hn e1 e2 e3
        have q1 := fun w => feq_run (x := cm) (y := am) (u := 15) (v := 0) (q := true) (by rw [HE.out.1, HE.out.2]; exact decide_eq_true rfl) w
        go_wp2_with fail
        refine (HB5.out.awake12_ HT.out).mono ?_
        rintro e w6 ⟨rfl, hb⟩
        have HB6 := Lib.hid hb
        clear hb HB5
        go_wp2_with fail
        go_ret
        exact ⟨rfl, HB6.out.kept⟩
      obtain rfl : 0 = q := ((check_name l0).2 hn).symm.trans HK.out
      rw [if_neg (by simp [hn])] at hpg
      by_cases hcd : cd = 0
      rotate_left
      · rw [if_pos hcd] at hpg
        injection hpg with e1 e2
        injection e2 with e2 e3
        have HE := Lib.hid (And.intro e2 e3)
        have q2 := fun w => fne_run (x := cd) (y := ad) (u := 0) (v := 0) (q := false) (decide_eq_false fun e => hcd (congrArg Prod.fst e)) w
        clear hn e1 e2 e3 hcd
        have q1 := fun w => feq_run (x := cm) (y := am) (u := 17) (v := (l0.length : Int) + 1) (q := true) (by rw [HE.out.1, HE.out.2]; exact decide_eq_true (by simp)) w
        go_wp2_with fail
        refine (HB5.out.awake12_ HT.out).mono ?_
        rintro e w6 ⟨rfl, hb⟩
        have HB6 := Lib.hid hb
        clear hb HB5
        go_wp2_with fail
        go_ret
        exact ⟨rfl, HB6.out.kept⟩
      subst hcd
      obtain rfl : 0 = ad := by
        obtain ⟨d', k1, _⟩ := parse_zero (v := l1) (by rw [HX.out.2.2.1])
        have k2 := HX.out.2.2.1.symm.trans k1
        injection k2 with _ k2
        injection k2 with _ k2
        exact k2.symm
      rw [if_neg (by simp)] at hpg
      have q2 := fun w => fne_run (x := 0) (y := 0) (u := 0) (v := 0) (q := true) (by decide) w
      by_cases hct : ct = 0
      rotate_left
      · rw [if_pos hct] at hpg
        injection hpg with e1 e2
        injection e2 with e2 e3
        have HE := Lib.hid (And.intro e2 e3)
        have q3 := fun w => fne_run (x := ct) (y := at_) (u := 0) (v := 0) (q := false) (decide_eq_false fun e => hct (congrArg Prod.fst e)) w
        clear hn e1 e2 e3 hct
        have q1 := fun w => feq_run (x := cm) (y := am) (u := 20) (v := (l0.length : Int) + (l1.length : Int) + 2) (q := true) (by rw [HE.out.1, HE.out.2]; exact decide_eq_true (by congr 1; omega)) w
        go_wp2_with fail
        refine (HB5.out.awake12_ HT.out).mono ?_
        rintro e w6 ⟨rfl, hb⟩
        have HB6 := Lib.hid hb
        clear hb HB5
        go_wp2_with fail
        go_ret
        exact ⟨rfl, HB6.out.kept⟩
      subst hct
      obtain rfl : 0 = at_ := by
        obtain ⟨t', k1, _⟩ := parsed_zero (l := l2) (by show (parsed l2 1 1099511627776).2.1 = 0; rw [HX.out.2.2.2])
        have k2 := HX.out.2.2.2.symm.trans k1
        injection k2 with _ k2
        injection k2 with _ k2
        exact k2.symm
      rw [if_neg (by simp)] at hpg
      injection hpg with e1 e2
      injection e2 with e2 e3
      subst e1 e2 e3
      have q1 := fun w => feq_run (x := 0) (y := 0) (u := 0) (v := 0) (q := true) (by decide) w
      have d0 := HB5.out.cell (g := w3.heap.size) (i := 0) (.tail _ (.tail _ (.tail _ (.head _)))) rfl
      have d1 := HB5.out.cell (g := w3.heap.size) (i := 1) (.tail _ (.tail _ (.tail _ (.head _)))) rfl
      have d2 := HB5.out.cell (g := w3.heap.size) (i := 2) (.tail _ (.tail _ (.tail _ (.head _)))) rfl
      clear hn
      go_upto_region 22 with fail
      have HB7 := Lib.hid (((HB5.out.push 42 [.bool d.neg, .int .u64 d.c, .int .i64 d.e]).pushAt (g := w5.heap.size + 1) (by rw [size_alloc]) 26 [.string T0, .int .i64 2, .slice (some ⟨w5.heap.size, 0, none⟩) 1 1, .int .i64 1000000, .slice none 0 0, .int .i64 t]).mAdd (show MIs _ T0 (some ⟨w5.heap.size, 0, none⟩) 1 none 0 (oneG l0 d t) from ⟨HX.out.2.1, rfl, (decs_at rfl (Dl.mk_ d)).alloc _, rfl, Tags.nil⟩))
      have hsm : Small (oneG l0 d t) := by
        obtain ⟨d', k1, k2⟩ := parse_zero (v := l1) (by rw [HX.out.2.2.1])
        have k3 := HX.out.2.2.1.symm.trans k1
        injection k3 with k3 _
        subst k3
        exact ⟨by show l0.length ≤ 1000; omega, by show 1 ≤ 1000; omega, fun d' hd' => (by rcases List.mem_singleton.1 hd' with rfl; exact k2.fits), by show 0 ≤ 200; omega, fun t ht => by cases ht⟩
      have HE := Lib.hid (HB7.out.equal_ (.tail _ (.tail _ (.head _))) (.head _) hsm (decide_eq_true rfl) ca1 cb1 1 0)
      clear f0 f1 g0 g1 h0 h1 c0 c1 d0 d1 d2 hsm
      have f0 := HB7.out.cell (g := w2.heap.size + 1) (i := 0) (.tail _ (.tail _ (.tail _ (.tail _ (.tail _ (.tail _ (.head _))))))) rfl
      have f1 := HB7.out.cell (g := w2.heap.size + 1) (i := 1) (.tail _ (.tail _ (.tail _ (.tail _ (.tail _ (.tail _ (.head _))))))) rfl
      obtain ⟨m0, m1, m2, m3, m4, m5⟩ := HB7.out.six (g := w2.heap.size) (.tail _ (.tail _ (.tail _ (.tail _ (.tail _ (.tail _ (.tail _ (.head _))))))))
      obtain ⟨n0, n1', n2, n3, n4, n5⟩ := HB7.out.six (g := w5.heap.size + 1) (.head _)
      generalize World.alloc _ (.cells #[.string T0, _, _, _, _, _] 26) = W7 at HB7 HE f0 f1 m0 m1 m2 m3 m4 m5 n0 n1' n2 n3 n4 n5 ⊢
      go_wp2_with fail
      refine HE.out.mono ?_
      rintro e w8 ⟨rfl, hb⟩
      have HB8 := Lib.hid hb
      clear hb HB7 HE f0 f1 m0 m1 m2 m3 m4 m5 n0 n1' n2 n3 n4 n5
      go_wp2_with fail
      refine (HB8.out.awake12_ HT.out).mono ?_
      rintro e w9 ⟨rfl, hb⟩
      have HB9 := Lib.hid hb
      clear hb HB8
      go_wp2_with fail
      go_ret
      exact ⟨rfl, HB9.out.kept⟩
end Go.Proofs.YtmaiggoinjldpaaDoor
