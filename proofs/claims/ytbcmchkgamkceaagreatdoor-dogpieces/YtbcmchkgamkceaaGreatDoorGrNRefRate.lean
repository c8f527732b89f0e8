/-
  NRefRate, NRefRated. No statement of the seat is proved here.
-/
import Derived.Test.YtbcmchkgamkceaaGreatDoorGrNRate
import Derived.Test.YtbcmchkgamkceaaGreatDoorNRefDigits
import Derived.Test.YtbcmchkgamkceaaGreatDoorGrNPut
/-
  Layer 5: the document's RateText. No statement of the seat is proved here.
-/
namespace Go.Proofs.YtbcmchkgamkceaaGreatDoor
open Go.RowKit

theorem trim_stop {t : List UInt8} {x c : UInt8} (h : x ≠ c) : Lib.trimRightB (t ++ [x]) c = t ++ [x] := by
  unfold Lib.trimRightB
  rw [List.reverse_append]
  simp [h]
theorem list_last {l : List UInt8} (h : l ≠ []) : ∃ t x, l = t ++ [x] := ⟨l.dropLast, l.getLast h, (List.dropLast_concat_getLast h).symm⟩
theorem Str.last {s : ByteArray} {t : List UInt8} {x : UInt8} (h : Str s (t ++ [x])) : (s.size : Int) = (t.length : Int) + 1 ∧ (∀ W, (Instr.index 9 (.string s) (.int .i64 (t.length : Int))).run Tryz.prog W = .ok (.int .u8 (x.toNat : Int)) W) ∧
    ∃ q, Str q t ∧ ∀ W, (Instr.slice 9 (.string s) none (some (.int .i64 (t.length : Int))) none).run Tryz.prog W = .ok (.string q) W := by
  refine ⟨by rw [h.size]; simp, ?_, ?_⟩
  · have := h.index (i := (t.length : Int)) t.length rfl (by simp)
    simpa using this
  · obtain ⟨q, hq, hs⟩ := h.to_ (j := (t.length : Int)) t.length rfl (by simp)
    exact ⟨q, by simpa using hq, hs⟩

set_option maxRecDepth 100000 in
set_option maxHeartbeats 2000000 in
theorem rratetext_calls (n : Int) (h1 : 1 ≤ n) (h2 : n ≤ 1000000) (w : World) : Calls Tryz.prog 33 #[.int .i64 n] w fun e w' => e = .returned (.string ⟨(rateText n.toNat).toArray⟩) ∧ Below w.heap.size w w' := by
  by_cases hm : n = 1000000
  · subst hm
    go_enter Tryz.func33, Tryz.ntmps33
    go_wp2_with fail
    go_ret
    exact ⟨rfl, Below.refl _ _⟩
  · have hm' : (n == 1000000) = false := by simpa using hm
    have hlt : n.toNat < 1000000 := by omega
    have h0 : n.toNat ≠ 0 := by omega
    have hc := digits5_calls n.toNat (by unfold Two64; omega)
    have hcu : IntKind.u64.wrap n = n := by rw [IntKind.wrap_u64]; omega
    rw [show ((n.toNat : Nat) : Int) = n by omega] at hc
    obtain ⟨hv, hdd⟩ := val_decDigits n.toNat
    have hlen : (Lib.decDigits n.toNat).length ≤ 6 := by
      rw [Lib.decDigits_length]
      rcases Nat.lt_or_ge (Lib.nDigits n.toNat) 7 with h | h
      · omega
      · obtain ⟨b, r, e1, e2⟩ := decDigits_head n.toNat h0
        have hg := val_ge (r := r) (hdd b (by rw [e1]; simp)) e2
        rw [← e1, hv] at hg
        have hl2 := congrArg List.length e1
        rw [Lib.decDigits_length, List.length_cons] at hl2
        have := Nat.pow_le_pow_right (n := 10) (by decide) (show 6 ≤ r.length by omega)
        omega
    have hone := fun j (h : (List.replicate j (48 : UInt8) ++ Lib.decDigits n.toNat).length = 6) => six_unique (l := List.replicate j 48 ++ Lib.decDigits n.toNat) (n := n.toNat) ((digs_zeros j).append hdd) h (by rw [val_zeros_ahead, hv])
    have HONE := Lib.hid hone
    have HSIX := Lib.hid (six_is hlt)
    have HRT := Lib.hid (rateText_is hlt)
    have H0 := Lib.hid h0
    have HC := Lib.hid hc
    clear hone hv hdd hm hc h0 hlt
    obtain ⟨D, hD⟩ : ∃ D, D = Lib.decDigits n.toNat := ⟨_, rfl⟩
    rw [← hD] at HONE hlen HC
    clear hD
    go_enter Tryz.func33, Tryz.ntmps33
    go_wp2_with fail
    refine (HC.out _).mono ?_
    rintro e w1 ⟨rfl, k, rfl⟩
    have hDs := Str.mk D
    generalize (⟨D.toArray⟩ : ByteArray) = S0 at hDs HC ⊢
    have HDS := Lib.hid hDs
    clear hDs HC
    go_wp2_with fail
    go_loopw [3] (fun v3 wr => ∃ (s : ByteArray) (j : Nat), v3 = .string s ∧ wr = w.drewN k ∧ (s.size : Int) ≤ 6 ∧ (s.size : Int) = (j : Int) + (D.length : Int) ∧ Hid (Str s (List.replicate j 48 ++ D))) (fun v3 _ => 6 - Lib.strSize v3)
    case atStart => exact ⟨S0, 0, rfl, rfl, by rw [HDS.out.size]; omega, by rw [HDS.out.size]; omega, HDS.out⟩
    case round =>
      obtain ⟨s, j, rfl, rfl, hs6, hsj, hst⟩ := hrel
      by_cases h6 : (s.size : Int) < 6
      · have hz1 : ((⟨#[48]⟩ : ByteArray).size : Int) = 1 := rfl
        have hap := (show Str ⟨#[48]⟩ [48] from rfl).append hst.out
        have HAP := Lib.hid hap
        have hsz : ((⟨#[48]⟩ : ByteArray) ++ s).size = 1 + s.size := by rw [hap.size]; have := hst.out.size; simp at this ⊢; omega
        have HZ := Lib.hid hsz
        clear hap hsz
        go_wp2_with fail
        refine ⟨⟨_, j + 1, rfl, trivial, by rw [HZ.out]; omega, by rw [HZ.out]; omega, ?_⟩, ?_⟩
        · have := HAP.out
          rw [List.replicate_succ]
          exact this
        · have := HZ.out
          simp only [Lib.strSize]
          omega
      · have hsix := HONE.out j (by rw [← hst.out.size]; omega)
        rw [hsix] at hst
        have HST := Lib.hid hst.out
        clear hsix hst hsj HONE HDS
        go_wp2_with fail
        obtain ⟨wo, hwo⟩ : ∃ wo, wo = w.drewN k := ⟨_, rfl⟩
        rw [← hwo]
        have HWO := Lib.hid hwo
        clear hwo
        go_loopw [3] (fun v3 wr => ∃ (q : ByteArray) (d : List UInt8) (i : Nat), v3 = .string q ∧ wr = wo ∧ (q.size : Int) ≤ 6 ∧ Hid (Str q d ∧ d ++ List.replicate i 48 = six n.toNat)) (fun v3 _ => Lib.strSize v3)
        case atStart => exact ⟨s, six n.toNat, 0, rfl, rfl, hs6, HST.out, by simp⟩
        case round =>
          obtain ⟨q, d, i, rfl, rfl, hq6, hqd⟩ := hrel
          have hne : d ≠ [] := by
            rintro rfl
            have e := hqd.out.2
            have h4 := HSIX.out.2.2.2
            rw [← e, List.nil_append, val_zeros] at h4
            exact H0.out h4.symm
          obtain ⟨t, x, rfl⟩ := list_last hne
          obtain ⟨hz, hix, q2, hq2, hsl⟩ := hqd.out.1.last
          clear hne
          have hzt : (q.size : Int) - 1 = (t.length : Int) := by omega
          by_cases hx : (x.toNat : Int) = 48
          · have hx8 : x = 48 := UInt8.toNat_inj.1 (by show x.toNat = 48; omega)
            rw [hx] at hix
            have HX := Lib.hid (show Str q2 t ∧ t ++ List.replicate (i + 1) 48 = six n.toNat ∧ q2.size < q.size ∧ (q2.size : Int) ≤ 6 by
              refine ⟨hq2, ?_, by have := hq2.size; omega, by have := hq2.size; omega⟩
              have := hqd.out.2
              rw [hx8, List.append_assoc] at this
              rw [List.replicate_succ]
              exact this)
            clear hx hx8 hq2
            go_wp2_with fail
            exact ⟨⟨q2, t, i + 1, rfl, trivial, HX.out.2.2.2, HX.out.1, HX.out.2.1⟩, by have := HX.out.2.2.1; simp only [Lib.strSize]; omega⟩
          · obtain ⟨y, hy⟩ : ∃ y : Int, y = (x.toNat : Int) := ⟨_, rfl⟩
            rw [← hy] at hix hx
            have hx8 : x ≠ 48 := by rintro rfl; exact hx hy
            have hyb : (y == 48) = false := by simpa using hx
            have hres : rateText n.toNat = [48, 46] ++ (t ++ [x]) := by
              rw [HRT.out, ← hqd.out.2, trim_zeros, trim_stop hx8]; rfl
            have HE := Lib.hid (show (⟨#[48, 46]⟩ : ByteArray) ++ q = ⟨(rateText n.toNat).toArray⟩ by rw [hres]; exact (begin_str.append hqd.out.1).eq)
            have h2z : ((⟨#[48, 46]⟩ : ByteArray).size : Int) = 2 := rfl
            clear hx hy hx8 hres hq2
            go_wp2_with fail
            go_ret
            exact ⟨congrArg (fun z => Ending.returned (Value.string z)) HE.out, by rw [HWO.out]; exact Same.below (Same.drewN _ _)⟩
end Go.Proofs.YtbcmchkgamkceaaGreatDoor

/-
  Layer 5: the document's Rate. No statement of the seat is proved here.
-/
namespace Go.Proofs.YtbcmchkgamkceaaGreatDoor
open Go.RowKit

/-- What the document's Rate answers, told byte by byte. -/
theorem rated_nil : rated [] = (0, 13, 0) := by decide +kernel
theorem rated_first {a : UInt8} {t : List UInt8} (h : a ≠ 48) (h1 : a :: t ≠ [49]) : rated (a :: t) = (0, 11, 0) := by
  unfold rated
  rw [if_neg h1]
  have : rfault (a :: t) = (11, 0) := rf_zero (l := a :: t) (by simp) (by simpa using h)
  rw [this]
  rfl
theorem rated_point {t : List UInt8} (h : t.head? ≠ some 46) : rated (48 :: t) = (0, 11, 1) := by
  unfold rated
  rw [if_neg (by intro e; injection e with e _; revert e; decide)]
  have : rfault (48 :: t) = (11, 1) := by
    cases t with
    | nil => rfl
    | cons b d => rw [rf_eq2, if_neg (by simp), if_pos (by simpa using h)]
  rw [this]
  rfl
theorem rated_dots5 (d : List UInt8) : rated (48 :: 46 :: d) = if d = [] then (0, 13, 2) else if 0 ≤ bad 4 d then (0, 14, 2 + bad 4 d) else if 6 < d.length then (0, 12, 8) else if val (d ++ List.replicate (6 - d.length) 48) = 0 then (0, 10, 0) else ((val (d ++ List.replicate (6 - d.length) 48) : Int), 0, 0) := by
  unfold rated
  rw [if_neg (by intro e; injection e with e _; revert e; decide), rf_dots]
  have e6 : sixOf (48 :: 46 :: d) = d ++ List.replicate (6 - d.length) 48 := by unfold sixOf; simp
  rw [e6]
  by_cases h1 : d = []
  · simp only [if_pos h1]; rfl
  · simp only [if_neg h1]
    by_cases h2 : 0 ≤ bad 4 d
    · simp only [if_pos h2]; rfl
    · simp only [if_neg h2]
      by_cases h3 : 6 < d.length
      · simp only [if_pos h3]; rfl
      · simp only [if_neg h3]; rfl

set_option maxRecDepth 100000 in
set_option maxHeartbeats 4000000 in
theorem rrate_calls (s : ByteArray) (l : List UInt8) (h : Str s l) (hz : (s.size : Int) ≤ 9000) (w : World) : Calls Tryz.prog 77 #[.string s] w (Told3 w (rated l)) := by
  have hn : s.size = l.length := h.size
  have HNEW := Lib.hid (fun x y : Value => And.intro (Box.new w 42 [x, y]) ((Below.refl w.heap.size w).alloc (Nat.le_refl _) (.cells #[x, y] 42)))
  by_cases h1 : l = [49]
  · have HR := Lib.hid (show rated l = (1000000, 0, 0) by unfold rated; rw [if_pos h1])
    have hs : s = ⟨#[49]⟩ := by rw [h.eq, h1]
    subst hs
    clear h h1
    go_enter Tryz.func77, Tryz.ntmps77
    go_wp2_with fail
    refine ret_nf rfl rfl rfl rfl (HNEW.out _ _).1 ?_
    exact told3_of HR.out (HNEW.out _ _).2
  · have hs1 : (s.toList == [49]) = false := by rw [h.toList]; simpa using h1
    rcases l with _ | ⟨a, t⟩
    · have hs0 : s = ⟨#[]⟩ := h.eq
      subst hs0
      have HR := Lib.hid rated_nil
      clear h h1
      go_enter Tryz.func77, Tryz.ntmps77
      go_wp2_with fail
      refine ret_nf rfl rfl rfl rfl (HNEW.out _ _).1 ?_
      exact told3_of HR.out (HNEW.out _ _).2
    · have hs0 : (s.toList == []) = false := by rw [h.toList]; rfl
      have hi0 := h.index (i := 0) 0 rfl (by simp)
      simp only [List.getElem_cons_zero] at hi0
      obtain ⟨z, hzz⟩ : ∃ z : Int, z = (a.toNat : Int) := ⟨_, rfl⟩
      rw [← hzz] at hi0
      by_cases h48 : z = 48
      · obtain rfl : a = 48 := UInt8.toNat_inj.1 (by show a.toNat = 48; omega)
        subst h48
        have HH := Lib.hid h
        rcases t with _ | ⟨b, d⟩
        · have HR := Lib.hid (rated_point (t := []) (by simp))
          have hsz : (s.size : Int) = 1 := by rw [hn]; rfl
          clear h h1 hzz hn
          go_enter Tryz.func77, Tryz.ntmps77
          go_wp2_with fail
          refine ret_nf rfl rfl rfl rfl (HNEW.out _ _).1 ?_
          exact told3_of HR.out (HNEW.out _ _).2
        · have hi1 := h.index (i := 1) 1 rfl (by simp)
          simp only [List.getElem_cons_succ, List.getElem_cons_zero] at hi1
          obtain ⟨y, hyy⟩ : ∃ y : Int, y = (b.toNat : Int) := ⟨_, rfl⟩
          rw [← hyy] at hi1
          have hsz : (s.size : Int) = (d.length : Int) + 2 := by rw [hn]; simp; omega
          by_cases h46 : y = 46
          · obtain rfl : b = 46 := UInt8.toNat_inj.1 (by show b.toNat = 46; omega)
            subst h46
            obtain ⟨T, hT, hcut⟩ := h.from_ (i := 2) 2 rfl (by simp)
            have hT : Str T d := hT
            have hTz : (T.size : Int) = (d.length : Int) := by rw [hT.size]
            have HT := Lib.hid hT
            have HRD := Lib.hid (rated_dots5 d)
            obtain ⟨q, hq⟩ : ∃ q, rated (48 :: 46 :: d) = q := ⟨_, rfl⟩
            rw [hq] at HRD ⊢
            rcases d with _ | ⟨c, d'⟩
            · have hT0 : T = ⟨#[]⟩ := hT.eq
              subst hT0
              have HR := Lib.hid (show q = (0, 13, 2) by rw [HRD.out]; rfl)
              clear h h1 hzz hyy hn hT hq HRD
              go_enter Tryz.func77, Tryz.ntmps77
              go_wp2_with fail
              refine ret_nf rfl rfl rfl rfl (HNEW.out _ _).1 ?_
              exact told3_of HR.out (HNEW.out _ _).2
            · obtain ⟨D, hD⟩ : ∃ D, c :: d' = D := ⟨_, rfl⟩
              have hDne : D ≠ [] := by rw [← hD]; simp
              rw [hD] at HT HRD hTz hT hsz
              have hT0 : (T.toList == []) = false := by rw [hT.toList]; simpa using hDne
              obtain ⟨m, hm⟩ : ∃ m, m = bad 4 D := ⟨_, rfl⟩
              have HBD := Lib.hid (rbad_calls 4 (by decide) T D HT.out (by omega))
              rw [if_neg hDne, ← hm] at HRD
              rw [← hm] at HBD
              have HM := Lib.hid (And.intro hm hDne)
              have b0 := Box.new w 42 [.int .i64 0, .int .i64 0]
              clear h h1 hzz hyy hn hT hq hm hD hDne HH
              go_enter Tryz.func77, Tryz.ntmps77
              go_wp2_with fail
              refine (HBD.out _).mono ?_
              rintro e w1 ⟨rfl, hb⟩
              have b1 := b0.keep hb
              have kk := below_then ((Below.refl w.heap.size w).alloc (Nat.le_refl _) (.cells #[.int .i64 0, .int .i64 0] 42)) (hb.mono (by simp))
              have c0 : w1.cell? ⟨w.heap.size, 0, none⟩ = some (.int .i64 0) := b1.cell 0
              have c1 : w1.cell? ⟨w.heap.size, 1, none⟩ = some (.int .i64 0) := b1.cell 1
              have f0 := b1.frozen 0
              have f1 := b1.frozen 1
              have HF := Lib.hid (And.intro (And.intro b1 kk) (fun x y => laidF_is b1 kk x y))
              clear b1 kk hb HBD b0
              by_cases hm0 : 0 ≤ m
              · have HR := Lib.hid (show q = (0, 14, 2 + m) by rw [HRD.out, if_pos hm0])
                have hmb : m ≤ 9000 := by
                  rcases bad_cases 4 D with ⟨k, hk, hb, _⟩ | ⟨hb, _⟩
                  · rw [← HM.out.1] at hb; omega
                  · rw [← HM.out.1] at hb; omega
                clear HRD
                go_wp2_with fail
                refine ret_nf rfl rfl rfl rfl (HF.out.2 _ _).1 ?_
                exact told3_of HR.out (HF.out.2 _ _).2
              · rw [if_neg hm0] at HRD
                have HDG := Lib.hid (show Digs D from digs_of_bad (by rw [← HM.out.1]; exact hm0))
                by_cases h6 : 6 < (T.size : Int)
                · have HR := Lib.hid (show q = (0, 12, 8) by rw [HRD.out, if_pos (by omega)])
                  clear HRD
                  go_wp2_with fail
                  refine ret_nf rfl rfl rfl rfl (HF.out.2 _ _).1 ?_
                  exact told3_of HR.out (HF.out.2 _ _).2
                · rw [if_neg (by omega)] at HRD
                  clear f0 f1 c0 c1
                  go_wp2_with fail
                  go_loopw [4] (fun v4 wr => ∃ (u : ByteArray) (j : Nat), v4 = .string u ∧ w1 = wr ∧ (u.size : Int) ≤ 6 ∧ (u.size : Int) = (D.length : Int) + (j : Int) ∧ Hid (Str u (D ++ List.replicate j 48))) (fun v4 _ => 6 - Lib.strSize v4)
                  case atStart => exact ⟨T, 0, rfl, rfl, by omega, by omega, Lib.hid (by simpa using HT.out)⟩
                  case round =>
                    obtain ⟨u, j, rfl, rfl, hu6, huj, hst⟩ := hrel
                    by_cases hlt : (u.size : Int) < 6
                    · have hz1 : ((⟨#[48]⟩ : ByteArray).size : Int) = 1 := rfl
                      have hap := hst.out.append (show Str ⟨#[48]⟩ [48] from rfl)
                      have HAP := Lib.hid hap
                      have hsz2 : (u ++ (⟨#[48]⟩ : ByteArray)).size = u.size + 1 := by rw [hap.size]; have := hst.out.size; simp at this ⊢; omega
                      have HZ := Lib.hid hsz2
                      clear hap hsz2
                      go_wp2_with fail
                      refine ⟨⟨_, j + 1, rfl, trivial, by rw [HZ.out]; omega, by rw [HZ.out]; omega, ?_⟩, ?_⟩
                      · have := HAP.out
                        rw [List.append_assoc, ← List.replicate_succ'] at this
                        exact this
                      · have := HZ.out
                        simp only [Lib.strSize]
                        omega
                    · have hj : j = 6 - D.length := by omega
                      have HJ := Lib.hid hj
                      have hdg : Digs (D ++ List.replicate j 48) := HDG.out.append (digs_zeros _)
                      have HV := Lib.hid (value_calls u (D ++ List.replicate j 48) hst.out hdg (by omega) w1)
                      have hvl : val (D ++ List.replicate j 48) ≤ MaxI := by
                        have := val_lt hdg
                        rw [show (D ++ List.replicate j (48 : UInt8)).length = 6 by rw [List.length_append, List.length_replicate]; omega] at this
                        unfold MaxI; omega
                      rw [← hj] at HRD
                      obtain ⟨v, hv⟩ : ∃ v, val (D ++ List.replicate j 48) = v := ⟨_, rfl⟩
                      rw [hv] at HV HRD hvl
                      have e1 : valued v = ((v : Int), true) := by unfold valued; rw [if_pos hvl]
                      rw [e1] at HV
                      have c0 : w1.cell? ⟨w.heap.size, 0, none⟩ = some (.int .i64 0) := HF.out.1.1.cell 0
                      have c1 : w1.cell? ⟨w.heap.size, 1, none⟩ = some (.int .i64 0) := HF.out.1.1.cell 1
                      have f0 := HF.out.1.1.frozen 0
                      have f1 := HF.out.1.1.frozen 1
                      clear hj hdg hvl hv e1
                      go_wp2_with fail
                      refine HV.out.mono ?_
                      rintro e w2 ⟨rfl, rfl⟩
                      clear HV
                      by_cases hv0 : v = 0
                      · have HR := Lib.hid (show q = (0, 10, 0) by rw [HRD.out, if_pos hv0])
                        subst hv0
                        clear HRD
                        go_wp2_with fail
                        refine ret_nf rfl rfl rfl rfl (HF.out.2 _ _).1 ?_
                        exact told3_of HR.out (HF.out.2 _ _).2
                      · have HR := Lib.hid (show q = ((v : Int), 0, 0) by rw [HRD.out, if_neg hv0])
                        have hvb : ((v : Int) == 0) = false := by simpa using hv0
                        clear HRD hv0
                        go_wp2_with fail
                        refine ret_nf rfl rfl rfl rfl (HF.out.2 _ _).1 ?_
                        exact told3_of HR.out (HF.out.2 _ _).2
          · have hb46 : b ≠ 46 := by rintro rfl; exact h46 hyy
            have HR := Lib.hid (rated_point (t := b :: d) (by simpa using hb46))
            have hyb : (y != 46) = true := by simpa using h46
            clear h h1 hzz hyy hn h46
            go_enter Tryz.func77, Tryz.ntmps77
            go_wp2_with fail
            refine ret_nf rfl rfl rfl rfl (HNEW.out _ _).1 ?_
            exact told3_of HR.out (HNEW.out _ _).2
      · have ha : a ≠ 48 := by rintro rfl; exact h48 hzz
        have HR := Lib.hid (rated_first ha h1)
        have hzb : (z == 48) = false := by simpa using h48
        clear h h1 hzz h48 hn
        go_enter Tryz.func77, Tryz.ntmps77
        go_wp2_with fail
        refine ret_nf rfl rfl rfl rfl (HNEW.out _ _).1 ?_
        exact told3_of HR.out (HNEW.out _ _).2
end Go.Proofs.YtbcmchkgamkceaaGreatDoor
