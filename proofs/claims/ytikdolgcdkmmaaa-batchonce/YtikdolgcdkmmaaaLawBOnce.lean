/-
  The walk of BatchOnce. No statement of the seat is proved here.
-/
import Derived.Test.YtikdolgcdkmmaaaBOnce
namespace Go.Proofs.Ytikdolgcdkmmaaa
open Go.RowKit Go.Sort
open Dc (D D0)

set_option maxRecDepth 100000 in
set_option maxHeartbeats 16000000 in
theorem bonce_walk {w : World} {A : Option Addr} {len cap : Nat} {es : List En} (hlen : es.length = len) (hM : Mets w A es) (hf : ∀ e ∈ es, ∀ d ∈ e.m.vals, d.Fits) (hlc : len ≤ cap) (hz : cap ≤ maxLen) :
    Calls Try.prog 6 #[.slice A len cap] w fun e w' => e = .returned (.bool true) ∧ Below w.heap.size w w' := by
  obtain ⟨q, hq⟩ : ∃ q, fewB (datM es) = q := ⟨_, rfl⟩
  have HB := Lib.hid ((Bt.start w).add hM)
  have HQ := Lib.hid (And.intro hlen (And.intro hq hf))
  have HZ := Lib.hid (show (len : Int) ≤ 9223372036854775807 by unfold maxLen at hz; omega)
  have hlc' : (len : Int) ≤ (cap : Int) := by omega
  have hcm : (cap : Int) ≤ 9223372036854775807 := by unfold maxLen at hz; omega
  clear hM hlen hq hf hz
  go_enter Try.func6, Try.ntmps6
  go_wp2_with fail
  refine (HB.out.few_ (.head _) HQ.out.1 HZ.out HQ.out.2.1 _).mono ?_
  rintro e w1 ⟨rfl, hb⟩
  have HB1 := Lib.hid hb
  clear hb HB
  cases q
  · go_wp2_with fail
    refine HB1.out.awake_.mono ?_
    rintro e w2 ⟨rfl, hb⟩
    have HB2 := Lib.hid hb
    clear hb
    go_wp2_with fail
    go_ret
    exact ⟨rfl, HB2.out.kept⟩
  · obtain ⟨hs, hl⟩ := few_smalls HQ.out.2.1 HQ.out.2.2
    obtain ⟨p, c, hpc⟩ : ∃ p c, fwB codeM (datM es) = (p, c) := ⟨_, _, rfl⟩
    obtain ⟨r, hr⟩ : ∃ r, nB (datM es) = r := ⟨_, rfl⟩
    have HL := Lib.hid (show len ≤ 2000 by have := HQ.out.1; omega)
    have HS := Lib.hid (And.intro hs (And.intro hl (And.intro hpc hr)))
    clear hs hl hpc hr
    go_wp2_with fail
    refine (HB1.out.normal_ (.head _) HQ.out.1 HL.out HS.out.1 HS.out.2.2.1 HS.out.2.2.2 _).mono ?_
    rintro e w2 ⟨A2, n2, k2, f2, rfl, hl2, hd2, hb⟩
    have HB2 := Lib.hid hb
    clear hb HB1
    by_cases hc0 : c = 0
    · subst hc0
      have hp0 := HS.out.2.2.1.symm.trans (fwB_zero (C := codeM) (ms := datM es) (by rw [HS.out.2.2.1]))
      injection hp0 with hp0
      subst hp0
      have h0 : (fwB codeM (datM es)).2 = 0 := by rw [HS.out.2.2.1]
      have hre : datM f2 = (datM es).map nM := hd2.trans (HS.out.2.2.2.symm.trans (nB_ok h0))
      have hn2 : n2 = len := by
        have := congrArg List.length hre
        rw [datM_len, List.length_map, datM_len, HQ.out.1, hl2] at this; exact this
      subst hn2
      have HC := Lib.hid (And.intro h0 hre)
      have HL2 := Lib.hid hl2
      have HS2 := Lib.hid (smalls_n (es := es) (fs := f2) HS.out.1 (hd2.trans HS.out.2.2.2.symm))
      clear hl2 hd2 h0 hre
      go_wp2_with fail
      refine (HB2.out.normal_ (.head _) HL2.out HL.out HS2.out (p := 0) (c := 0) (r := (datM es).map nM) (by rw [HC.out.2]; exact fwB_map HC.out.1) (by rw [HC.out.2]; exact nB_map HC.out.1) _).mono ?_
      rintro e w3 ⟨A3, n3, k3, f3, rfl, hl3, hd3, hb⟩
      have hn3 : n3 = n2 := by
        have := congrArg List.length hd3
        rw [datM_len, List.length_map, datM_len, HQ.out.1, hl3] at this; exact this
      subst hn3
      have HB3 := Lib.hid hb
      have HL3 := Lib.hid (And.intro hl3 (show Smalls f3 from fun e he => by
        obtain ⟨x, hx, e2⟩ := List.mem_map.1 (hd3 ▸ List.mem_map.2 ⟨e, he, rfl⟩ : e.m ∈ (datM es).map nM)
        obtain ⟨y, hy, rfl⟩ := List.mem_map.1 hx
        rw [← e2]; exact (HS.out.1 y hy).n))
      have HD3 := Lib.hid hd3
      clear hb HB2 hl3 hd3
      go_wp2_with fail
      refine (HB3.out.equal_ (.head _) (.tail _ (.head _)) HL3.out.1 HL2.out HL.out HL.out HL3.out.2 (x := true) (by rw [HD3.out, HC.out.2]; exact decide_eq_true rfl) _ _).mono ?_
      rintro e w4 ⟨rfl, hb⟩
      have HB4 := Lib.hid hb
      clear hb HB3
      go_wp2_with fail
      refine (HB4.out.same_ (.tail _ (.tail _ (.head _))) (.tail _ (.head _)) HQ.out.1 HL2.out HL.out HL.out HS.out.1 HS2.out (x := true) (by rw [HC.out.2]; exact sameB_ok HC.out.1) _ _).mono ?_
      rintro e w5 ⟨rfl, hb⟩
      have HB5 := Lib.hid hb
      clear hb HB4
      go_wp2_with fail
      go_loopw [14] (fun v wr => ∃ i : Nat, v = .int .i64 i ∧ i ≤ n3 ∧ Hid (Bt w [(A3, f3), (A2, f2), (A, es)] [] wr)) (fun v _ => n3 - (intOf v).toNat)
      case atStart => exact ⟨0, rfl, by omega, HB5⟩
      case round =>
        obtain ⟨i, rfl, hi, hrel⟩ := hrel
        clear HB5
        by_cases hlt : i < n3
        · have g1 : (i : Int) < (n3 : Int) := by omega
          have g2 : (0 : Int) ≤ (i : Int) := by omega
          have hie : es[i]? = some (es[i]'(by have := HQ.out.1; omega)) := List.getElem?_eq_getElem _
          generalize es[i]'(by have := HQ.out.1; omega) = x at hie
          have hif : f2[i]? = some (f2[i]'(by have := HL2.out; omega)) := List.getElem?_eq_getElem _
          generalize f2[i]'(by have := HL2.out; omega) = y at hif
          have hy : y.m = nM x.m := by
            have h1 := datM_at hif
            rw [HC.out.2, List.getElem?_map, datM_at hie] at h1
            injection h1 with h1
            exact h1.symm
          have hcx : codeM x.m = 0 := fwB_ok HC.out.1 _ (List.mem_map.2 ⟨x, List.mem_of_getElem? hie, rfl⟩)
          have hA := hrel.out.m (.tail _ (.tail _ (.head _)))
          have hB := hrel.out.m (.tail _ (.head _))
          obtain ⟨ba, oa, eA, a0, a1, a2, a3, a4, a5⟩ := hA.get hie
          have hsx := HS.out.1 x (List.mem_of_getElem? hie)
          have hN := mnormal_calls (ca := x.ca) (cb := x.cb) (hA.one hie) hsx
          unfold NormMP mV at hN
          rw [hcx] at hN
          obtain ⟨m', hm'⟩ : ∃ m', nM x.m = m' := ⟨_, rfl⟩
          rw [hm'] at hN hy
          subst eA
          have HN := Lib.hid hN
          have HI := Lib.hid (And.intro hie (And.intro hif (And.intro hy (And.intro hcx (And.intro hsx hm')))))
          clear hA hB hN hie hif hy hcx hsx hm'
          go_wp2_with fail
          refine HN.out.mono ?_
          rintro e w6 ⟨⟨s6, A6, n6, ca6, B6, k6, cb6, rfl, hm6⟩, hb6⟩
          have HR := Lib.hid ((hrel.out.next hb6).alloc (.cells #[.string s6, .int .i64 m'.kind, .slice A6 n6 ca6, .int .i64 m'.rate, .slice B6 k6 cb6, .int .i64 m'.time] 25))
          have hbx := Box.new w6 25 [.string s6, .int .i64 m'.kind, .slice A6 n6 ca6, .int .i64 m'.rate, .slice B6 k6 cb6, .int .i64 m'.time]
          have HM6 := Lib.hid (hm6.alloc (.cells #[.string s6, .int .i64 m'.kind, .slice A6 n6 ca6, .int .i64 m'.rate, .slice B6 k6 cb6, .int .i64 m'.time] 25))
          clear a0 a1 a2 a3 a4 a5 HN hm6
          obtain ⟨ba', oa', eA, a0, a1, a2, a3, a4, a5⟩ := (HR.out.m (A := some ⟨ba, oa, none⟩) (.tail _ (.tail _ (.head _)))).get HI.out.1
          injection eA with eA
          injection eA with eA1 eA2
          subst eA1 eA2
          obtain ⟨bb, ob, eB, b0, b1, b2, b3, b4, b5⟩ := (HR.out.m (.tail _ (.head _))).get HI.out.2.1
          subst eB
          have c0 := cell_regrown (hbx.cell 0)
          have c1 := cell_regrown (hbx.cell 1)
          have c2 := cell_regrown (hbx.cell 2)
          have c3 := cell_regrown (hbx.cell 3)
          have c4 := cell_regrown (hbx.cell 4)
          have c5 := cell_regrown (hbx.cell 5)
          replace a0 := cell_regrown a0
          replace a1 := cell_regrown a1
          replace a2 := cell_regrown a2
          replace a3 := cell_regrown a3
          replace a4 := cell_regrown a4
          replace a5 := cell_regrown a5
          replace b0 := cell_regrown b0
          replace b1 := cell_regrown b1
          replace b2 := cell_regrown b2
          replace b3 := cell_regrown b3
          replace b4 := cell_regrown b4
          replace b5 := cell_regrown b5
          have hq1 := fun W' (hb : Below _ _ W') => equal_calls (ca := ca6) (cb := cb6) (ca' := y.ca) (cb' := y.cb) (HM6.out.keep hb) (((HR.out.next hb).m (.tail _ (.head _))).one HI.out.2.1) (by rw [← HI.out.2.2.2.2.2]; exact HI.out.2.2.2.2.1.n)
          have hq2 := fun W' (hb : Below _ _ W') => same_calls7 (ca := x.ca) (cb := x.cb) (ca' := y.ca) (cb' := y.cb) (((HR.out.next hb).m (.tail _ (.tail _ (.head _)))).one HI.out.1) (((HR.out.next hb).m (.tail _ (.head _))).one HI.out.2.1) HI.out.2.2.2.2.1 (HS2.out y (List.mem_of_getElem? HI.out.2.1))
          unfold mV at hq1 hq2
          have e1 : decide (m' = y.m) = true := decide_eq_true HI.out.2.2.1.symm
          have e2 : sameM x.m y.m = true := by rw [HI.out.2.2.1, ← HI.out.2.2.2.2.2]; exact sameM_nM HI.out.2.2.2.1
          rw [e1] at hq1
          rw [e2] at hq2
          have Q0 := Lib.hid (fun d os => Calls.regrown_of (hq1 _ (below_regrown _ d os)))
          have Q1 := Lib.hid (fun d os => Calls.regrown_of (hq2 _ (below_regrown _ d os)))
          clear hbx hq1 hq2 e1 e2 hrel hb6
          go_wp2_with fail
          refine wp_region_quiet_below (by kernel_rfl) (by kernel_rfl) ?_
          repeat (go_big_quiet_step (first | with_reducible exact Q0.out _ _ | with_reducible exact Q1.out _ _))
          refine wpQuiet_nil ?_
          rintro _ ⟨⟨dq, osq⟩, rfl⟩
          clear a0 a1 a2 a3 a4 a5 b0 b1 b2 b3 b4 b5 c0 c1 c2 c3 c4 c5 Q0 Q1
          have HR2 := Lib.hid (HR.out.next (below_regrown _ dq osq))
          clear HR
          go_wp2_with fail
          exact ⟨⟨i + 1, by go_num, by omega, HR2⟩, by simp [intOf]; omega⟩
        · have g1 : ¬ (i : Int) < (n3 : Int) := by omega
          go_wp2_with fail
          refine hrel.out.awake_.mono ?_
          rintro e w7 ⟨rfl, hb⟩
          have HB7 := Lib.hid hb
          clear hb
          go_wp2_with fail
          go_ret
          exact ⟨rfl, HB7.out.kept⟩
    · have hc1 : (c == 0) = false := by simpa using hc0
      have h0 : (fwB codeM (datM es)).2 ≠ 0 := by rw [HS.out.2.2.1]; exact hc0
      have hn2 : n2 = 0 := by
        have h1 := hd2.trans (HS.out.2.2.2.symm.trans (nB_no h0))
        have := congrArg List.length h1
        rw [datM_len, hl2] at this; exact this
      subst hn2
      obtain ⟨hp, ⟨x, hx, hcx⟩, htk⟩ := fwB_bad HS.out.2.2.1 (by have := HS.out.2.1; omega) hc0
      have hpl : p < len := by have := HQ.out.1; omega
      have g1 : (p : Int) < (len : Int) := by omega
      have g2 : (0 : Int) ≤ (p : Int) := by omega
      have g3 : (p : Int) ≤ (cap : Int) := by omega
      have HI := Lib.hid (And.intro hx (And.intro hcx (And.intro htk h0)))
      have hsx := Lib.hid (HS.out.1 x (List.mem_of_getElem? hx))
      clear hl2 hd2 hp hx hcx htk h0
      go_wp2_with fail
      refine (HB2.out.same_ (.tail _ (.head _)) (.tail _ (.head _)) HQ.out.1 HQ.out.1 HL.out HL.out HS.out.1 HS.out.1 (x := false) (sameB_no HI.out.2.2.2) _ _).mono ?_
      rintro e w3 ⟨rfl, hb⟩
      have HB3 := Lib.hid hb
      clear hb HB2
      obtain ⟨ba, oa, eA, a0, a1, a2, a3, a4, a5⟩ := (HB3.out.m (.tail _ (.head _))).get HI.out.1
      have hN := mnormal_calls (ca := x.ca) (cb := x.cb) ((HB3.out.m (.tail _ (.head _))).one HI.out.1) hsx.out
      unfold NormMP mV at hN
      rw [HI.out.2.1] at hN
      obtain ⟨m', hm'⟩ : ∃ m', nM x.m = m' := ⟨_, rfl⟩
      rw [hm'] at hN
      subst eA
      have HN := Lib.hid hN
      clear hN hm'
      go_wp2_with fail
      refine HN.out.mono ?_
      rintro e w6 ⟨⟨s6, A6, n6, ca6, B6, k6, cb6, rfl, hm6⟩, hb6⟩
      have HR := Lib.hid ((HB3.out.next hb6).alloc (.cells #[.string s6, .int .i64 m'.kind, .slice A6 n6 ca6, .int .i64 m'.rate, .slice B6 k6 cb6, .int .i64 m'.time] 25))
      clear a0 a1 a2 a3 a4 a5 HN hm6 hb6
      have HR2 := Lib.hid (HR.out.add ((HR.out.m (.tail _ (.head _))).take p))
      go_wp2_with fail
      refine (HR2.out.normal_ (.head _) (len := p) (by rw [List.length_take]; have := HQ.out.1; omega) (by have := HL.out; omega) (fun e he => HS.out.1 e (List.mem_of_mem_take he)) HI.out.2.2.1 rfl _).mono ?_
      rintro e w7 ⟨A7, n7, k7, f7, rfl, hl7, hd7, hb⟩
      have HB7 := Lib.hid hb
      clear hb hl7 hd7 HR HR2
      go_wp2_with fail
      refine HB7.out.awake_.mono ?_
      rintro e w8 ⟨rfl, hb⟩
      have HB8 := Lib.hid hb
      clear hb
      go_wp2_with fail
      go_ret
      exact ⟨rfl, HB8.out.kept⟩
end Go.Proofs.Ytikdolgcdkmmaaa
