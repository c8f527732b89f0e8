/-
  The walk of TagOnce. No statement of the seat is proved here.
-/
import Derived.Test.YtapkdghghnmhhaaTAwake
import Derived.Test.YtapkdghghnmhhaaTIn
import Derived.RegionTactic
import Derived.ChangeAlike
import Derived.BigRegion
namespace Go.Proofs.Ytapkdghghnmhhaa
open Go.RowKit

/-- Two places of a list changed for one another. -/
def swapL (l : List Tg) (a b : Nat) (x y : Tg) : List Tg := (l.set a y).set b x
theorem swap_mem {l : List Tg} {a b : Nat} (ha : a < l.length) (hb : b < l.length) (z : Tg) : z ∈ swapL l a b l[a] l[b] ↔ z ∈ l := by
  unfold swapL
  constructor
  · intro h
    rcases List.mem_or_eq_of_mem_set h with h | rfl
    · rcases List.mem_or_eq_of_mem_set h with h | rfl
      · exact h
      · exact List.getElem_mem _
    · exact List.getElem_mem _
  · intro h
    obtain ⟨i, hi, rfl⟩ := List.mem_iff_getElem.1 h
    refine List.mem_iff_getElem.2 ?_
    by_cases e1 : i = a
    · subst e1
      exact ⟨b, by simpa using hb, by simp⟩
    · by_cases e2 : i = b
      · subst e2
        refine ⟨a, by simpa using ha, ?_⟩
        rw [List.getElem_set_ne (by omega), List.getElem_set_self]
      · refine ⟨i, by simpa using hi, ?_⟩
        rw [List.getElem_set_ne (by omega), List.getElem_set_ne (by omega)]

theorem own_some {w : World} {base n : Nat} {v : Value} {ts : List Tg} (h : w.ownsRow base 23 2 v n (flat ts)) (hb : v.ownBlock ≠ none) : ∃ g c, v = .slice (some ⟨g, 0, none⟩) n c ∧ base ≤ g ∧ (ts.length = n → RowT w g c ts) := by
  rcases h.2 with ⟨rfl, _⟩ | ⟨g, c, cur, rfl, hg, hh, h1, h2, h3, h4⟩
  · exact absurd rfl hb
  · exact ⟨g, c, rfl, hg, fun hl => ⟨cur, hh, h3, by rw [hl]; exact h4, by omega⟩⟩
theorem own_cap {w : World} {base size n : Nat} {e : TypeId} {v : Value} {xs : List Value} (h : w.ownsRow base e size v n xs) : ∀ A m c, v = .slice A m c → c ≤ maxLen := by
  intro A m c hv
  rcases h.2 with ⟨rfl, _⟩ | ⟨g, c', cur, rfl, _, _, _, h2, _⟩
  · injection hv with _ _ h3; subst h3; exact Nat.zero_le _
  · injection hv with _ _ h3; subst h3; exact h2
theorem place_of (z : Int) {n : Nat} (hn : 0 < n) : ∃ a : Nat, a < n ∧ (z.tmod n + n).tmod n = a ∧ -(n : Int) < z.tmod n ∧ z.tmod n < n := by
  have h1 : z.tmod n < n := Int.tmod_lt_of_pos z (by omega)
  have h2 : -(n : Int) < z.tmod n := by
    have := Int.lt_tmod_of_pos z (by omega : (0 : Int) < n)
    omega
  have h3 : 0 ≤ (z.tmod n + n).tmod n := Int.tmod_nonneg _ (by omega)
  have h4 : (z.tmod n + n).tmod n < n := Int.tmod_lt_of_pos _ (by omega)
  exact ⟨((z.tmod n + n).tmod n).toNat, by omega, by omega, h2, h1⟩

theorem up_count {x : Tg} : ∀ {m : List Tg}, Up m → x ∈ m → m.countP (fun y => decide (y = x)) = 1
  | [], _, h => by cases h
  | a :: r, hu, h => by
    obtain ⟨ha, hr⟩ := up_cons.1 hu
    rw [List.countP_cons]
    by_cases e : a = x
    · have h0 : r.countP (fun y => decide (y = x)) = 0 := List.countP_eq_zero.2 fun y hy => by
        simp only [decide_eq_true_eq]
        rintro rfl
        have := ha y hy
        rw [e, ltT_irrefl] at this
        cases this
      rw [h0, if_pos (decide_eq_true e)]
    · rw [if_neg (by simpa using e), up_count hr (by rcases List.mem_cons.1 h with h | h; exact absurd h.symm e; exact h)]
theorem is_true {w : World} {A : Option Addr} {n cap : Nat} {ts : List Tg} (hn : ts.length = n) (hA : Tags w A ts) (hz : n ≤ 1000) (hq : ts = norm ts) :
    Calls Try.prog 19 #[.slice A n cap] w fun e w' => e = .returned (.bool true) ∧ Below w.heap.size w w' := by
  have := is_calls6 (cap := cap) hn hA hz
  rwa [decide_eq_true hq] at this

set_option maxRecDepth 100000 in
set_option maxHeartbeats 8000000 in
theorem once_walk {A : Option Addr} {n cap : Nat} {ts : List Tg} {S : Option Addr} {ns cs : Nat} {zs : List Int} {tw : Int} {w : World} (hn : ts.length = n) (hA : Tags w A ts) (hlc : n ≤ cap) (hc : cap ≤ maxLen) (hs : zs.length = ns) (hS : Lies w S (zs.map (.int .i64))) (hz : ∀ z ∈ zs, (Lit.int .i64 z).wf = true) (hns : ns ≤ maxLen) :
    Calls Try.prog 8 #[.slice A n cap, .slice S ns cs, .int .i64 tw] w fun e w' => e = .returned (.bool true) ∧ Below w.heap.size w w' := by
  obtain ⟨q, hq⟩ : ∃ q, few ts = q := ⟨_, rfl⟩
  have HF := Lib.hid (few_says (cap := cap) hn hA (Nat.le_trans hlc hc) hq)
  have HA := Lib.hid (And.intro hn (And.intro hA (And.intro hq (And.intro hs (And.intro hS hz)))))
  have hns' : (ns : Int) ≤ 9223372036854775807 := by unfold maxLen at hns; omega
  have HK0 := Lib.hid (Below.refl w.heap.size w)
  clear hn hA hc hq hs hS hz hns
  go_enter Try.func8, Try.ntmps8
  go_wp2_with fail
  refine HF.out.mono ?_
  rintro e w1 ⟨rfl, hb⟩
  have HK1 := Lib.hid hb
  clear hb HK0 HF
  have haw : ∀ W, Below w.heap.size w W → Calls Try.prog 11 #[] W fun e w' => e = .returned (.bool true) ∧ Below w.heap.size w w' := fun W h => (awake_calls W).mono fun _ _ ⟨h1, h2⟩ => ⟨h1, h.trans (h2.mono h.size)⟩
  have HAW := Lib.hid haw
  clear haw
  cases q
  · go_wp2_with fail
    refine (HAW.out _ HK1.out).mono ?_
    rintro e w2 ⟨rfl, hb⟩
    have HK2 := Lib.hid hb
    clear hb HK1
    go_wp2_with fail
    go_ret
    exact ⟨rfl, HK2.out⟩
  · by_cases h60 : 60 < (ns : Int)
    · go_wp2_with fail
      refine (HAW.out _ HK1.out).mono ?_
      rintro e w2 ⟨rfl, hb⟩
      have HK2 := Lib.hid hb
      clear hb HK1
      go_wp2_with fail
      go_ret
      exact ⟨rfl, HK2.out⟩
    · by_cases ht0 : tw < 0
      · go_wp2_with fail
        refine (HAW.out _ HK1.out).mono ?_
        rintro e w2 ⟨rfl, hb⟩
        have HK2 := Lib.hid hb
        clear hb HK1
        go_wp2_with fail
        go_ret
        exact ⟨rfl, HK2.out⟩
      · by_cases ht1 : (n : Int) < tw
        · go_wp2_with fail
          refine (HAW.out _ HK1.out).mono ?_
          rintro e w2 ⟨rfl, hb⟩
          have HK2 := Lib.hid hb
          clear hb HK1
          go_wp2_with fail
          go_ret
          exact ⟨rfl, HK2.out⟩
        · obtain ⟨k, rfl⟩ : ∃ k : Nat, tw = k := ⟨tw.toNat, by omega⟩
          obtain ⟨hn, hA, hq, hs, hS, hz⟩ := HA.out
          have hn60 : n ≤ 60 := by have := (few_no hq).1; omega
          have hkn : k ≤ n := by omega
          have hkn' : (k : Int) ≤ (n : Int) := by omega
          have hkc : (k : Int) ≤ (cap : Int) := by omega
          have hns60 : ns ≤ 60 := by omega
          clear hn hA hq hs hS hz hns'
          go_wp2_with (first
            | (at_builtin
               refine wpList_append_tags _ rfl _ _ rfl w1.heap.size (.slice (some ⟨w1.heap.size, 0, none⟩) 0 0) 0 [] rfl (own_empty w1) A n cap ts rfl HA.out.1 ((HA.out.2.1.keep HK1.out).alloc _) (by omega) (by simp) ?_
               intro v5 w5 hown5 hgr5 hob5
               have HO5 := Lib.hid (show w5.ownsRow w1.heap.size 23 2 v5 n (flat ts) by rwa [Nat.zero_add, List.nil_append] at hown5)
               have HB5 := Lib.hid (show Below w1.heap.size w1 w5 from Below.grown ((Below.refl _ _).alloc (Nat.le_refl _) _) hgr5 (by simp) (by intro k hk; injection hk with hk; subst hk; simp))
               have HC5 := Lib.hid (own_cap hown5)
               have HG5 := Lib.hid (own_some HO5.out (by rcases hob5 with h | h <;> rw [h] <;> simp [Value.ownBlock]))
               clear hown5 hgr5 hob5))
          obtain ⟨g, c5, e5, hgl, hrow⟩ := HG5.out
          subst e5
          replace HC5 := Lib.hid (HC5.out _ _ _ rfl)
          have HR5 := Lib.hid (And.intro (hrow HA.out.1) hgl)
          clear hrow hgl HO5 HG5
          go_loopw [8] (fun v8 wr => ∃ (j : Nat) (ps : List Tg), v8 = .int .i64 j ∧ j ≤ ns + 1 ∧ ps.length = n ∧ Hid (RowT wr g c5 ps ∧ But g w5 wr ∧ ∀ x, x ∈ ps ↔ x ∈ ts)) (fun v8 _ => ns + 2 - (intOf v8).toNat)
          case atStart => exact ⟨0, ts, rfl, by omega, HA.out.1, ⟨HR5.out.1, But.refl _ _, fun _ => Iff.rfl⟩⟩
          case round =>
            obtain ⟨j, ps, rfl, hj, hpl, hrel⟩ := hrel
            by_cases hgo : j + 1 < ns ∧ 0 < n
            · obtain ⟨h1, h2⟩ := hgo
              have g1 : (j : Int) + 1 < (ns : Int) := by omega
              have g2 : (0 : Int) < (n : Int) := by omega
              have g3 : (j : Int) < (ns : Int) := by omega
              have g4 : (0 : Int) ≤ (j : Int) + 1 := by omega
              have g5 : ((j : Int) + 1).toNat = j + 1 := by omega
              obtain ⟨hn, hA, hq, hs, hS, hz⟩ := HA.out
              have hbw : Below w.heap.size w wr := (HK1.out.trans (HB5.out.mono HK1.out.size)).trans (hrel.out.2.1.below (Nat.le_trans HK1.out.size HR5.out.2) (Nat.le_trans HK1.out.size HB5.out.size))
              have hS' := hS.keep hbw
              obtain ⟨sb, so, eS, x0⟩ := hS'.at_ (i := j) (by simp; omega)
              obtain ⟨sb', so', eS', x1⟩ := hS'.at_ (i := j + 1) (by simp; omega)
              rw [eS] at eS'
              injection eS' with eS'
              injection eS' with es1 es2
              subst es1 es2
              subst eS
              simp only [List.getElem_map] at x0 x1
              generalize zs[j] = z1 at x0
              generalize zs[j + 1] = z2 at x1
              obtain ⟨a, ha, ea, ya1, ya2⟩ := place_of z1 h2
              obtain ⟨b, hb, eb, yb1, yb2⟩ := place_of z2 h2
              have a1 : wrap64 (z1.tmod (n : Int) + (n : Int)) = z1.tmod (n : Int) + (n : Int) := IntWalk.wrap64_in _ (by omega)
              have a2 : wrap64 (z2.tmod (n : Int) + (n : Int)) = z2.tmod (n : Int) + (n : Int) := IntWalk.wrap64_in _ (by omega)
              have la : a < ps.length := by omega
              have lb : b < ps.length := by omega
              obtain ⟨s, t, c0, c1, hs1, ht1⟩ := hrel.out.1.get la
              obtain ⟨s', t', d0, d1, hs2, ht2⟩ := hrel.out.1.get lb
              have HST := Lib.hid (And.intro hs1 (And.intro ht1 (And.intro hs2 ht2)))
              have ga : (a : Int) < (n : Int) := by omega
              have gb : (b : Int) < (n : Int) := by omega
              have ga0 : (0 : Int) ≤ (a : Int) := by omega
              have gb0 : (0 : Int) ≤ (b : Int) := by omega
              clear hn hA hq hs hS hz hS' hbw hs1 ht1 hs2 ht2 ya1 ya2 yb1 yb2
              have fa0 := hrel.out.1.frozen (a * 2)
              have fa1 := hrel.out.1.frozen (a * 2 + 1)
              have fb0 := hrel.out.1.frozen (b * 2)
              have fb1 := hrel.out.1.frozen (b * 2 + 1)
              go_wp2_with fail
              clear a1 a2 x0 x1 ea eb
              by_cases hab : a = b
              · subst hab
                go_region
                all_goals
                  go_wp2_with fail
                  refine ⟨⟨j + 2, swapL ps a a ps[a] ps[a], by go_num, by omega, by simp [swapL, hpl], ⟨(((hrel.out.1.set HST.out.1 HST.out.2.1).set HST.out.1 HST.out.2.1).same (Same.drewN _ 1)), (((((hrel.out.2.1).set _ _).set _ _).set _ _).set _ _).drew, fun x => (swap_mem la la x).trans (hrel.out.2.2 x)⟩⟩, by simp [intOf]; omega⟩
              · have hab1 : a * 2 ≠ b * 2 := by omega
                have hab2 : a * 2 + 1 ≠ b * 2 := by omega
                have hab3 : a * 2 ≠ b * 2 + 1 := by omega
                have hab4 : b * 2 ≠ a * 2 := by omega
                have hab5 : b * 2 ≠ a * 2 + 1 := by omega
                have hab6 : b * 2 + 1 ≠ a * 2 := by omega
                go_region
                all_goals
                  go_wp2_with fail
                  refine ⟨⟨j + 2, swapL ps a b ps[a] ps[b], by go_num, by omega, by simp [swapL, hpl], ⟨(((hrel.out.1.set HST.out.2.2.1 HST.out.2.2.2).set HST.out.1 HST.out.2.1).same (Same.drewN _ 1)), (((((hrel.out.2.1).set _ _).set _ _).set _ _).set _ _).drew, fun x => (swap_mem la lb x).trans (hrel.out.2.2 x)⟩⟩, by simp [intOf]; omega⟩
            · have hstop : (¬ (j : Int) + 1 < (ns : Int)) ∨ ((j : Int) + 1 < (ns : Int) ∧ ¬ (0 : Int) < (n : Int)) := by omega
              have HW := Lib.hid hrel.out
              have HBW := Lib.hid (show Below w.heap.size w wr from (HK1.out.trans (HB5.out.mono HK1.out.size)).trans (hrel.out.2.1.below (Nat.le_trans HK1.out.size HR5.out.2) (Nat.le_trans HK1.out.size HB5.out.size)))
              have HOW := Lib.hid (show wr.ownsRow w1.heap.size 23 2 (.slice (some ⟨g, 0, none⟩) n c5) n (flat ps) by
                obtain ⟨cur, hh, h1, h2, h3⟩ := hrel.out.1
                exact ⟨by rw [flat_length, hpl], .inr ⟨g, c5, cur, rfl, HR5.out.2, hh, by omega, HC5.out, h1, by rw [← hpl]; exact h2⟩⟩)
              have HSZ := Lib.hid (show w1.heap.size ≤ wr.heap.size from Nat.le_trans HB5.out.size hrel.out.2.1.size)
              have HM := Lib.hid (fun x => show x ∈ ps ++ ts.take k ↔ x ∈ ts by
                rw [List.mem_append, hrel.out.2.2 x]
                exact ⟨fun h => h.elim id List.mem_of_mem_take, .inl⟩)
              have HGL := Lib.hid (Nat.le_trans HK1.out.size HR5.out.2)
              have hkl : (ts.take k).length = k := by rw [List.length_take, HA.out.1]; omega
              clear hrel HR5 hgo HW
              have hks : (0 : Int) ≤ (k : Int) := by omega
              rcases hstop with g1 | ⟨g1, g2⟩
              · skip
                go_wp2_with (first
                  | (at_builtin
                     refine wpList_append_tags _ rfl _ _ rfl w1.heap.size (.slice (some ⟨g, 0, none⟩) n c5) n ps rfl HOW.out A k cap (ts.take k) rfl hkl ((HA.out.2.1.keep HBW.out).take k) (by omega) HSZ.out ?_
                     intro v6 w6 hown6 hgr6 hob6
                     obtain ⟨A6, c6, rfl, hx1, hx2, hx3, hx4⟩ := own_slice hown6
                     clear hx1 hx2 hx3 hx4
                     have HB6 := Lib.hid (show Below w.heap.size w w6 from HBW.out.grown hgr6 HBW.out.size (by intro q hq; injection hq with hq; subst hq; exact HGL.out))
                     have HT6 := Lib.hid (Tags.of_own hown6)
                     clear hown6 hgr6 hob6)
                  | (at_builtin
                     refine wpList_append_tags _ rfl _ _ rfl w6.heap.size (.slice (some ⟨w6.heap.size, 0, none⟩) 0 0) 0 [] rfl (own_empty w6) A6 (n + k) c6 (ps ++ ts.take k) rfl (by rw [List.length_append, hpl, hkl]) (HT6.out.alloc _) (by omega) (by simp) ?_
                     intro v7 w7 hown7 hgr7 hob7
                     rw [Nat.zero_add, List.nil_append] at hown7
                     obtain ⟨A7, c7, rfl, hx1, hx2, hx3, hx4⟩ := own_slice hown7
                     clear hx1 hx2 hx3 hx4
                     have hb7 : Below w6.heap.size w6 w7 := Below.grown ((Below.refl _ _).alloc (Nat.le_refl _) _) hgr7 (by simp) (by intro q hq; injection hq with hq; subst hq; simp)
                     have HKP := Lib.hid (show Kp w [] [(A7, ps ++ ts.take k), (A6, ps ++ ts.take k), (A, ts)] w7 from ((Kp.row (Kp.row (Kp.row ⟨below_then HB6.out hb7, by simp, by simp⟩ (HA.out.2.1.keep (below_then HB6.out hb7))) (HT6.out.keep hb7)) (Tags.of_own hown7))))
                     clear hown7 hgr7 hob7 hb7))
                have hnl := norm_length ts
                have HM1 := Lib.hid (norm_same HM.out)
                have hrl : (ps ++ ts.take k).length = n + k := by rw [List.length_append, hpl, hkl]
                have HMM := Lib.hid (norm_norm ts)
                have hnt := HA.out.1
                obtain ⟨rs, hrs⟩ : ∃ rs, rs = ps ++ ts.take k := ⟨_, rfl⟩
                rw [← hrs] at HM1 hrl HKP
                obtain ⟨m, hm⟩ : ∃ m, m = norm ts := ⟨_, rfl⟩
                rw [← hm] at HM1 HMM hnl
                have HMT := Lib.hid hm
                refine (normal_says (cap := cap) hnt (HKP.out.tags (A := A) (ts := ts) (by simp)) (by omega) hm.symm).mono ?_
                rintro e w8 ⟨⟨M, cm, rfl, ht⟩, hb⟩
                have HK8 := Lib.hid ((HKP.out.next hb).row ht)
                clear hb ht HKP hrs hm HM HOW HSZ HBW HGL hkl hpl
                go_wp2_with fail
                refine (normal_says (cap := c7) hrl (HK8.out.tags (A := A7) (ts := rs) (by simp)) (by omega) HM1.out).mono ?_
                rintro e w9 ⟨⟨N, cn, rfl, ht⟩, hb⟩
                have HT9 := Lib.hid ht
                have HK9 := Lib.hid (HK8.out.next hb)
                clear hb ht HK8
                go_wp2_with fail
                refine (same_true (ts := m) rfl rfl HT9.out (HK9.out.tags (A := M) (ts := m) (by simp)) (by omega)).mono ?_
                rintro e w10 ⟨rfl, hb⟩
                have HK10 := Lib.hid (HK9.out.next hb)
                clear hb HK9 HT9
                go_wp2_with fail
                refine (same_true (ts := rs) hrl hrl (HK10.out.tags (A := A7) (ts := rs) (by simp)) (HK10.out.tags (A := A6) (ts := rs) (by simp)) (by omega)).mono ?_
                rintro e w11 ⟨rfl, hb⟩
                have HK11 := Lib.hid (HK10.out.next hb)
                clear hb HK10
                go_wp2_with fail
                refine (is_true (cap := cm) rfl (HK11.out.tags (A := M) (ts := m) (by simp)) (by omega) HMM.out.symm).mono ?_
                rintro e w12 ⟨rfl, hb⟩
                have HK12 := Lib.hid (HK11.out.next hb)
                clear hb HK11
                go_wp2_with fail
                refine (normal_says (cap := cm) rfl (HK12.out.tags (A := M) (ts := m) (by simp)) (by omega) HMM.out).mono ?_
                rintro e w13 ⟨⟨N, cn, rfl, ht⟩, hb⟩
                have HT13 := Lib.hid ht
                have HK13 := Lib.hid (HK12.out.next hb)
                clear hb ht HK12
                go_wp2_with fail
                refine (same_true (ts := m) rfl rfl HT13.out (HK13.out.tags (A := M) (ts := m) (by simp)) (by omega)).mono ?_
                rintro e w14 ⟨rfl, hb⟩
                have HK14 := Lib.hid (HK13.out.next hb)
                clear hb HK13 HT13
                go_wp2_with fail
                have HMT2 := Lib.hid (show (∀ x ∈ ts, m.countP (fun y => decide (y = x)) = 1) ∧ ∀ x ∈ m, x ∈ ts by
                  rw [HMT.out]
                  exact ⟨fun x hx => up_count (up_norm ts) (mem_norm.2 hx), fun x hx => mem_norm.1 hx⟩)
                have htg := tguard
                clear HM1 HMM HMT HB6 HT6 hrl
                go_loopw [13] (fun v13 wr => ∃ i : Nat, v13 = .int .i64 i ∧ i ≤ n ∧ Hid (Kp w [] [(M, m), (A7, rs), (A6, rs), (A, ts)] wr)) (fun v13 _ => n - (intOf v13).toNat)
                case atStart => exact ⟨0, rfl, by omega, HK14.out⟩
                case round =>
                  obtain ⟨i, rfl, hi, hrel⟩ := hrel
                  clear HK14
                  by_cases hlt : i < n
                  · have g3 : (i : Int) < (n : Int) := by omega
                    have li : i < ts.length := by omega
                    obtain ⟨wo, hwo⟩ : ∃ wo, wo = wr := ⟨_, rfl⟩
                    subst hwo
                    go_wp2_with fail
                    go_loopw [14, 15] (fun v14 v15 wr => ∃ (q c : Nat), v14 = .int .i64 c ∧ v15 = .int .i64 q ∧ q ≤ m.length ∧ c ≤ q ∧ Hid (Kp w [] [(M, m), (A7, rs), (A6, rs), (A, ts)] wr ∧ c = (m.take q).countP (fun y => decide (y = ts[i])))) (fun _ v15 _ => m.length - (intOf v15).toNat)
                    case atStart => exact ⟨0, 0, rfl, rfl, by omega, by omega, ⟨hrel.out, by simp⟩⟩
                    case round =>
                      obtain ⟨q, c, rfl, rfl, hq, hcq, hrel⟩ := hrel
                      by_cases hqm : q < m.length
                      · have g4 : (q : Int) < (m.length : Int) := by omega
                        obtain ⟨mb, mo, s1, t1, eM, c0, c1, hs1, ht1⟩ := (hrel.out.1.tags (A := M) (ts := m) (by simp)).get hqm
                        obtain ⟨lb, lo, s2, t2, eA, d0, d1, hs2, ht2⟩ := (hrel.out.1.tags (A := A) (ts := ts) (by simp)).get li
                        have hstep : ∀ b : Bool, decide (m[q] = ts[i]) = b → (m.take (q + 1)).countP (fun y => decide (y = ts[i])) = (m.take q).countP (fun y => decide (y = ts[i])) + (if b then 1 else 0) := by
                          intro b hb
                          rw [List.take_add_one, List.getElem?_eq_getElem hqm, Option.toList_some, List.countP_append, List.countP_singleton, hb]
                        by_cases he : m[q] = ts[i]
                        · have kq := teq_run hs1 ht1 hs2 ht2 (decide_eq_true he)
                          have HE := Lib.hid (hstep true (decide_eq_true he))
                          clear hs1 ht1 hs2 ht2 hstep he
                          subst eM eA
                          go_wp2_with fail
                          go_quiet (fail)
                          go_wp2_with fail
                          refine ⟨⟨q + 1, c + 1, by go_num, by go_num, by omega, by omega, ⟨hrel.out.1.next (Same.below (Same.drewN _ _)), by rw [HE.out, ← hrel.out.2]; rfl⟩⟩, by simp [intOf]; omega⟩
                        · have kq := teq_run hs1 ht1 hs2 ht2 (decide_eq_false he)
                          have HE := Lib.hid (hstep false (decide_eq_false he))
                          clear hs1 ht1 hs2 ht2 hstep he
                          subst eM eA
                          go_wp2_with fail
                          go_quiet (fail)
                          go_wp2_with fail
                          refine ⟨⟨q + 1, c, by go_num, by go_num, by omega, by omega, ⟨hrel.out.1.next (Same.below (Same.drewN _ _)), by rw [HE.out, ← hrel.out.2]; rfl⟩⟩, by simp [intOf]; omega⟩
                      · have g4 : ¬ (q : Int) < (m.length : Int) := by omega
                        obtain rfl : 1 = c := by
                          rw [hrel.out.2, List.take_of_length_le (by omega)]
                          exact (HMT2.out.1 _ (List.getElem_mem li)).symm
                        go_wp2_with fail
                        refine ⟨⟨i + 1, by go_num, by omega, hrel.out.1⟩, by simp [intOf]; omega⟩
                  · have g3 : ¬ (i : Int) < (n : Int) := by omega
                    obtain ⟨wo, hwo⟩ : ∃ wo, wo = wr := ⟨_, rfl⟩
                    subst hwo
                    go_wp2_with fail
                    go_loopw [16] (fun v16 wr => ∃ q : Nat, v16 = .int .i64 q ∧ q ≤ m.length ∧ Hid (Kp w [] [(M, m), (A7, rs), (A6, rs), (A, ts)] wr)) (fun v16 _ => m.length - (intOf v16).toNat)
                    case atStart => exact ⟨0, rfl, by omega, hrel.out⟩
                    case round =>
                      obtain ⟨q, rfl, hq, hrel⟩ := hrel
                      by_cases hqm : q < m.length
                      · have g4 : (q : Int) < (m.length : Int) := by omega
                        obtain ⟨wp, hwp⟩ : ∃ wp, wp = wr := ⟨_, rfl⟩
                        subst hwp
                        go_wp2_with fail
                        go_loopw [17, 18] (fun v17 v18 wr => ∃ (th : Bool) (i : Nat), v17 = .bool th ∧ v18 = .int .i64 i ∧ i ≤ n ∧ Hid (Kp w [] [(M, m), (A7, rs), (A6, rs), (A, ts)] wr ∧ th = decide (m[q] ∈ ts.take i))) (fun _ v18 _ => n - (intOf v18).toNat)
                        case atStart => exact ⟨false, 0, rfl, rfl, by omega, ⟨hrel.out, by simp⟩⟩
                        case round =>
                          obtain ⟨th, i', rfl, rfl, hi', hrel⟩ := hrel
                          by_cases hin : i' < n
                          · have g5 : (i' : Int) < (n : Int) := by omega
                            have li : i' < ts.length := by omega
                            have hstep : decide (m[q] ∈ ts.take (i' + 1)) = (decide (m[q] ∈ ts.take i') || decide (ts[i'] = m[q])) := by
                              rw [List.take_add_one, List.getElem?_eq_getElem li, Option.toList_some]
                              rw [Bool.eq_iff_iff]
                              simp only [List.mem_append, List.mem_singleton, decide_eq_true_eq, Bool.or_eq_true]
                              exact or_congr Iff.rfl eq_comm
                            cases th
                            · obtain ⟨mb, mo, s1, t1, eM, c0, c1, hs1, ht1⟩ := (hrel.out.1.tags (A := M) (ts := m) (by simp)).get hqm
                              obtain ⟨lb, lo, s2, t2, eA, d0, d1, hs2, ht2⟩ := (hrel.out.1.tags (A := A) (ts := ts) (by simp)).get li
                              obtain ⟨b, hb⟩ : ∃ b, decide (ts[i'] = m[q]) = b := ⟨_, rfl⟩
                              have kq := teq_run hs2 ht2 hs1 ht1 hb
                              have HE := Lib.hid (show b = decide (m[q] ∈ ts.take (i' + 1)) by rw [hstep, ← hrel.out.2, hb]; rfl)
                              clear hs1 ht1 hs2 ht2 hstep hb
                              subst eM eA
                              go_wp2_with fail
                              go_quiet (fail)
                              go_wp2_with fail
                              refine ⟨⟨b, i' + 1, rfl, by go_num, by omega, ⟨hrel.out.1.next (Same.below (Same.drewN _ _)), HE.out⟩⟩, by simp [intOf]; omega⟩
                            · have HE := Lib.hid (show true = decide (m[q] ∈ ts.take (i' + 1)) by rw [hstep, ← hrel.out.2]; rfl)
                              clear hstep
                              go_wp2_with fail
                              go_quiet (fail)
                              go_wp2_with fail
                              refine ⟨⟨true, i' + 1, rfl, by go_num, by omega, ⟨hrel.out.1.next (Same.below (Same.drewN _ _)), HE.out⟩⟩, by simp [intOf]; omega⟩
                          · have g5 : ¬ (i' : Int) < (n : Int) := by omega
                            obtain rfl : true = th := by
                              rw [hrel.out.2, List.take_of_length_le (by omega)]
                              exact (decide_eq_true (HMT2.out.2 _ (List.getElem_mem hqm))).symm
                            go_wp2_with fail
                            refine ⟨⟨q + 1, by go_num, by omega, hrel.out.1⟩, by simp [intOf]; omega⟩
                      · have g4 : ¬ (q : Int) < (m.length : Int) := by omega
                        go_wp2_with fail
                        refine (HAW.out _ hrel.out.kept).mono ?_
                        rintro e w20 ⟨rfl, hb⟩
                        have HB20 := Lib.hid hb
                        clear hb hrel
                        go_wp2_with fail
                        go_ret
                        exact ⟨rfl, HB20.out⟩
              · skip
                go_wp2_with (first
                  | (at_builtin
                     refine wpList_append_tags _ rfl _ _ rfl w1.heap.size (.slice (some ⟨g, 0, none⟩) n c5) n ps rfl HOW.out A k cap (ts.take k) rfl hkl ((HA.out.2.1.keep HBW.out).take k) (by omega) HSZ.out ?_
                     intro v6 w6 hown6 hgr6 hob6
                     obtain ⟨A6, c6, rfl, hx1, hx2, hx3, hx4⟩ := own_slice hown6
                     clear hx1 hx2 hx3 hx4
                     have HB6 := Lib.hid (show Below w.heap.size w w6 from HBW.out.grown hgr6 HBW.out.size (by intro q hq; injection hq with hq; subst hq; exact HGL.out))
                     have HT6 := Lib.hid (Tags.of_own hown6)
                     clear hown6 hgr6 hob6)
                  | (at_builtin
                     refine wpList_append_tags _ rfl _ _ rfl w6.heap.size (.slice (some ⟨w6.heap.size, 0, none⟩) 0 0) 0 [] rfl (own_empty w6) A6 (n + k) c6 (ps ++ ts.take k) rfl (by rw [List.length_append, hpl, hkl]) (HT6.out.alloc _) (by omega) (by simp) ?_
                     intro v7 w7 hown7 hgr7 hob7
                     rw [Nat.zero_add, List.nil_append] at hown7
                     obtain ⟨A7, c7, rfl, hx1, hx2, hx3, hx4⟩ := own_slice hown7
                     clear hx1 hx2 hx3 hx4
                     have hb7 : Below w6.heap.size w6 w7 := Below.grown ((Below.refl _ _).alloc (Nat.le_refl _) _) hgr7 (by simp) (by intro q hq; injection hq with hq; subst hq; simp)
                     have HKP := Lib.hid (show Kp w [] [(A7, ps ++ ts.take k), (A6, ps ++ ts.take k), (A, ts)] w7 from ((Kp.row (Kp.row (Kp.row ⟨below_then HB6.out hb7, by simp, by simp⟩ (HA.out.2.1.keep (below_then HB6.out hb7))) (HT6.out.keep hb7)) (Tags.of_own hown7))))
                     clear hown7 hgr7 hob7 hb7))
                have hnl := norm_length ts
                have HM1 := Lib.hid (norm_same HM.out)
                have hrl : (ps ++ ts.take k).length = n + k := by rw [List.length_append, hpl, hkl]
                have HMM := Lib.hid (norm_norm ts)
                have hnt := HA.out.1
                obtain ⟨rs, hrs⟩ : ∃ rs, rs = ps ++ ts.take k := ⟨_, rfl⟩
                rw [← hrs] at HM1 hrl HKP
                obtain ⟨m, hm⟩ : ∃ m, m = norm ts := ⟨_, rfl⟩
                rw [← hm] at HM1 HMM hnl
                have HMT := Lib.hid hm
                refine (normal_says (cap := cap) hnt (HKP.out.tags (A := A) (ts := ts) (by simp)) (by omega) hm.symm).mono ?_
                rintro e w8 ⟨⟨M, cm, rfl, ht⟩, hb⟩
                have HK8 := Lib.hid ((HKP.out.next hb).row ht)
                clear hb ht HKP hrs hm HM HOW HSZ HBW HGL hkl hpl
                go_wp2_with fail
                refine (normal_says (cap := c7) hrl (HK8.out.tags (A := A7) (ts := rs) (by simp)) (by omega) HM1.out).mono ?_
                rintro e w9 ⟨⟨N, cn, rfl, ht⟩, hb⟩
                have HT9 := Lib.hid ht
                have HK9 := Lib.hid (HK8.out.next hb)
                clear hb ht HK8
                go_wp2_with fail
                refine (same_true (ts := m) rfl rfl HT9.out (HK9.out.tags (A := M) (ts := m) (by simp)) (by omega)).mono ?_
                rintro e w10 ⟨rfl, hb⟩
                have HK10 := Lib.hid (HK9.out.next hb)
                clear hb HK9 HT9
                go_wp2_with fail
                refine (same_true (ts := rs) hrl hrl (HK10.out.tags (A := A7) (ts := rs) (by simp)) (HK10.out.tags (A := A6) (ts := rs) (by simp)) (by omega)).mono ?_
                rintro e w11 ⟨rfl, hb⟩
                have HK11 := Lib.hid (HK10.out.next hb)
                clear hb HK10
                go_wp2_with fail
                refine (is_true (cap := cm) rfl (HK11.out.tags (A := M) (ts := m) (by simp)) (by omega) HMM.out.symm).mono ?_
                rintro e w12 ⟨rfl, hb⟩
                have HK12 := Lib.hid (HK11.out.next hb)
                clear hb HK11
                go_wp2_with fail
                refine (normal_says (cap := cm) rfl (HK12.out.tags (A := M) (ts := m) (by simp)) (by omega) HMM.out).mono ?_
                rintro e w13 ⟨⟨N, cn, rfl, ht⟩, hb⟩
                have HT13 := Lib.hid ht
                have HK13 := Lib.hid (HK12.out.next hb)
                clear hb ht HK12
                go_wp2_with fail
                refine (same_true (ts := m) rfl rfl HT13.out (HK13.out.tags (A := M) (ts := m) (by simp)) (by omega)).mono ?_
                rintro e w14 ⟨rfl, hb⟩
                have HK14 := Lib.hid (HK13.out.next hb)
                clear hb HK13 HT13
                go_wp2_with fail
                have HMT2 := Lib.hid (show (∀ x ∈ ts, m.countP (fun y => decide (y = x)) = 1) ∧ ∀ x ∈ m, x ∈ ts by
                  rw [HMT.out]
                  exact ⟨fun x hx => up_count (up_norm ts) (mem_norm.2 hx), fun x hx => mem_norm.1 hx⟩)
                have htg := tguard
                clear HM1 HMM HMT HB6 HT6 hrl
                go_loopw [13] (fun v13 wr => ∃ i : Nat, v13 = .int .i64 i ∧ i ≤ n ∧ Hid (Kp w [] [(M, m), (A7, rs), (A6, rs), (A, ts)] wr)) (fun v13 _ => n - (intOf v13).toNat)
                case atStart => exact ⟨0, rfl, by omega, HK14.out⟩
                case round =>
                  obtain ⟨i, rfl, hi, hrel⟩ := hrel
                  clear HK14
                  by_cases hlt : i < n
                  · have g3 : (i : Int) < (n : Int) := by omega
                    have li : i < ts.length := by omega
                    obtain ⟨wo, hwo⟩ : ∃ wo, wo = wr := ⟨_, rfl⟩
                    subst hwo
                    go_wp2_with fail
                    go_loopw [14, 15] (fun v14 v15 wr => ∃ (q c : Nat), v14 = .int .i64 c ∧ v15 = .int .i64 q ∧ q ≤ m.length ∧ c ≤ q ∧ Hid (Kp w [] [(M, m), (A7, rs), (A6, rs), (A, ts)] wr ∧ c = (m.take q).countP (fun y => decide (y = ts[i])))) (fun _ v15 _ => m.length - (intOf v15).toNat)
                    case atStart => exact ⟨0, 0, rfl, rfl, by omega, by omega, ⟨hrel.out, by simp⟩⟩
                    case round =>
                      obtain ⟨q, c, rfl, rfl, hq, hcq, hrel⟩ := hrel
                      by_cases hqm : q < m.length
                      · have g4 : (q : Int) < (m.length : Int) := by omega
                        obtain ⟨mb, mo, s1, t1, eM, c0, c1, hs1, ht1⟩ := (hrel.out.1.tags (A := M) (ts := m) (by simp)).get hqm
                        obtain ⟨lb, lo, s2, t2, eA, d0, d1, hs2, ht2⟩ := (hrel.out.1.tags (A := A) (ts := ts) (by simp)).get li
                        have hstep : ∀ b : Bool, decide (m[q] = ts[i]) = b → (m.take (q + 1)).countP (fun y => decide (y = ts[i])) = (m.take q).countP (fun y => decide (y = ts[i])) + (if b then 1 else 0) := by
                          intro b hb
                          rw [List.take_add_one, List.getElem?_eq_getElem hqm, Option.toList_some, List.countP_append, List.countP_singleton, hb]
                        by_cases he : m[q] = ts[i]
                        · have kq := teq_run hs1 ht1 hs2 ht2 (decide_eq_true he)
                          have HE := Lib.hid (hstep true (decide_eq_true he))
                          clear hs1 ht1 hs2 ht2 hstep he
                          subst eM eA
                          go_wp2_with fail
                          go_quiet (fail)
                          go_wp2_with fail
                          refine ⟨⟨q + 1, c + 1, by go_num, by go_num, by omega, by omega, ⟨hrel.out.1.next (Same.below (Same.drewN _ _)), by rw [HE.out, ← hrel.out.2]; rfl⟩⟩, by simp [intOf]; omega⟩
                        · have kq := teq_run hs1 ht1 hs2 ht2 (decide_eq_false he)
                          have HE := Lib.hid (hstep false (decide_eq_false he))
                          clear hs1 ht1 hs2 ht2 hstep he
                          subst eM eA
                          go_wp2_with fail
                          go_quiet (fail)
                          go_wp2_with fail
                          refine ⟨⟨q + 1, c, by go_num, by go_num, by omega, by omega, ⟨hrel.out.1.next (Same.below (Same.drewN _ _)), by rw [HE.out, ← hrel.out.2]; rfl⟩⟩, by simp [intOf]; omega⟩
                      · have g4 : ¬ (q : Int) < (m.length : Int) := by omega
                        obtain rfl : 1 = c := by
                          rw [hrel.out.2, List.take_of_length_le (by omega)]
                          exact (HMT2.out.1 _ (List.getElem_mem li)).symm
                        go_wp2_with fail
                        refine ⟨⟨i + 1, by go_num, by omega, hrel.out.1⟩, by simp [intOf]; omega⟩
                  · have g3 : ¬ (i : Int) < (n : Int) := by omega
                    obtain ⟨wo, hwo⟩ : ∃ wo, wo = wr := ⟨_, rfl⟩
                    subst hwo
                    go_wp2_with fail
                    go_loopw [16] (fun v16 wr => ∃ q : Nat, v16 = .int .i64 q ∧ q ≤ m.length ∧ Hid (Kp w [] [(M, m), (A7, rs), (A6, rs), (A, ts)] wr)) (fun v16 _ => m.length - (intOf v16).toNat)
                    case atStart => exact ⟨0, rfl, by omega, hrel.out⟩
                    case round =>
                      obtain ⟨q, rfl, hq, hrel⟩ := hrel
                      by_cases hqm : q < m.length
                      · have g4 : (q : Int) < (m.length : Int) := by omega
                        obtain ⟨wp, hwp⟩ : ∃ wp, wp = wr := ⟨_, rfl⟩
                        subst hwp
                        go_wp2_with fail
                        go_loopw [17, 18] (fun v17 v18 wr => ∃ (th : Bool) (i : Nat), v17 = .bool th ∧ v18 = .int .i64 i ∧ i ≤ n ∧ Hid (Kp w [] [(M, m), (A7, rs), (A6, rs), (A, ts)] wr ∧ th = decide (m[q] ∈ ts.take i))) (fun _ v18 _ => n - (intOf v18).toNat)
                        case atStart => exact ⟨false, 0, rfl, rfl, by omega, ⟨hrel.out, by simp⟩⟩
                        case round =>
                          obtain ⟨th, i', rfl, rfl, hi', hrel⟩ := hrel
                          by_cases hin : i' < n
                          · have g5 : (i' : Int) < (n : Int) := by omega
                            have li : i' < ts.length := by omega
                            have hstep : decide (m[q] ∈ ts.take (i' + 1)) = (decide (m[q] ∈ ts.take i') || decide (ts[i'] = m[q])) := by
                              rw [List.take_add_one, List.getElem?_eq_getElem li, Option.toList_some]
                              rw [Bool.eq_iff_iff]
                              simp only [List.mem_append, List.mem_singleton, decide_eq_true_eq, Bool.or_eq_true]
                              exact or_congr Iff.rfl eq_comm
                            cases th
                            · obtain ⟨mb, mo, s1, t1, eM, c0, c1, hs1, ht1⟩ := (hrel.out.1.tags (A := M) (ts := m) (by simp)).get hqm
                              obtain ⟨lb, lo, s2, t2, eA, d0, d1, hs2, ht2⟩ := (hrel.out.1.tags (A := A) (ts := ts) (by simp)).get li
                              obtain ⟨b, hb⟩ : ∃ b, decide (ts[i'] = m[q]) = b := ⟨_, rfl⟩
                              have kq := teq_run hs2 ht2 hs1 ht1 hb
                              have HE := Lib.hid (show b = decide (m[q] ∈ ts.take (i' + 1)) by rw [hstep, ← hrel.out.2, hb]; rfl)
                              clear hs1 ht1 hs2 ht2 hstep hb
                              subst eM eA
                              go_wp2_with fail
                              go_quiet (fail)
                              go_wp2_with fail
                              refine ⟨⟨b, i' + 1, rfl, by go_num, by omega, ⟨hrel.out.1.next (Same.below (Same.drewN _ _)), HE.out⟩⟩, by simp [intOf]; omega⟩
                            · have HE := Lib.hid (show true = decide (m[q] ∈ ts.take (i' + 1)) by rw [hstep, ← hrel.out.2]; rfl)
                              clear hstep
                              go_wp2_with fail
                              go_quiet (fail)
                              go_wp2_with fail
                              refine ⟨⟨true, i' + 1, rfl, by go_num, by omega, ⟨hrel.out.1.next (Same.below (Same.drewN _ _)), HE.out⟩⟩, by simp [intOf]; omega⟩
                          · have g5 : ¬ (i' : Int) < (n : Int) := by omega
                            obtain rfl : true = th := by
                              rw [hrel.out.2, List.take_of_length_le (by omega)]
                              exact (decide_eq_true (HMT2.out.2 _ (List.getElem_mem hqm))).symm
                            go_wp2_with fail
                            refine ⟨⟨q + 1, by go_num, by omega, hrel.out.1⟩, by simp [intOf]; omega⟩
                      · have g4 : ¬ (q : Int) < (m.length : Int) := by omega
                        go_wp2_with fail
                        refine (HAW.out _ hrel.out.kept).mono ?_
                        rintro e w20 ⟨rfl, hb⟩
                        have HB20 := Lib.hid hb
                        clear hb hrel
                        go_wp2_with fail
                        go_ret
                        exact ⟨rfl, HB20.out⟩
end Go.Proofs.Ytapkdghghnmhhaa
