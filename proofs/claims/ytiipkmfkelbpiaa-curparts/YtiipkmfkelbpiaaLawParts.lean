/-
  The walk through CurParts: whatever bytes, parts and byte it is handed, it returns true, and changes nothing that was there. The statement itself is proved in the last text.
-/
import Derived.Test.YtiipkmfkelbpiaaAwake
import Derived.Test.YtiipkmfkelbpiaaPartsMath
namespace Go.Proofs.Ytiipkmfkelbpiaa
open Go.RowKit

/-- While the bytes are taken in parts: t of them were, and stand in the row at G. -/
structure AllInv (w : World) (B p : Nat) (R : Option Addr) (bs : List Int) (t : Nat) (v : Value) (wr : World) : Prop where
  below : Below w.heap.size w wr
  cur : CurOk R wr p ⟨bs, t, 0, 0⟩ none
  own : wr.ownsRow B 5 1 v t (by8 (bs.take t))
  size : B ≤ wr.heap.size

/-- While they are taken up to each end. -/
structure OtherInv (w : World) (B p p2 : Nat) (R R2 G : Option Addr) (bs : List Int) (t : Nat) (v : Value) (wr : World) : Prop where
  below : Below w.heap.size w wr
  cur : CurOk R wr p ⟨bs, bs.length, 0, 0⟩ none
  all : Lies wr G (by8 bs)
  cur2 : CurOk R2 wr p2 ⟨bs, t, 0, 0⟩ none
  own : wr.ownsRow B 5 1 v t (by8 (bs.take t))
  size : B ≤ wr.heap.size

theorem CurOk.fault2 {R : Option Addr} {w : World} {p : Nat} {s : St} {tr : Option Addr} (h : CurOk R w p s tr) :
    Calls Try.prog 13 #[.pointer (some ⟨p, 0, none⟩)] w fun e w' => e = .returned (.agg #[.int .i64 s.c, .int .i64 s.a]) ∧ Below w.heap.size w w' := by
  obtain ⟨A, cap, h1, _⟩ := h.is_
  exact fault_calls h1

set_option maxRecDepth 100000 in
set_option maxHeartbeats 8000000 in
theorem parts_walk (A P : Option Addr) (n cap m capP : Nat) (bs zs : List Int) (x : Int) (w : World) (hl : bs.length = n) (hv : Lies w A (by8 bs)) (hs : ∀ z ∈ bs, 0 ≤ z ∧ z < 256) (hnil : A = none → cap = 0)
    (hm : zs.length = m) (hP : Lies w P (zs.map (.int .i64))) (hx : 0 ≤ x ∧ x < 256) :
    Calls Try.prog 6 #[.slice A n cap, .slice P m capP, .int .u8 x] w fun e w' => e = .returned (.bool true) ∧ Below w.heap.size w w' := by
  have HV := Lib.hid hv
  have HL := Lib.hid hl
  have HS := Lib.hid hs
  have HM := Lib.hid hm
  have HP := Lib.hid hP
  have HN := Lib.hid hnil
  clear hv hl hs hnil hm hP
  by_cases h300 : 300 < n
  · have h3 : (300 : Int) < (n : Int) := by omega
    go_enter Try.func6, Try.ntmps6
    go_wp2_with fail
    refine (awake_calls _).mono ?_
    rintro e w9 ⟨rfl, hb9⟩
    go_wp2
    go_ret
    exact ⟨rfl, hb9⟩
  have h3 : ¬ (300 : Int) < (n : Int) := by omega
  by_cases h60 : 60 < m
  · have h4 : (60 : Int) < (m : Int) := by omega
    go_enter Try.func6, Try.ntmps6
    go_wp2_with fail
    refine (awake_calls _).mono ?_
    rintro e w9 ⟨rfl, hb9⟩
    go_wp2
    go_ret
    exact ⟨rfl, hb9⟩
  have h4 : ¬ (60 : Int) < (m : Int) := by omega
  go_enter Try.func6, Try.ntmps6
  go_wp2_with fail
  refine (new_calls w A n cap bs HL.out HV.out HS.out (by omega) HN.out).mono ?_
  rintro e w1 ⟨p, R, hp, hR, rfl, hc1, hb1⟩
  have hplt := hc1.lt
  have hk2 : Below w1.heap.size w1 (w1.alloc (.cells #[] 5)) := (Below.refl _ _).alloc (Nat.le_refl _) _
  have I0 : AllInv w w1.heap.size p R bs 0 (.slice (some ⟨w1.heap.size, 0, none⟩) 0 0) (w1.alloc (.cells #[] 5)) :=
    ⟨below_then hb1 hk2, hc1.keep hk2, own_empty w1, hk2.size⟩
  have hRB : ∀ y : Addr, R = some y → y.block < w1.heap.size := fun y hy => by have := hR y hy; omega
  have HRB := Lib.hid hRB
  have hw1 : w.heap.size ≤ w1.heap.size := hb1.size
  clear hR hRB hc1 hb1 hk2
  generalize hB : w1.heap.size = B at I0 hplt HRB hw1
  go_wp2_with fail
  clear hB
  go_loopw [8, 9] (fun o i wr => ∃ k t : Nat, k ≤ m ∧ t ≤ n ∧ i = .int .i64 k ∧ AllInv w B p R bs t o wr) (fun _ i _ => m - (intOf i).toNat)
  case atStart => exact ⟨0, 0, Nat.zero_le _, Nat.zero_le _, rfl, I0⟩
  case round =>
    obtain ⟨k, t, hk, ht, rfl, hI⟩ := hrel
    clear I0
    obtain ⟨G, capG, hvG, _, _, _, hGB⟩ := own_slice hI.own
    subst hvG
    by_cases hlt : k < m
    · have hzk : k < zs.length := by rw [HM.out]; exact hlt
      obtain ⟨pb, po, rfl, hcell⟩ := (HP.out.keep hI.below).at_ (i := k) (by rw [List.length_map]; exact hzk)
      obtain ⟨z, hz⟩ : ∃ z, zs[k] = z := ⟨_, rfl⟩
      have hcell' : wr.cell? ⟨pb, po + k, none⟩ = some (.int .i64 z) := by rw [hcell]; simp [hz]
      have hlt' : (k : Int) < (m : Int) := by omega
      have hge' : (0 : Int) ≤ (k : Int) := by omega
      have HI := Lib.hid hI
      clear hcell hI hz
      have zb := part_in z
      have zb1 := zb.1
      have zb2 := zb.2
      have hnn : 0 ≤ (z.tmod 20 + 20) % 20 ∧ (z.tmod 20 + 20) % 20 < 20 := by omega
      clear zb
      go_wp2_with fail
      generalize (z.tmod 20 + 20) % 20 = nv at hnn ⊢
      obtain ⟨nn, rfl⟩ := Int.eq_ofNat_of_zero_le hnn.1
      clear zb1 zb2 hcell'
      refine HI.out.cur.left.mono ?_
      rintro e wa ⟨rfl, hsa⟩
      have htb : bs.length = n := HL.out
      simp only []
      rw [htb]
      have cura := HI.out.cur.same hsa
      have owna := own_keep HI.out.own hsa.below
      have bela := HI.out.below.trans hsa.below
      have sza : B ≤ wa.heap.size := by rw [hsa.heap]; exact HI.out.size
      by_cases hmany : (n : Int) - (t : Int) < (nn : Int)
      · have HF := Lib.hid (show AllInv w B p R bs t (.slice G t capG) wa from ⟨bela, cura, owna, sza⟩)
        clear hsa HI cura owna bela sza htb
        go_wp2_with fail
        exact ⟨⟨k + 1, t, by omega, ht, by go_num, HF.out⟩, by simp [intOf]; omega⟩
      · have htk : St.take ⟨bs, t, 0, 0⟩ (nn : Int) = ((bs.drop t).take nn, ⟨bs, t + nn, 0, 0⟩) := by
          have h1 : ¬ (nn : Int) < 0 := by omega
          have h2 : ¬ (bs.length : Int) - (t : Int) < (nn : Int) := by rw [htb]; omega
          simp only [St.take, St.next, ne_eq, not_true_eq_false, if_false, h1, h2, Int.toNat_natCast]
        have HTK := Lib.hid htk
        have HOW := Lib.hid (And.intro owna bela)
        have hln : ((bs.drop t).take nn).length = nn := by rw [List.length_take, List.length_drop, htb]; omega
        have HLN := Lib.hid hln
        clear htk owna bela HI hsa htb hln
        go_wp2_with fail
        refine (take_calls cura nn).mono ?_
        rw [HTK.out]
        rintro e wb ⟨C, capC, rfl, hownC, hcb, hbb⟩
        simp only [] at hownC hcb
        have hlC := Lies.of_own hownC
        rw [HLN.out]
        have hob : wb.ownsRow B 5 1 (.slice G t capG) t (by8 (bs.take t)) := own_but_lt HOW.out.1 hbb hplt
        have hbw : Below w.heap.size w wb := HOW.out.2.trans (hbb.below (by omega) HOW.out.2.size)
        have hszb : B ≤ wb.heap.size := Nat.le_trans sza hbb.size
        have HB := Lib.hid (And.intro hob (And.intro hbw (And.intro hcb hlC)))
        clear hob hbw hcb hlC hownC hbb cura HOW sza
        have hfit : t + nn ≤ 140737488355328 := by omega
        go_wp2_with (at_builtin; refine wpList_append_row _ rfl (.tmp 52) (.tmp 55) rfl B (.slice G t capG) t (by8 (bs.take t)) rfl HB.out.1 C nn capC (by8 ((bs.drop t).take nn)) rfl (by rw [by8_length]; exact HLN.out) HB.out.2.2.2 by8_one hfit hszb ?_; intro v5 w5 hown5 hgr5 hob5; rw [← by8_append, take_join] at hown5; have HF := Lib.hid (show AllInv w B p R bs (t + nn) v5 w5 from ⟨HB.out.2.1.grown hgr5 (by omega) (fun g hg => by have := own_blocks HB.out.1 g hg; omega), HB.out.2.2.1.below_ ((Below.refl B wb).grown hgr5 hszb (fun g hg => own_blocks HB.out.1 g hg)) hplt HRB.out, hown5, Nat.le_trans hszb hgr5.size⟩); clear hown5 hgr5 hob5)
        exact ⟨⟨k + 1, t + nn, by omega, by omega, by go_num, HF.out⟩, by simp [intOf]; omega⟩
    · have HI := Lib.hid hI
      clear hI
      have hlt' : ¬ (k : Int) < (m : Int) := by omega
      go_wp2_with fail
      obtain ⟨wo, hwo⟩ : ∃ wo, wo = wr := ⟨_, rfl⟩
      subst hwo
      go_loopw [8, 11] (fun o i wr => ∃ j t : Nat, j ≤ t ∧ t ≤ n ∧ i = .int .i64 j ∧ AllInv w B p R bs t o wr) (fun _ i _ => n + 1 - (intOf i).toNat)
      case atStart => exact ⟨0, t, Nat.zero_le _, ht, rfl, HI.out⟩
      case round =>
        obtain ⟨j, t2, hjt, ht2, rfl, hI2⟩ := hrel
        clear HI hGB
        obtain ⟨G2, capG2, hvG2, _, _, _, hGB2⟩ := own_slice hI2.own
        subst hvG2
        have hjn : (j : Int) ≤ (n : Int) := by omega
        have hjn' : j ≤ n := by omega
        have HI2 := Lib.hid hI2
        clear hI2
        by_cases hmore : t2 < n
        · have e0 : (0 : Int) < (n : Int) - (t2 : Int) := by omega
          have htb : t2 < bs.length := by rw [HL.out]; exact hmore
          have hpk : St.peek ⟨bs, t2, 0, 0⟩ = (bs.getD t2 0, true) := by simp [St.peek, htb]
          have hby : St.byte ⟨bs, t2, 0, 0⟩ = (bs.getD t2 0, ⟨bs, t2 + 1, 0, 0⟩) := by simp [St.byte, htb]
          have hst : by8 (bs.take t2) ++ [.int .u8 (bs.getD t2 0)] = by8 (bs.take (t2 + 1)) := by
            rw [List.take_succ_eq_append_getElem htb, by8_append]
            simp [by8, htb]
          generalize bs.getD t2 0 = y at hpk hby hst
          have HPK := Lib.hid hpk
          have HBY := Lib.hid hby
          have HST := Lib.hid hst
          have t1 : (y != y) = false := by simp
          clear hpk hby hst
          go_wp2_with fail
          refine HI2.out.cur.left.mono ?_
          rintro e wa ⟨rfl, hsa⟩
          simp only []
          rw [show bs.length = n from HL.out]
          have cura := HI2.out.cur.same hsa
          have HA := Lib.hid (And.intro (own_keep HI2.out.own hsa.below) (And.intro (HI2.out.below.trans hsa.below) (show B ≤ wa.heap.size by rw [hsa.heap]; exact HI2.out.size)))
          clear hsa HI2
          go_wp2_with fail
          refine (peek_calls cura).mono ?_
          rw [HPK.out]
          rintro e wb ⟨rfl, hbb⟩
          have curb := cura.keep hbb
          have HB := Lib.hid (And.intro (own_keep HA.out.1 hbb) (And.intro (below_then HA.out.2.1 hbb) (Nat.le_trans HA.out.2.2 hbb.size)))
          clear hbb cura HA
          go_wp2_with fail
          refine (byte_calls curb).mono ?_
          rw [HBY.out]
          rintro e wc ⟨rfl, hcc, hbc⟩
          simp only [] at hcc
          have hoc : wc.ownsRow B 5 1 (.slice G2 t2 capG2) t2 (by8 (bs.take t2)) := own_but_lt HB.out.1 hbc hplt
          have hbw : Below w.heap.size w wc := HB.out.2.1.trans (hbc.below (by omega) HB.out.2.1.size)
          have hszc : B ≤ wc.heap.size := Nat.le_trans HB.out.2.2 hbc.size
          have hk4 : Below wc.heap.size wc (wc.alloc (.cells #[.int .u8 y] 5)) := (Below.refl _ _).alloc (Nat.le_refl _) _
          have HL4 := Lib.hid (lies_one wc y rfl)
          have HC := Lib.hid (And.intro (own_keep hoc hk4) (And.intro (below_then hbw hk4) (And.intro (hcc.keep hk4) (Nat.le_trans hszc hk4.size))))
          clear hoc hbw hcc hbc hk4 curb HB
          have hfit : t2 + 1 ≤ 140737488355328 := by omega
          have hsz4 : B ≤ (wc.alloc (.cells #[.int .u8 y] 5)).heap.size := HC.out.2.2.2
          have HSZ4 := Lib.hid hsz4
          clear hsz4
          go_wp2_with (at_builtin; refine wpList_append_row _ rfl (.tmp 81) (.tmp 83) rfl B (.slice G2 t2 capG2) t2 (by8 (bs.take t2)) rfl HC.out.1 (some ⟨wc.heap.size, 0, none⟩) 1 1 (by8 [y]) rfl rfl HL4.out by8_one hfit HSZ4.out ?_; intro v5 w5 hown5 hgr5 hob5; rw [show by8 [y] = [.int .u8 y] from rfl, HST.out] at hown5; have HF := Lib.hid (show AllInv w B p R bs (t2 + 1) v5 w5 from ⟨HC.out.2.1.grown hgr5 (Nat.le_trans hw1 HSZ4.out) (fun g hg => by have := own_blocks HC.out.1 g hg; omega), HC.out.2.2.1.below_ ((Below.refl B _).grown hgr5 HSZ4.out (fun g hg => own_blocks HC.out.1 g hg)) hplt HRB.out, hown5, Nat.le_trans HSZ4.out hgr5.size⟩); clear hown5 hgr5 hob5)
          exact ⟨⟨j + 1, t2 + 1, by omega, by omega, by go_num, HF.out⟩, by simp [intOf]; omega⟩
        · obtain rfl : t2 = n := by omega
          have e0 : ¬ (0 : Int) < (t2 : Int) - (t2 : Int) := by omega
          go_wp2_with fail
          refine HI2.out.cur.left.mono ?_
          rintro e wa ⟨rfl, hsa⟩
          simp only []
          rw [show bs.length = t2 from HL.out]
          have HA := Lib.hid (show AllInv w B p R bs t2 (.slice G2 t2 capG2) wa from ⟨HI2.out.below.trans hsa.below, HI2.out.cur.same hsa, own_keep HI2.out.own hsa.below, by rw [hsa.heap]; exact HI2.out.size⟩)
          clear hsa HI2
          go_wp2_with fail
          refine (new_calls wa A t2 cap bs HL.out (HV.out.keep HA.out.below) HS.out (by omega) HN.out).mono ?_
          rintro e wb ⟨p2, R2, hp2, hR2, rfl, hcb, hbb⟩
          have hlG := Lies.of_own HA.out.own
          rw [List.take_of_length_le (by rw [HL.out]; exact Nat.le_refl _)] at hlG
          have hGlt : ∀ y : Addr, G2 = some y → y.block < wa.heap.size := by
            intro y hy
            subst hy
            rcases HA.out.own.2 with ⟨hq, _⟩ | ⟨g, c, cur, hq, _, hh, _⟩
            · cases hq
            · injection hq with hq
              injection hq with hq
              subst hq
              exact own_lt hh
          have hcA : CurOk R wa p ⟨bs, bs.length, 0, 0⟩ none := by rw [HL.out]; exact HA.out.cur
          have hp2lt := hcb.lt
          have hplt2 : p < wa.heap.size := HA.out.cur.lt
          have hk5 : Below wb.heap.size wb (wb.alloc (.cells #[] 5)) := (Below.refl _ _).alloc (Nat.le_refl _) _
          have hb5 := below_then hbb hk5
          have I5 : OtherInv w wb.heap.size p p2 R R2 G2 bs 0 (.slice (some ⟨wb.heap.size, 0, none⟩) 0 0) (wb.alloc (.cells #[] 5)) :=
            ⟨below_then HA.out.below hb5, hcA.keep hb5, hlG.keep hb5, hcb.keep hk5, own_empty wb, hk5.size⟩
          have hwa1 : B ≤ wa.heap.size := HA.out.size
          have hbs5 : wa.heap.size ≤ wb.heap.size := hbb.size
          have HGL := Lib.hid (show ∀ y : Addr, G2 = some y → y.block < wb.heap.size from fun y hy => Nat.lt_of_lt_of_le (hGlt y hy) hbs5)
          have HR1 := Lib.hid (show ∀ y : Addr, R = some y → y.block < wb.heap.size from fun y hy => by have := HRB.out y hy; omega)
          have HR2 := Lib.hid (show ∀ y : Addr, R2 = some y → y.block < wb.heap.size from fun y hy => by have := hR2 y hy; omega)
          clear hR2 hcb hlG hGlt hcA hk5 hb5 hbb HA hGB2
          generalize hB2 : wb.heap.size = B2 at I5 hp2lt HGL HR1 HR2 hbs5
          go_wp2_with fail
          clear hB2
          go_loopw [15, 16, 17] (fun o en i wr => ∃ j t : Nat, j ≤ t ∧ t ≤ t2 ∧ i = .int .i64 j ∧ en = .int .i64 (cnt x (bs.take t) : Nat) ∧ OtherInv w B2 p p2 R R2 G2 bs t o wr) (fun _ _ i _ => t2 + 1 - (intOf i).toNat)
          case atStart => exact ⟨0, 0, Nat.le_refl _, Nat.zero_le _, rfl, by simp [cnt], I5⟩
          case round =>
            obtain ⟨j3, t3, hjt3, ht3, rfl, rfl, hI3⟩ := hrel
            clear I5
            obtain ⟨O, capO, hvO, _, _, _, _⟩ := own_slice hI3.own
            subst hvO
            have hjn3 : (j3 : Int) ≤ (t2 : Int) := by omega
            have hjn3' : j3 ≤ t2 := by omega
            have hcl : cnt x (bs.take t3) ≤ 300 := by
              have h1 := cnt_le x (bs.take t3)
              have h2 : (bs.take t3).length ≤ t3 := List.length_take_le _ _
              omega
            have HI3 := Lib.hid hI3
            clear hI3
            by_cases hmore : t3 < t2
            · have e1 : (0 : Int) < (t2 : Int) - (t3 : Int) := by omega
              go_wp2_with fail
              refine HI3.out.cur2.left.mono ?_
              rintro e wc ⟨rfl, hsc⟩
              simp only []
              rw [show bs.length = t2 from HL.out]
              have cur2c := HI3.out.cur2.same hsc
              have HC := Lib.hid (And.intro (HI3.out.below.trans hsc.below) (And.intro (HI3.out.cur.same hsc) (And.intro (HI3.out.all.same hsc) (And.intro (own_keep HI3.out.own hsc.below) (show B2 ≤ wc.heap.size by rw [hsc.heap]; exact HI3.out.size)))))
              clear hsc HI3
              go_wp2_with fail
              refine (until_calls cur2c x hx).mono ?_
              obtain ⟨out, is, t4, hu, hno, hfo, hjo, hway⟩ := until_one bs t3 x (by rw [HL.out]; exact hmore)
              rw [hu]
              rintro e wd ⟨C, capC, rfl, hownC, hcd, hbd⟩
              simp only [] at hownC hcd
              rw [HL.out] at hfo hway
              obtain ⟨L, hL⟩ : ∃ L, out.length = L := ⟨_, rfl⟩
              rw [hL] at hfo hjo hway hownC ⊢
              have hlC := Lies.of_own hownC
              have hne : p ≠ p2 := by omega
              have hcurd : CurOk R wd p ⟨bs, bs.length, 0, 0⟩ none := HC.out.2.1.keeps (Keeps.of_but hbd (S := [p2]) (by simp)) (by simpa using hne) (fun g hg _ => by rw [List.mem_singleton.1 hg]; exact cur2c.nobytes)
              have halld : Lies wd G2 (by8 bs) := by
                obtain ⟨A2, cap2, g1, _⟩ := cur2c.is_
                exact HC.out.2.2.1.but hbd g1 by8_not
              have hownd : wd.ownsRow B2 5 1 (.slice O t3 capO) t3 (by8 (bs.take t3)) := own_but_lt HC.out.2.2.2.1 hbd hp2lt
              have hbeld : Below w.heap.size w wd := HC.out.1.trans (hbd.below (by omega) HC.out.1.size)
              have hszd : B2 ≤ wd.heap.size := Nat.le_trans HC.out.2.2.2.2 hbd.size
              have HD := Lib.hid (And.intro hbeld (And.intro hcurd (And.intro halld (And.intro hownd (And.intro hszd (And.intro hcd hlC))))))
              have HNO := Lib.hid hno
              have HJO := Lib.hid hjo
              have HLO := Lib.hid hL
              have HWY := Lib.hid hway
              clear hbeld hcurd halld hownd hszd hcd hlC hno hjo hL hway hownC hbd cur2c HC hu
              go_wp2_with fail
              go_loopw [20] (fun i wr => ∃ k : Nat, k ≤ L ∧ i = .int .i64 k ∧ Same wd wr) (fun i _ => L - (intOf i).toNat)
              case atStart => exact ⟨0, Nat.zero_le _, rfl, .refl _⟩
              case round =>
                obtain ⟨k, hk, rfl, hs⟩ := hrel
                by_cases hlt : k < L
                · have hko : k < out.length := by rw [HLO.out]; exact hlt
                  obtain ⟨b1, o1, e1, c1⟩ := (HD.out.2.2.2.2.2.2.same hs).at_ (i := k) (by rw [by8_length]; exact hko)
                  subst e1
                  have HS := Lib.hid hs
                  obtain ⟨y, hyk⟩ : ∃ y, out[k] = y := ⟨_, rfl⟩
                  have c1' : wr.cell? ⟨b1, o1 + k, none⟩ = some (.int .u8 y) := by rw [c1]; simp [by8, hyk]
                  have hyx : (y == x) = false := by
                    have := HNO.out y (hyk ▸ List.getElem_mem hko)
                    simpa using this
                  clear hs c1 hyk
                  have hlt' : (k : Int) < (L : Int) := by omega
                  have hge' : (0 : Int) ≤ (k : Int) := by omega
                  go_wp2_with fail
                  exact ⟨⟨k + 1, by omega, by go_num, HS.out⟩, by simp [intOf]; omega⟩
                · have hlt' : ¬ (k : Int) < (L : Int) := by omega
                  obtain ⟨wo3, hwo3⟩ : ∃ wo3, wo3 = wr := ⟨_, rfl⟩
                  subst hwo3
                  have HE := Lib.hid (And.intro (HD.out.1.trans hs.below) (And.intro (HD.out.2.1.same hs) (And.intro (HD.out.2.2.1.same hs) (And.intro (own_keep HD.out.2.2.2.1 hs.below) (And.intro (HD.out.2.2.2.2.2.1.same hs) (HD.out.2.2.2.2.2.2.same hs))))))
                  have hsze : B2 ≤ wo3.heap.size := by rw [hs.heap]; exact HD.out.2.2.2.2.1
                  have hcnt : cnt x (bs.take (t3 + L)) = cnt x (bs.take t3) := by rw [← HJO.out, cnt_append, cnt_none x out HNO.out]; rfl
                  clear hs HD HNO
                  have hfit : t3 + L ≤ 140737488355328 := by omega
                  rcases HWY.out with ⟨rfl, rfl, h42, h43⟩ | ⟨rfl, h41, h43⟩
                  · have hlb : t3 + L < bs.length := by rw [HL.out]; omega
                    have hel : bs[t3 + L] = x := by
                      obtain ⟨_, he⟩ := List.getElem?_eq_some_iff.1 h43
                      exact he
                    have HJ2 := Lib.hid (show bs.take (t3 + L) ++ [x] = bs.take (t3 + L + 1) by rw [List.take_succ_eq_append_getElem hlb, hel])
                    have hcnt2 : cnt x (bs.take (t3 + L + 1)) = cnt x (bs.take t3) + 1 := by rw [cnt_step x bs (t3 + L) hlb, hcnt, if_pos hel]
                    have hfit2 : t3 + L + 1 ≤ 140737488355328 := by omega
                    have HCN := Lib.hid hcnt2
                    clear h43 HWY hel hcnt hcnt2 hlb
                    go_wp2_with (first | (at_builtin; refine wpList_append_row _ rfl (.tmp 117) (.tmp 118) rfl B2 (.slice O t3 capO) t3 (by8 (bs.take t3)) rfl HE.out.2.2.2.1 C L capC (by8 out) rfl (by rw [by8_length]; exact HLO.out) HE.out.2.2.2.2.2 by8_one hfit hsze ?_; intro v5 w5 hown5 hgr5 hob5; rw [← by8_append, HJO.out] at hown5; have HB5 := Lib.hid ((Below.refl B2 _).grown hgr5 hsze (fun g hg => own_blocks HE.out.2.2.2.1 g hg)); have HF := Lib.hid (And.intro (HE.out.1.trans (HB5.out.mono (by omega))) (And.intro (HE.out.2.1.below_ HB5.out (by omega) HR1.out) (And.intro (HE.out.2.2.1.below_ HB5.out HGL.out) (And.intro hown5 (HE.out.2.2.2.2.1.below_ HB5.out hp2lt HR2.out))))); have hsz5 : B2 ≤ w5.heap.size := Nat.le_trans hsze hgr5.size; clear hown5 hgr5 hob5 HB5 HE hsze) | (at_builtin; have hk6 : Below w5.heap.size w5 (w5.alloc (.cells #[.int .u8 x] 5)) := (Below.refl _ _).alloc (Nat.le_refl _) _; have hsz6 : B2 ≤ (w5.alloc (.cells #[.int .u8 x] 5)).heap.size := Nat.le_trans hsz5 hk6.size; have hown6 := own_keep HF.out.2.2.2.1 hk6; refine wpList_append_row _ rfl (.tmp 121) (.tmp 123) rfl B2 v5 (t3 + L) (by8 (bs.take (t3 + L))) rfl hown6 (some ⟨w5.heap.size, 0, none⟩) 1 1 (by8 [x]) rfl rfl (lies_one w5 x rfl) by8_one hfit2 hsz6 ?_; intro v7 w7 hown7 hgr7 hob7; rw [← by8_append, HJ2.out] at hown7; have HB7 := Lib.hid ((Below.refl B2 _).grown hgr7 hsz6 (fun g hg => own_blocks hown6 g hg)); have HG := Lib.hid (show OtherInv w B2 p p2 R R2 G2 bs (t3 + L + 1) v7 w7 from ⟨(below_then HF.out.1 hk6).trans (HB7.out.mono (by omega)), (HF.out.2.1.keep hk6).below_ HB7.out (by omega) HR1.out, (HF.out.2.2.1.keep hk6).below_ HB7.out HGL.out, (HF.out.2.2.2.2.keep hk6).below_ HB7.out hp2lt HR2.out, hown7, Nat.le_trans hsz6 hgr7.size⟩); clear hown7 hgr7 hob7 HB7 HF hsz6 hown6 hk6 hsz5))
                    exact ⟨⟨j3 + 1, t3 + L + 1, by omega, by omega, by go_num, by rw [HCN.out]; go_num, HG.out⟩, by simp [intOf]; omega⟩
                  · obtain rfl : t2 = t4 := h41.symm
                    have hz : ((t2 : Int) - (t2 : Int) != 0) = false := by simp
                    have HCN := Lib.hid hcnt
                    clear HWY hcnt
                    go_wp2_with (at_builtin; refine wpList_append_row _ rfl (.tmp 117) (.tmp 118) rfl B2 (.slice O t3 capO) t3 (by8 (bs.take t3)) rfl HE.out.2.2.2.1 C L capC (by8 out) rfl (by rw [by8_length]; exact HLO.out) HE.out.2.2.2.2.2 by8_one hfit hsze ?_; intro v5 w5 hown5 hgr5 hob5; rw [← by8_append, HJO.out] at hown5; have HB5 := Lib.hid ((Below.refl B2 _).grown hgr5 hsze (fun g hg => own_blocks HE.out.2.2.2.1 g hg)); have HF := Lib.hid (And.intro (HE.out.1.trans (HB5.out.mono (by omega))) (And.intro (HE.out.2.1.below_ HB5.out (by omega) HR1.out) (And.intro (HE.out.2.2.1.below_ HB5.out HGL.out) (And.intro hown5 (HE.out.2.2.2.2.1.below_ HB5.out hp2lt HR2.out))))); have hsz5 : B2 ≤ w5.heap.size := Nat.le_trans hsze hgr5.size; clear hown5 hgr5 hob5 HB5 HE hsze)
                    refine HF.out.2.2.2.2.left.mono ?_
                    rintro e w6 ⟨rfl, hs6⟩
                    simp only []
                    rw [show bs.length = t2 from HL.out]
                    have HG := Lib.hid (show OtherInv w B2 p p2 R R2 G2 bs (t3 + L) v5 w6 from ⟨HF.out.1.trans hs6.below, HF.out.2.1.same hs6, HF.out.2.2.1.same hs6, by rw [h43]; exact HF.out.2.2.2.2.same hs6, own_keep HF.out.2.2.2.1 hs6.below, by rw [hs6.heap]; exact hsz5⟩)
                    clear HF hs6 hsz5
                    go_wp2_with fail
                    exact ⟨⟨j3 + 1, t3 + L, by omega, by omega, by go_num, by rw [HCN.out], HG.out⟩, by simp [intOf]; omega⟩
            · obtain rfl : t3 = t2 := by omega
              have e1 : ¬ (0 : Int) < (t3 : Int) - (t3 : Int) := by omega
              go_wp2_with fail
              refine HI3.out.cur2.left.mono ?_
              rintro e wc ⟨rfl, hsc⟩
              simp only []
              rw [show bs.length = t3 from HL.out]
              have HC := Lib.hid (show OtherInv w B2 p p2 R R2 G2 bs t3 (.slice O t3 capO) wc from ⟨HI3.out.below.trans hsc.below, HI3.out.cur.same hsc, HI3.out.all.same hsc, HI3.out.cur2.same hsc, own_keep HI3.out.own hsc.below, by rw [hsc.heap]; exact HI3.out.size⟩)
              clear hsc HI3
              go_wp2_with fail
              go_loopw [16, 21] (fun en i wr => ∃ k c : Nat, k ≤ t3 ∧ i = .int .i64 k ∧ en = .int .i64 ((cnt x (bs.take t3) : Nat) - (c : Int)) ∧ c = cnt x (bs.take k) ∧ Same wc wr) (fun _ i _ => t3 - (intOf i).toNat)
              case atStart => exact ⟨0, 0, Nat.zero_le _, rfl, by simp, by simp [cnt], .refl _⟩
              case round =>
                obtain ⟨k, c, hk, rfl, rfl, hc, hs⟩ := hrel
                by_cases hlt : k < t3
                · have hkb : k < bs.length := by rw [HL.out]; exact hlt
                  obtain ⟨b1, o1, e1, c1⟩ := (HV.out.keep (HC.out.below.trans hs.below)).at_ (i := k) (by rw [by8_length]; exact hkb)
                  subst e1
                  have hstep := cnt_step x bs k hkb
                  obtain ⟨y, hyk⟩ : ∃ y, bs[k] = y := ⟨_, rfl⟩
                  have c1' : wr.cell? ⟨b1, o1 + k, none⟩ = some (.int .u8 y) := by rw [c1]; simp [by8, hyk]
                  rw [hyk, ← hc] at hstep
                  have hc300 : c ≤ 300 := by
                    have h1 := cnt_le x (bs.take k)
                    have h2 : (bs.take k).length ≤ k := List.length_take_le _ _
                    omega
                  have HS := Lib.hid hs
                  have HSP := Lib.hid hstep
                  have HHC := Lib.hid hc
                  clear hs c1 hyk hstep hc
                  generalize cnt x (bs.take t3) = ct at hcl ⊢
                  have hlt' : (k : Int) < (t3 : Int) := by omega
                  have hge' : (0 : Int) ≤ (k : Int) := by omega
                  by_cases hyx : y = x
                  · have hyx' : (y == x) = true := by simp [hyx]
                    have hcc : cnt x (bs.take (k + 1)) = c + 1 := by rw [HSP.out, if_pos hyx]
                    have HCC := Lib.hid hcc
                    clear hyx hcc
                    go_wp2_with fail
                    exact ⟨⟨k + 1, c + 1, by omega, by go_num, by go_num, HCC.out.symm, HS.out⟩, by simp [intOf]; omega⟩
                  · have hyx' : (y == x) = false := by simp [hyx]
                    have hcc : cnt x (bs.take (k + 1)) = c := by rw [HSP.out, if_neg hyx]; rfl
                    have HCC := Lib.hid hcc
                    clear hyx hcc
                    go_wp2_with fail
                    exact ⟨⟨k + 1, c, by omega, by go_num, rfl, HCC.out.symm, HS.out⟩, by simp [intOf]; omega⟩
                · obtain rfl : k = t3 := by omega
                  subst hc
                  generalize cnt x (bs.take k) = ct at hcl ⊢
                  have hz : (((ct : Int) - (ct : Int)) == 0) = true := by simp
                  obtain ⟨wo3, hwo3⟩ : ∃ wo3, wo3 = wr := ⟨_, rfl⟩
                  subst hwo3
                  have HD := Lib.hid (show OtherInv w B2 p p2 R R2 G2 bs k (.slice O k capO) wo3 from ⟨HC.out.below.trans hs.below, HC.out.cur.same hs, HC.out.all.same hs, HC.out.cur2.same hs, own_keep HC.out.own hs.below, by rw [hs.heap]; exact HC.out.size⟩)
                  clear hs HC
                  go_wp2_with fail
                  refine (new_calls wo3 A k cap bs HL.out (HV.out.keep HD.out.below) HS.out (by omega) HN.out).mono ?_
                  rintro e w5 ⟨p3, R3, hp3, hR3, rfl, hc5, hb5⟩
                  have htk : St.take (St.start bs) (k : Int) = (bs, ⟨bs, k, 0, 0⟩) := by
                    have h1 : ¬ (k : Int) < 0 := by omega
                    have h2 : ¬ (bs.length : Int) - ((0 : Nat) : Int) < (k : Int) := by rw [HL.out]; omega
                    have h3 : bs.take k = bs := List.take_of_length_le (by rw [HL.out]; exact Nat.le_refl _)
                    simp only [St.start, St.take, St.next, ne_eq, not_true_eq_false, if_false, h1, h2, Int.toNat_natCast, List.drop_zero, h3, Nat.zero_add]
                  have HTK := Lib.hid htk
                  clear htk
                  go_wp2_with fail
                  refine (take_calls hc5 k).mono ?_
                  rw [HTK.out]
                  rintro e w6 ⟨C, capC, rfl, hownC, _, hb6⟩
                  simp only [] at hownC
                  rw [HL.out] at hownC ⊢
                  have hb56 : Below wo3.heap.size wo3 w6 := hb5.trans (hb6.below hp3 hb5.size)
                  have hO := Lies.of_own HD.out.own
                  rw [List.take_of_length_le (by rw [HL.out]; exact Nat.le_refl _)] at hO
                  have H6 := Lib.hid (And.intro (below_then HD.out.below hb56) (And.intro (HD.out.cur.keep hb56) (And.intro (HD.out.cur2.keep hb56) (And.intro (HD.out.all.keep hb56) (And.intro (hO.keep hb56) (Lies.of_own hownC))))))
                  clear hb56 hO HD hc5 hb5 hb6 hownC HTK hR3
                  go_wp2_with fail
                  refine (same_calls w6 G2 A k k capG2 cap bs bs HL.out HL.out H6.out.2.2.2.1 (HV.out.keep H6.out.1) (by unfold maxLen; omega) (by unfold maxLen; omega)).mono ?_
                  rintro e w7 ⟨rfl, hs7⟩
                  rw [show decide (bs = bs) = true by simp]
                  have H7 := Lib.hid (And.intro (H6.out.1.trans hs7.below) (And.intro (H6.out.2.1.same hs7) (And.intro (H6.out.2.2.1.same hs7) (And.intro (H6.out.2.2.2.2.1.same hs7) (H6.out.2.2.2.2.2.same hs7)))))
                  clear H6 hs7
                  go_wp2_with fail
                  refine (same_calls w7 O A k k capO cap bs bs HL.out HL.out H7.out.2.2.2.1 (HV.out.keep H7.out.1) (by unfold maxLen; omega) (by unfold maxLen; omega)).mono ?_
                  rintro e w8 ⟨rfl, hs8⟩
                  rw [show decide (bs = bs) = true by simp]
                  have H8 := Lib.hid (And.intro (H7.out.1.trans hs8.below) (And.intro (H7.out.2.1.same hs8) (And.intro (H7.out.2.2.1.same hs8) (H7.out.2.2.2.2.same hs8))))
                  clear H7 hs8
                  go_wp2_with fail
                  refine (same_calls w8 C A k k capC cap bs bs HL.out HL.out H8.out.2.2.2 (HV.out.keep H8.out.1) (by unfold maxLen; omega) (by unfold maxLen; omega)).mono ?_
                  rintro e w9 ⟨rfl, hs9⟩
                  rw [show decide (bs = bs) = true by simp]
                  have H9 := Lib.hid (And.intro (H8.out.1.trans hs9.below) (And.intro (H8.out.2.1.same hs9) (H8.out.2.2.1.same hs9)))
                  clear H8 hs9
                  go_wp2_with fail
                  refine H9.out.2.1.fault2.mono ?_
                  rintro e w10 ⟨rfl, hb10⟩
                  have H10 := Lib.hid (And.intro (below_then H9.out.1 hb10) (H9.out.2.2.keep hb10))
                  clear H9 hb10
                  go_wp2_with fail
                  refine H10.out.2.fault2.mono ?_
                  rintro e w11 ⟨rfl, hb11⟩
                  have H11 := Lib.hid (below_then H10.out.1 hb11)
                  clear H10 hb11
                  go_wp2_with fail
                  refine (awake_calls _).mono ?_
                  rintro e w12 ⟨rfl, hb12⟩
                  have H12 := Lib.hid (below_then H11.out hb12)
                  clear H11 hb12
                  go_wp2
                  go_ret
                  exact ⟨rfl, H12.out⟩
end Go.Proofs.Ytiipkmfkelbpiaa
