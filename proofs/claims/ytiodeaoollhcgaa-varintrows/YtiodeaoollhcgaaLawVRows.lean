/-
  The walk through VarintRows: whatever numbers it is handed, it returns true, and changes nothing that was there. The statement itself is proved in the last text.
-/
import Derived.Test.YtiodeaoollhcgaaVAwake
import Derived.Test.YtiodeaoollhcgaaRowsMath
import Derived.Test.YtiodeaoollhcgaaSlices
import Derived.Deep.RegionHeld3
import Derived.OpenShut
namespace Go.Proofs.Ytiodeaoollhcgaa
open Go.RowKit

/-- Numbers as values. -/
def by64 (ns : List Nat) : List Value := ns.map fun (n : Nat) => Value.int .u64 (n : Int)

theorem by64_length (ns : List Nat) : (by64 ns).length = ns.length := by simp [by64]
theorem by64_get {ns : List Nat} {k : Nat} (h : k < ns.length) : (by64 ns)[k]? = some (.int .u64 (ns.getD k 0 : Nat)) := by
  unfold by64
  rw [List.getElem?_map, List.getD_eq_getElem?_getD, List.getElem?_eq_getElem h]
  rfl
theorem Lies.cell_at {w : World} {b off : Nat} {vs : List Value} {i : Nat} {u : Value} (h : Lies w (some ⟨b, off, none⟩) vs) (hu : vs[i]? = some u) : w.cell? ⟨b, off + i, none⟩ = some u := by
  obtain ⟨b', off', e, hc⟩ := h i u hu
  injection e with e
  injection e with e1 e2
  subst e1 e2
  exact hc

/-- What holds while the bytes are written. -/
structure RowsPut (w : World) (ns : List Nat) (k : Nat) (v : Value) (wr : World) : Prop where
  kept : Below w.heap.size w wr
  row : wr.ownsRow w.heap.size 5 1 v (cum ns k) (by8 (rowBytes (ns.take k)))

/-- What holds while they are read. -/
structure RowsAt (w : World) (B R : Option Addr) (p : Nat) (bs : List Int) (s : St) (wr : World) : Prop where
  kept : Below w.heap.size w wr
  row : Lies wr B (by8 bs)
  cur : CurOk R wr p s none
  far : w.heap.size ≤ p

section
variable {w wr w' w5 : World} {B R : Option Addr} {p k : Nat} {bs : List Int} {s s' : St} {ns : List Nat} {v v5 : Value}
theorem RowsAt.keep (h : RowsAt w B R p bs s wr) (hb : Below wr.heap.size wr w') : RowsAt w B R p bs s w' := ⟨below_then h.kept hb, h.row.keep hb, h.cur.keep hb, h.far⟩
theorem RowsAt.drew (h : RowsAt w B R p bs s wr) : RowsAt w B R p bs s wr.drew := h.keep ⟨rfl, rfl, rfl, Nat.le_refl _, fun _ _ => rfl⟩
theorem RowsAt.read (h : RowsAt w B R p bs s wr) (z : Nat) (hn : s.num = (z, s')) :
    Calls Try.prog 17 #[.pointer (some ⟨p, 0, none⟩)] wr fun e w' => e = .returned (.int .u64 z) ∧ RowsAt w B R p bs s' w' := by
  refine (read_calls h.cur).mono ?_
  rintro e w' ⟨rfl, hc, hb⟩
  rw [hn] at hc ⊢
  obtain ⟨A, cap, g1, _⟩ := h.cur.is_
  exact ⟨rfl, h.kept.trans (hb.below h.far h.kept.size), h.row.but hb g1 by8_not, hc, h.far⟩
theorem RowsAt.fault (h : RowsAt w B R p bs s wr) :
    Calls Try.prog 22 #[.pointer (some ⟨p, 0, none⟩)] wr fun e w' => e = .returned (.agg #[.int .i64 s.c, .int .i64 s.a]) ∧ RowsAt w B R p bs s w' :=
  h.cur.fault'.mono fun _ _ ⟨he, hb⟩ => ⟨he, h.keep hb⟩
theorem RowsAt.left (h : RowsAt w B R p bs s wr) :
    Calls Try.prog 26 #[.pointer (some ⟨p, 0, none⟩)] wr fun e w' => e = .returned (.int .i64 ((s.bs.length : Int) - s.t)) ∧ RowsAt w B R p bs s w' :=
  h.cur.left.mono fun _ _ ⟨he, hs⟩ => ⟨he, h.keep hs.below⟩
/-- An append of a number's bytes. -/
theorem RowsPut.more (h : RowsPut w ns k v wr) (hk : k < ns.length) {w2 : World} (hb : Below wr.heap.size wr w2)
    (hown : w5.ownsRow w.heap.size 5 1 v5 (cum ns k + (digs (ns.getD k 0)).length) (by8 (rowBytes (ns.take k)) ++ by8 (digs (ns.getD k 0)))) (hg : w2.grownBy w5 v.ownBlock) : RowsPut w ns (k + 1) v5 w5 := by
  have h2 := below_then h.kept hb
  refine ⟨h2.grown hg h2.size (own_blocks h.row), ?_⟩
  rw [← by8_append, ← rowBytes_step hk, ← cum_succ hk] at hown
  exact hown
end

set_option maxRecDepth 100000 in
set_option maxHeartbeats 8000000 in
theorem rows_walk (L : Option Addr) (m capL : Nat) (ns : List Nat) (away : Int) (w : World) (hm : ns.length = m) (hL : Lies w L (by64 ns)) (hu : ∀ n ∈ ns, n < 18446744073709551616) :
    Calls Try.prog 9 #[.slice L m capL, .int .i64 away] w fun e w' => e = .returned (.bool true) ∧ Below w.heap.size w w' := by
  have HM := Lib.hid hm
  have HL := Lib.hid hL
  have HU := Lib.hid hu
  clear hm hL hu
  by_cases h60 : 60 < m
  · have h3 : (60 : Int) < (m : Int) := by omega
    go_enter Try.func9, Try.ntmps9
    go_wp2_with fail
    refine (awake_calls _).mono ?_
    rintro e w9 ⟨rfl, hb9⟩
    go_wp2
    go_ret
    exact ⟨rfl, hb9⟩
  have h3 : ¬ (60 : Int) < (m : Int) := by omega
  have HI0 := Lib.hid (show RowsPut w ns 0 (.slice (some ⟨w.heap.size, 0, none⟩) 0 0) (w.alloc (.cells #[] 5)) from ⟨(Below.refl _ _).alloc (Nat.le_refl _) _, by rw [cum_zero]; exact own_empty w⟩)
  go_enter Try.func9, Try.ntmps9
  go_wp2_with fail
  go_loopw [5, 6] (fun v5 v6 wr => ∃ k : Nat, k ≤ m ∧ v6 = .int .i64 k ∧ RowsPut w ns k v5 wr) (fun _ v6 _ => m - (intOf v6).toNat)
  case atStart => exact ⟨0, Nat.zero_le _, rfl, HI0.out⟩
  case round =>
    obtain ⟨k, hk, rfl, hI⟩ := hrel
    clear HI0
    have HI := Lib.hid hI
    clear hI
    by_cases hlt : k < m
    · have hkn : k < ns.length := by have := HM.out; omega
      obtain ⟨lb, lo, hL, hcell⟩ := (HL.out.keep HI.out.kept).at_ (i := k) (by rw [by64_length]; exact hkn)
      obtain ⟨z, hz⟩ : ∃ z, ns.getD k 0 = z := ⟨_, rfl⟩
      have hcell' : wr.cell? ⟨lb, lo + k, none⟩ = some (.int .u64 (z : Int)) := by
        subst hL
        rw [← hz]
        exact (HL.out.keep HI.out.kept).cell_at (by64_get hkn)
      have HZ := Lib.hid hz
      have HUZ := Lib.hid (show U64 z from by rw [← hz]; exact HU.out _ (getD_in hkn))
      have hten := digs_ten HUZ.out
      have hck := cum_ten ns HU.out k (by have := HM.out; omega)
      have HLL := Lib.hid hL
      subst hL
      clear hcell hz
      have hlt' : (k : Int) < (m : Int) := by omega
      have hge' : (0 : Int) ≤ (k : Int) := by omega
      go_wp2_with fail
      refine (put_calls z wr HUZ.out).mono ?_
      rintro e w2 ⟨P, capP, rfl, hown, hb2⟩
      rw [by8_length] at hown ⊢
      have HP := Lib.hid (Lies.of_own hown)
      have HB2 := Lib.hid hb2
      have HO2 := Lib.hid (own_keep HI.out.row hb2)
      have hsz : w.heap.size ≤ w2.heap.size := Nat.le_trans HI.out.kept.size hb2.size
      clear hown hb2 hcell'
      generalize hkd : (digs z).length = kd at hten
      have HKD := Lib.hid hkd
      clear hkd
      go_wp2_with (at_builtin; refine wpList_append_row _ rfl (.tmp 22) (.tmp 27) rfl w.heap.size u5 (cum ns k) (by8 (rowBytes (ns.take k))) rfl HO2.out P kd capP (by8 (digs z)) rfl (by rw [by8_length]; exact HKD.out) HP.out by8_one (by omega) hsz ?_; intro v5 w5 hown5 hgr5 hob5; have HF := Lib.hid (RowsPut.more HI.out hkn HB2.out (by rw [HZ.out, HKD.out]; exact hown5) hgr5); clear hown5 hgr5 hob5 HO2 HP HB2 hsz)
      exact ⟨⟨k + 1, by omega, by go_num, HF.out⟩, by simp [intOf]; omega⟩
    · obtain rfl : m = k := by omega
      have hlt' : ¬ (m : Int) < (m : Int) := by omega
      obtain ⟨wo, hwo⟩ : ∃ wo, wo = wr := ⟨_, rfl⟩
      subst hwo
      obtain ⟨B, capB, hv, hcB1, hcB2, hnil, _⟩ := own_slice HI.out.row
      subst hv
      have hrow := HI.out.row
      rw [cum_all HM.out, List.take_of_length_le (by rw [HM.out]; exact Nat.le_refl _)] at hrow
      have hck := cum_ten ns HU.out m (by have := HM.out; omega)
      rw [cum_all HM.out] at hck hcB1 ⊢
      obtain ⟨nb, hnb⟩ : ∃ nb, (rowBytes ns).length = nb := ⟨_, rfl⟩
      rw [hnb] at hrow hck hcB1 ⊢
      have HNB := Lib.hid hnb
      have HR := Lib.hid (And.intro HI.out.kept (Lies.of_own hrow))
      have HNIL := Lib.hid hnil
      unfold maxLen at hcB2
      clear hrow hnb hnil HI
      go_wp2_with fail
      refine (new_calls wo B nb capB (rowBytes ns) HNB.out HR.out.2 (rowBytes_bytes ns) (by omega) HNIL.out).mono ?_
      rintro e w2 ⟨p, R, hp, _, rfl, hc2, hb2⟩
      have HI2 := Lib.hid (show RowsAt w B R p (rowBytes ns) ⟨rowBytes ns, cum ns 0, 0, 0⟩ w2 from ⟨below_then HR.out.1 hb2, HR.out.2.keep hb2, by rw [cum_zero]; exact hc2, Nat.le_trans HR.out.1.size hp⟩)
      clear hc2 hb2 hp HR
      go_wp2_with fail
      go_loopw [8] (fun v8 wr => ∃ k : Nat, k ≤ m ∧ v8 = .int .i64 k ∧ RowsAt w B R p (rowBytes ns) ⟨rowBytes ns, cum ns k, 0, 0⟩ wr) (fun v8 _ => m - (intOf v8).toNat)
      case atStart => exact ⟨0, Nat.zero_le _, rfl, HI2.out⟩
      case round =>
        obtain ⟨k, hk, rfl, hI⟩ := hrel
        clear HI2
        have HI := Lib.hid hI
        clear hI
        by_cases hlt : k < m
        · have hkn : k < ns.length := by have := HM.out; omega
          obtain ⟨lb, lo, hL, hcell⟩ := (HL.out.keep HI.out.kept).at_ (i := k) (by rw [by64_length]; exact hkn)
          obtain ⟨z, hz⟩ : ∃ z, ns.getD k 0 = z := ⟨_, rfl⟩
          subst hL
          have HG := Lib.hid (show (by64 ns)[k]? = some (.int .u64 (z : Int)) by rw [← hz]; exact by64_get hkn)
          have HNUM := Lib.hid (show (⟨rowBytes ns, cum ns k, 0, 0⟩ : St).num = (z, ⟨rowBytes ns, cum ns (k + 1), 0, 0⟩) by rw [num_row hkn HU.out, hz])
          have HD := Lib.hid HI.out.drew
          have hx0 : wr.drew.cell? ⟨lb, lo + k, none⟩ = some (.int .u64 (z : Int)) := (HL.out.keep HD.out.kept).cell_at HG.out
          clear hcell hz
          have hlt' : (k : Int) < (m : Int) := by omega
          have hge' : (0 : Int) ≤ (k : Int) := by omega
          have hzz : ((z : Int) != (z : Int)) = false := by simp
          go_wp2_with fail
          go_region_held3 (fun w' => w'.cell? ⟨lb, lo + k, none⟩ = some (.int .u64 (z : Int)))
            (first | exact hx0 | assumption)
            ((go_at_call 17; refine (RowsAt.read HD.out z HNUM.out).mono ?_; rintro e w' ⟨rfl, h'⟩; have hx1 : w'.cell? ⟨lb, lo + k, none⟩ = some (.int .u64 (z : Int)) := (HL.out.keep h'.kept).cell_at HG.out))
          have HF := Lib.hid h'
          clear h' hx1 hx0 HD
          go_wp2_with fail
          exact ⟨⟨k + 1, by omega, by go_num, HF.out⟩, by simp [intOf]; omega⟩
        · obtain rfl : m = k := by omega
          have hlt' : ¬ (m : Int) < (m : Int) := by omega
          obtain ⟨wq, hwq⟩ : ∃ wq, wq = wr := ⟨_, rfl⟩
          subst hwq
          have HI3 := Lib.hid (show RowsAt w B R p (rowBytes ns) ⟨rowBytes ns, nb, 0, 0⟩ wq from by rw [← HNB.out, ← cum_all HM.out]; exact HI.out)
          clear HI
          go_wp2_with fail
          refine HI3.out.left.mono ?_
          rintro e w3 ⟨rfl, h3'⟩
          have e0 : (((rowBytes ns).length : Int) - (nb : Int)) = 0 := by rw [HNB.out]; omega
          simp only []
          rw [e0]
          clear e0
          go_wp2_with fail
          refine h3'.fault.mono ?_
          rintro e w4 ⟨rfl, h4⟩
          have HI4 := Lib.hid h4
          simp only []
          clear h4 h3' HI3
          by_cases hearly : m = 0 ∨ away < 1
          · have hform : ((m : Int) == 0) = true ∨ (((m : Int) == 0) = false ∧ away < 1) := by simp; omega
            clear hearly
            rcases hform with t1 | ⟨t1, t2⟩
            all_goals go_wp2_with fail
            all_goals refine (awake_calls _).mono ?_
            all_goals rintro e w9 ⟨rfl, hb9⟩
            all_goals have HW9 := Lib.hid (below_then HI4.out.kept hb9)
            all_goals clear hb9
            all_goals go_wp2_with fail
            all_goals go_ret
            all_goals exact ⟨rfl, HW9.out⟩
          · obtain ⟨m', rfl⟩ : ∃ m', m = m' + 1 := ⟨m - 1, by omega⟩
            obtain ⟨a, rfl⟩ : ∃ a : Nat, away = (a : Int) := ⟨away.toNat, by omega⟩
            have hkn : m' < ns.length := by have := HM.out; omega
            obtain ⟨lb, lo, hL, hcell⟩ := (HL.out.keep HI4.out.kept).at_ (i := m') (by rw [by64_length]; exact hkn)
            obtain ⟨z, hz⟩ : ∃ z, ns.getD m' 0 = z := ⟨_, rfl⟩
            subst hL
            have hx4 : w4.cell? ⟨lb, lo + m', none⟩ = some (.int .u64 (z : Int)) := by
              rw [← hz]
              exact (HL.out.keep HI4.out.kept).cell_at (by64_get hkn)
            have HZ := Lib.hid hz
            have HUZ := Lib.hid (show U64 z by rw [← hz]; exact HU.out _ (getD_in hkn))
            have t1 : (((m' : Int) + 1) == 0) = false := by simp; omega
            have t1' : ((((m' + 1 : Nat) : Int)) == 0) = false := by simp; omega
            have t2 : ¬ (a : Int) < 1 := by omega
            have hcl := cum_succ hkn
            rw [cum_all HM.out, HNB.out, hz] at hcl
            obtain ⟨kl, hkl⟩ : ∃ kl, (digs z).length = kl := ⟨_, rfl⟩
            rw [hkl] at hcl
            have HKL := Lib.hid hkl
            have HCL := Lib.hid hcl
            clear hcell hz hkl hcl
            go_wp2_with fail
            refine (len_calls z w4 HUZ.out).mono ?_
            rintro e w5 ⟨rfl, rfl⟩
            rw [HKL.out]
            clear hx4
            by_cases hgt : kl < a
            · have hgt' : (kl : Int) < (a : Int) := by omega
              go_wp2_with fail
              refine (awake_calls _).mono ?_
              rintro e w9 ⟨rfl, hb9⟩
              have HW9 := Lib.hid (below_then HI4.out.kept hb9)
              clear hb9
              go_wp2_with fail
              go_ret
              exact ⟨rfl, HW9.out⟩
            have hgt' : ¬ (kl : Int) < (a : Int) := by omega
            have hanb : ¬ (nb : Int) < (a : Int) := by have := HCL.out; omega
            have ha1 : 1 ≤ a := by omega
            obtain ⟨N, hN⟩ : ∃ N, nb - a = N := ⟨_, rfl⟩
            have hNc : N ≤ capB := by omega
            have hNb : N ≤ nb := by omega
            have HN := Lib.hid (show cum ns m' ≤ N ∧ nb - a = N ∧ N < nb by have := HCL.out; omega)
            have HLN := Lib.hid (show ((rowBytes ns).take N).length = N by rw [List.length_take, HNB.out]; omega)
            have HEND := Lib.hid (show (⟨(rowBytes ns).take N, cum ns m', 0, 0⟩ : St).num = (0, ⟨(rowBytes ns).take N, N, 13, (N : Int)⟩) by
              have := num_end HM.out HU.out ha1 (by rw [HZ.out, HKL.out]; omega)
              rw [HNB.out, hN] at this
              exact this)
            have hsub : (nb : Int) - (a : Int) = (N : Int) := by omega
            have hsl := fun W => run_slice_to W B nb capB N hNc
            clear hN
            go_wp2_with fail
            refine (new_calls w4 B N capB ((rowBytes ns).take N) HLN.out (HI4.out.row.front N) (fun z hz => rowBytes_bytes ns z (List.mem_of_mem_take hz)) (by omega) HNIL.out).mono ?_
            rintro e w6 ⟨q, R2, hq, _, rfl, hc6, hb6⟩
            have HI6 := Lib.hid (show RowsAt w B R2 q (rowBytes ns) ⟨(rowBytes ns).take N, cum ns 0, 0, 0⟩ w6 from ⟨below_then HI4.out.kept hb6, HI4.out.row.keep hb6, by rw [cum_zero]; exact hc6, Nat.le_trans HI4.out.kept.size hq⟩)
            clear hc6 hb6 hq hsl HI4
            go_wp2_with fail
            go_loopw [10] (fun v10 wr => ∃ k : Nat, k ≤ m' ∧ v10 = .int .i64 k ∧ RowsAt w B R2 q (rowBytes ns) ⟨(rowBytes ns).take N, cum ns k, 0, 0⟩ wr) (fun v10 _ => m' - (intOf v10).toNat)
            case atStart => exact ⟨0, Nat.zero_le _, rfl, HI6.out⟩
            case round =>
              obtain ⟨k, hk, rfl, hI⟩ := hrel
              clear HI6
              have HI := Lib.hid hI
              clear hI
              by_cases hlt : k < m'
              · have hkn3 : k < ns.length := by have := HM.out; omega
                obtain ⟨z3, hz3⟩ : ∃ z3, ns.getD k 0 = z3 := ⟨_, rfl⟩
                have HG := Lib.hid (show (by64 ns)[k]? = some (.int .u64 (z3 : Int)) by rw [← hz3]; exact by64_get hkn3)
                have hcum : cum ns (k + 1) ≤ N := by
                  have h1 := cum_le ns (m' - (k + 1)) (k + 1) (by omega)
                  rw [show k + 1 + (m' - (k + 1)) = m' by omega] at h1
                  have := HN.out
                  omega
                have HNUM := Lib.hid (show (⟨(rowBytes ns).take N, cum ns k, 0, 0⟩ : St).num = (z3, ⟨(rowBytes ns).take N, cum ns (k + 1), 0, 0⟩) by rw [num_cut hkn3 HU.out hcum, hz3])
                have HD := Lib.hid HI.out.drew
                have hx0 : wr.drew.cell? ⟨lb, lo + k, none⟩ = some (.int .u64 (z3 : Int)) := (HL.out.keep HD.out.kept).cell_at HG.out
                clear hz3 hcum
                have hlt' : (k : Int) < (m' : Int) := by omega
                have hge' : (0 : Int) ≤ (k : Int) := by omega
                have hlt'' : (k : Int) < (m' : Int) + 1 := by omega
                have hzz : ((z3 : Int) != (z3 : Int)) = false := by simp
                go_wp2_with fail
                go_region_held3 (fun w' => w'.cell? ⟨lb, lo + k, none⟩ = some (.int .u64 (z3 : Int)))
                  (first | exact hx0 | assumption)
                  ((go_at_call 17; refine (RowsAt.read HD.out z3 HNUM.out).mono ?_; rintro e w' ⟨rfl, h'⟩; have hx1 : w'.cell? ⟨lb, lo + k, none⟩ = some (.int .u64 (z3 : Int)) := (HL.out.keep h'.kept).cell_at HG.out))
                have HF := Lib.hid h'
                clear h' hx1 hx0 HD
                go_wp2_with fail
                exact ⟨⟨k + 1, by omega, by go_num, HF.out⟩, by simp [intOf]; omega⟩
              · obtain rfl : m' = k := by omega
                have hlt' : ¬ (m' : Int) < (m' : Int) := by omega
                have hNN : ((N : Int) == (N : Int)) = true := by simp
                go_wp2_with fail
                refine HI.out.fault.mono ?_
                rintro e w7 ⟨rfl, h7⟩
                simp only []
                have HI7 := Lib.hid h7
                clear h7 HI
                go_wp2_with fail
                refine (RowsAt.read HI7.out 0 HEND.out).mono ?_
                rintro e w8 ⟨rfl, h8⟩
                have HI8 := Lib.hid h8
                clear h8 HI7
                go_wp2_with fail
                refine HI8.out.fault.mono ?_
                rintro e w9 ⟨rfl, h9⟩
                simp only []
                have HI9 := Lib.hid h9
                clear h9 HI8
                go_wp2_with fail
                refine (awake_calls _).mono ?_
                rintro e wz ⟨rfl, hbz⟩
                have HWZ := Lib.hid (below_then HI9.out.kept hbz)
                clear hbz
                go_wp2_with fail
                go_ret
                exact ⟨rfl, HWZ.out⟩

theorem rows_walk_in (L : Option Addr) (m capL : Nat) (zs : List Int) (away : Int) (w : World) (hm : zs.length = m) (hL : Lies w L (zs.map (.int .u64))) (hu : ∀ z ∈ zs, (Lit.int .u64 z).wf = true) :
    Calls Try.prog 9 #[.slice L m capL, .int .i64 away] w fun e w' => e = .returned (.bool true) ∧ Below w.heap.size w w' := by
  refine rows_walk L m capL (zs.map Int.toNat) away w (by rw [List.length_map]; exact hm) ?_ ?_
  · have e : by64 (zs.map Int.toNat) = zs.map (.int .u64) := by
      unfold by64
      rw [List.map_map]
      refine List.map_congr_left fun z hz => ?_
      have := bounds_u64 (hu z hz)
      show Value.int .u64 ((z.toNat : Nat) : Int) = .int .u64 z
      rw [Int.toNat_of_nonneg this.1]
    rw [e]
    exact hL
  · intro n hn
    obtain ⟨z, hz, rfl⟩ := List.mem_map.1 hn
    have := bounds_u64 (hu z hz)
    omega
end Go.Proofs.Ytiodeaoollhcgaa
