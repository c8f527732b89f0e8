/-
  The walk through VarintBack: whatever number and bytes it is handed, it returns true, and changes nothing that was there. The statement itself is proved in the last text.
-/
import Derived.Test.YtiodeaoollhcgaaVAwake
import Derived.Deep.RegionHeld3
import Derived.OpenShut
namespace Go.Proofs.Ytiodeaoollhcgaa
open Go.RowKit

theorem cutA_zero (A : Option Addr) (cap : Nat) : cutA A cap 0 = A := by
  unfold cutA
  split
  · rfl
  · rcases A with _ | a
    · rfl
    · simp [Addr.add]

theorem run_slice_to (w : World) (A : Option Addr) (n cap m : Nat) (h : m ≤ cap) :
    (Instr.slice 23 (.slice A n cap) none (some (.int .i64 m)) none).run Try.prog w = .ok (.slice A m cap) w := by
  obtain ⟨i, hi, _⟩ := info_parts (P := Try.prog) (e := 5) (z := .int .u8 0) (size := 1) (bytes := 1) (by kernel_rfl)
  have e1 : ((m : Int)).toNat = m := by omega
  have hz := cutA_zero A cap
  unfold cutA at hz
  simp [Instr.slice, run_underlying Try.underlying23, Instr.sliceBounds, run_sliceBound, sizeOf, typeInfo, hi, (by omega : (m : Int) ≤ cap), e1, hz]

theorem Lies.front {w : World} {A : Option Addr} {bs : List Int} (h : Lies w A (by8 bs)) (j : Nat) : Lies w A (by8 (bs.take j)) := by
  intro i u hu
  have hu' : (by8 bs)[i]? = some u := by
    unfold by8 at hu ⊢
    rw [List.map_take, List.getElem?_take] at hu
    split at hu
    · exact hu
    · cases hu
  exact h i u hu'

/-- What stays while what was read is put again. -/
structure BackSo (w2 : World) (A : Option Addr) (bs : List Int) (w' : World) : Prop where
  kept : Below w2.heap.size w2 w'
  lies : Lies w' A (by8 bs)

section
variable {w2 w' w'' : World} {A : Option Addr} {bs : List Int}
theorem BackSo.keep (h : BackSo w2 A bs w') (hb : Below w'.heap.size w' w'') : BackSo w2 A bs w'' := ⟨below_then h.kept hb, h.lies.keep hb⟩
theorem BackSo.drew (h : BackSo w2 A bs w') : BackSo w2 A bs w'.drew := h.keep ⟨rfl, rfl, rfl, Nat.le_refl _, fun _ _ => rfl⟩
theorem BackSo.put (h : BackSo w2 A bs w') (x j : Nat) (hx : U64 x) (hd : digs x = bs.take j) (hl : (bs.take j).length = j) :
    Calls Try.prog 12 #[.int .u64 x] w' fun e w'' => ∃ B capB, e = .returned (.slice B j capB) ∧ Lies w'' B (by8 (bs.take j)) ∧ BackSo w2 A bs w'' := by
  refine (put_calls x w' hx).mono ?_
  rintro e w'' ⟨B, capB, rfl, hown, hb⟩
  rw [hd, by8_length, hl] at hown
  exact ⟨B, capB, by rw [hd, by8_length, hl], Lies.of_own hown, h.keep hb⟩
theorem BackSo.same_ (h : BackSo w2 A bs w') (B : Option Addr) (j ca cb : Nat) (hB : Lies w' B (by8 (bs.take j))) (hl : (bs.take j).length = j) (hj : j ≤ maxLen) :
    Calls Try.prog 11 #[.slice B j ca, .slice A j cb] w' fun e w'' => e = .returned (.bool true) ∧ BackSo w2 A bs w'' :=
  (same_calls w' B A j j ca cb (bs.take j) (bs.take j) hl hl hB (h.lies.front j) hj hj).mono fun _ _ ⟨he, hs⟩ => ⟨by rw [he]; simp, h.keep hs.below⟩
theorem BackSo.awake (h : BackSo w2 A bs w') : Calls Try.prog 14 #[] w' fun e w'' => e = .returned (.bool true) ∧ BackSo w2 A bs w'' :=
  (awake_calls w').mono fun _ _ ⟨he, hb⟩ => ⟨he, h.keep hb⟩
end

set_option maxRecDepth 100000 in
set_option maxHeartbeats 4000000 in
theorem back_walk (m : Nat) (A : Option Addr) (n cap : Nat) (bs : List Int) (w : World) (hm : U64 m) (hl : bs.length = n) (hv : Lies w A (by8 bs)) (hs : ∀ z ∈ bs, 0 ≤ z ∧ z < 256) (hcap : n ≤ cap) :
    Calls Try.prog 7 #[.int .u64 m, .slice A n cap] w fun e w' => e = .returned (.bool true) ∧ Below w.heap.size w w' := by
  have HL := Lib.hid hl
  have HV := Lib.hid hv
  have HS := Lib.hid hs
  have HM := Lib.hid hm
  have hten := digs_ten hm
  have hpos := digs_pos m
  clear hl hv hs hm
  by_cases h300 : 300 < n
  · have h3 : (300 : Int) < (n : Int) := by omega
    go_enter Try.func7, Try.ntmps7
    go_wp2_with fail
    refine (awake_calls _).mono ?_
    rintro e w9 ⟨rfl, hb9⟩
    go_wp2
    go_ret
    exact ⟨rfl, hb9⟩
  have h3 : ¬ (300 : Int) < (n : Int) := by omega
  obtain ⟨k, hk⟩ : ∃ k, (digs m).length = k := ⟨_, rfl⟩
  rw [hk] at hten hpos
  have HK := Lib.hid hk
  clear hk
  go_enter Try.func7, Try.ntmps7
  go_wp2_with fail
  refine (put_calls m w HM.out).mono ?_
  rintro e w1 ⟨P, capP, rfl, hown, hb1⟩
  rw [by8_length, HK.out] at hown
  rw [by8_length, HK.out]
  have HP := Lib.hid (And.intro (Lies.of_own hown) hb1)
  clear hown hb1
  have b2 : Below w1.heap.size w1 (w1.alloc (.cells #[] 5)) := (Below.refl _ _).alloc (Nat.le_refl _) _
  have o2 := own_empty w1
  have HB2 := Lib.hid b2
  have HO2 := Lib.hid o2
  have HL2 := Lib.hid (And.intro (HP.out.1.keep b2) ((HV.out.keep HP.out.2).keep b2))
  have hz2 : w1.heap.size ≤ (w1.alloc (.cells #[] 5)).heap.size := b2.size
  clear b2 o2
  go_wp2_with (first
    | (at_builtin; refine wpList_append_row _ rfl (.tmp 19) (.tmp 20) rfl w1.heap.size (.slice (some ⟨w1.heap.size, 0, none⟩) 0 0) 0 [] rfl HO2.out P k capP (by8 (digs m)) rfl (by rw [by8_length]; exact HK.out) HL2.out.1 by8_one (by omega) hz2 ?_; intro v3 w3 hown3 hgr3 hob3; rw [Nat.zero_add, List.nil_append] at hown3; obtain ⟨P3, cap3, hv3, _⟩ := own_slice hown3; subst hv3; have HB3 := Lib.hid ((Below.refl w1.heap.size w1).trans (HB2.out.grown hgr3 hz2 (own_blocks HO2.out))); have HO3 := Lib.hid hown3; have hz3 := HB3.out.size; have HV3 := Lib.hid ((HV.out.keep HP.out.2).keep HB3.out); clear hown3 hgr3 hob3 HO2 HL2 HB2 hz2)
    | (at_builtin; refine wpList_append_row _ rfl (.tmp 21) (.tmp 22) rfl w1.heap.size (.slice P3 k cap3) k (by8 (digs m)) rfl HO3.out A n cap (by8 bs) rfl (by rw [by8_length]; exact HL.out) HV3.out by8_one (by omega) hz3 ?_; intro v4 w4 hown4 hgr4 hob4; obtain ⟨P4, cap4, hv4, _⟩ := own_slice hown4; subst hv4; have HB4 := Lib.hid (HB3.out.grown hgr4 hz3 (own_blocks HO3.out)); have HO4 := Lib.hid hown4; clear hown4 hgr4 hob4 HO3 HB3 HV3 hz3))
  have hgot : got (digs m ++ bs) = (m, k, 0) := by
    unfold got
    rw [get_digs HM.out, HK.out]
    rfl
  have HGO := Lib.hid hgot
  have hown := HO4.out
  rw [← by8_append] at hown
  refine (get_calls w4 P4 (k + n) cap4 (digs m ++ bs) (by rw [List.length_append, HK.out, HL.out]) (Lies.of_own hown) (fun z hz => (List.mem_append.1 hz).elim (digs_bytes m z) (HS.out z)) (by unfold maxLen; omega)).mono ?_
  rintro e w5 ⟨rfl, hb5⟩
  rw [HGO.out]
  have HW5 := Lib.hid (HP.out.2.trans ((below_then HB4.out hb5).mono HP.out.2.size))
  clear hb5 hown hgot HGO HO4 HB4 HP
  have t1 : ((m : Int) != (m : Int)) = false := by simp
  have t2 : ((k : Int) != (k : Int)) = false := by simp
  have t3 : ¬ (k : Int) < 1 := by omega
  have t4 : ¬ (10 : Int) < (k : Int) := by omega
  go_wp2_with fail
  refine (len_calls m w5 HM.out).mono ?_
  rintro e w6 ⟨rfl, rfl⟩
  rw [HK.out]
  go_wp2_with fail
  refine (get_calls w5 A n cap bs HL.out (HV.out.keep HW5.out) HS.out (by unfold maxLen; omega)).mono ?_
  rintro e w6 ⟨rfl, hb6⟩
  have HW6 := Lib.hid (below_then HW5.out hb6)
  clear hb6 HW5 t1 t2 t3 t4
  obtain ⟨x, j, c, hsc⟩ : ∃ x j c, scan 0 0 bs = (x, j, c) := ⟨_, _, _, rfl⟩
  have hgo : got bs = if c = 0 then (x, j, c) else (0, 0, c) := by
    unfold got
    rw [hsc]
  rw [hgo]
  clear hgo
  by_cases hc : c = 0
  · subst hc
    rw [if_pos rfl]
    obtain ⟨y, hy, hj0, hjl, hd, _, hy6⟩ := scan_back bs 0 0 x j HS.out (by omega) hsc
    rw [Nat.zero_add, Nat.pow_zero, Nat.one_mul] at hy
    rw [Nat.pow_zero, Nat.one_mul] at hy6
    subst hy
    rw [Nat.zero_add, HL.out] at hjl
    rw [Nat.sub_zero] at hd
    have HD := Lib.hid hd
    have HU := Lib.hid (show U64 x from hy6)
    have HK0 := Lib.hid (show BackSo w6 A bs w6 from ⟨Below.refl _ _, HV.out.keep HW6.out⟩)
    have HLJ := Lib.hid (show (bs.take j).length = j by rw [List.length_take, HL.out]; omega)
    have hsl := fun W => run_slice_to W A n cap j (by omega)
    have g1 : (1 : Int) ≤ (j : Int) := by omega
    have g2 : (j : Int) ≤ (n : Int) := by omega
    have HJM := Lib.hid (show j ≤ maxLen by unfold maxLen; omega)
    clear hsc hd hy6
    go_wp2_with fail
    go_region_held3 (fun w' => BackSo w6 A bs w')
      (first | exact HK0.out.drew | assumption)
      (first | (go_at_call 12; refine (BackSo.put (w2 := w6) (A := A) (bs := bs) ?_ x j HU.out HD.out HLJ.out).mono ?_; assumption; rintro e w' ⟨B, capB, rfl, hB, hb⟩) | (go_at_call 11; refine (BackSo.same_ (w2 := w6) (A := A) (bs := bs) ?_ _ j _ _ (by assumption) HLJ.out HJM.out).mono ?_; assumption; rintro e w' ⟨rfl, hb⟩) | (go_at_call 14; refine (BackSo.awake (w2 := w6) (A := A) (bs := bs) ?_).mono ?_; assumption; rintro e w' ⟨rfl, hb⟩))
    have HW9 := Lib.hid (HW6.out.trans (hb.kept.mono HW6.out.size))
    clear hb HK0
    go_wp2_with fail
    go_ret
    exact ⟨rfl, HW9.out⟩
  · rw [if_neg hc]
    have t1 : (c != 0) = true := by simp [hc]
    clear hc hsc
    go_wp2_with fail
    refine (awake_calls _).mono ?_
    rintro e w9 ⟨rfl, hb9⟩
    have HW9 := Lib.hid (below_then HW6.out hb9)
    clear hb9
    go_wp2_with fail
    go_ret
    exact ⟨rfl, HW9.out⟩

theorem back_walk_in (x : Int) (A : Option Addr) (n cap : Nat) (bs : List Int) (w : World) (hx : (Lit.int .u64 x).wf = true) (hl : bs.length = n) (hv : Lies w A (by8 bs)) (hs : ∀ z ∈ bs, 0 ≤ z ∧ z < 256) (hcap : n ≤ cap) :
    Calls Try.prog 7 #[.int .u64 x, .slice A n cap] w fun e w' => e = .returned (.bool true) ∧ Below w.heap.size w w' := by
  have b := bounds_u64 hx
  obtain ⟨m, rfl⟩ := Int.eq_ofNat_of_zero_le b.1
  exact back_walk m A n cap bs w (by unfold U64; omega) hl hv hs hcap
end Go.Proofs.Ytiodeaoollhcgaa
