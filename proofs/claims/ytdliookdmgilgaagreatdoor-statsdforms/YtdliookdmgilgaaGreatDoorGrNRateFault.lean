/-
  NRateFault, Tab. No statement of the seat is proved here.
-/
import Derived.Test.YtdliookdmgilgaaGreatDoorGrDMath2
import Derived.WalkMore
import Derived.Test.YtdliookdmgilgaaGreatDoorGrMem
import Derived.Test.YtdliookdmgilgaaGreatDoorChecked
import Derived.Lib.ItoaMem
/-
  Package num: how a rate's text is wrong. No statement of the seat is proved here.
-/
namespace Go.Proofs.YtdliookdmgilgaaGreatDoor
open Go.RowKit

/-- How a rate's text is wrong (that of 1 is not asked). -/
def rfault : List UInt8 → Int × Int
  | [] => (13, 0)
  | [a] => if a = 48 then (11, 1) else (11, 0)
  | a :: b :: d => if a ≠ 48 then (11, 0) else if b ≠ 46 then (11, 1) else if d = [] then (13, 2) else if 0 ≤ bad 4 d then (14, 2 + bad 4 d) else if 6 < d.length then (12, 8) else (0, 0)

theorem rf_eq1 (a : UInt8) : rfault [a] = if a = 48 then (11, 1) else (11, 0) := rfl
theorem rf_eq2 (a b : UInt8) (d : List UInt8) : rfault (a :: b :: d) = if a ≠ 48 then (11, 0) else if b ≠ 46 then (11, 1) else if d = [] then (13, 2) else if 0 ≤ bad 4 d then (14, 2 + bad 4 d) else if 6 < d.length then (12, 8) else (0, 0) := rfl
theorem rf_dots (d : List UInt8) : rfault (48 :: 46 :: d) = if d = [] then (13, 2) else if 0 ≤ bad 4 d then (14, 2 + bad 4 d) else if 6 < d.length then (12, 8) else (0, 0) := rfl

/-- The first k bytes are right. -/
structure OkTo (l : List UInt8) (k : Nat) : Prop where
  le : k ≤ l.length
  zero : ∀ h : 0 < l.length, 0 < k → l[0] = 48
  point : ∀ h : 1 < l.length, 1 < k → l[1] = 46
  digs : ∀ i (h : i < l.length), 2 ≤ i → i < k → isOf 4 l[i].toNat = true

theorem OkTo.more0 {l : List UInt8} (hl : 0 < l.length) (e : l[0] = 48) : OkTo l 1 := ⟨hl, fun _ _ => e, fun _ h => absurd h (by omega), fun i _ _ h => absurd h (by omega)⟩
theorem OkTo.more1 {l : List UInt8} (h : OkTo l 1) (hl : 1 < l.length) (e : l[1] = 46) : OkTo l 2 := ⟨hl, fun h0 _ => h.zero h0 (by omega), fun _ _ => e, fun i _ _ h => absurd h (by omega)⟩
theorem OkTo.more2 {l : List UInt8} {k : Nat} (h : OkTo l k) (hk : 2 ≤ k) (hl : k < l.length) (e : isOf 4 l[k].toNat = true) : OkTo l (k + 1) :=
  ⟨hl, fun h0 _ => h.zero h0 (by omega), fun h1 _ => h.point h1 (by omega), fun i hi h2 hik => by
    rcases Nat.lt_or_ge i k with h' | h'
    · exact h.digs i hi h2 h'
    · obtain rfl : k = i := by omega
      exact e⟩

theorem rf_short {l : List UInt8} (h : OkTo l l.length) (h1 : l.length ≠ 1) (h3 : l.length < 3) : rfault l = (13, (l.length : Int)) := by
  match l, h, h1, h3 with
  | [], _, _, _ => rfl
  | [a], _, h1, _ => exact absurd rfl h1
  | [a, b], h, _, _ =>
    have e0 := h.zero (by simp) (by simp)
    have e1 := h.point (by simp) (by simp)
    simp only [List.getElem_cons_zero, List.getElem_cons_succ] at e0 e1
    subst e0 e1
    rfl
  | _ :: _ :: _ :: _, _, _, h3 => simp at h3; omega
theorem rf_form1 {l : List UInt8} (h : OkTo l 1) (h1 : l.length = 1) : rfault l = (11, 1) := by
  match l, h, h1 with
  | [a], h, _ =>
    have e0 := h.zero (by simp) (by simp)
    simp only [List.getElem_cons_zero] at e0
    subst e0
    rfl
theorem rf_zero {l : List UInt8} (hl : 0 < l.length) (e : l[0] ≠ 48) : rfault l = (11, 0) := by
  match l, hl, e with
  | [a], _, e => simp only [List.getElem_cons_zero] at e; rw [rf_eq1, if_neg e]
  | a :: b :: d, _, e => simp only [List.getElem_cons_zero] at e; rw [rf_eq2, if_pos e]
theorem rf_point {l : List UInt8} (h : OkTo l 1) (hl : 1 < l.length) (e : l[1] ≠ 46) : rfault l = (11, 1) := by
  match l, h, hl, e with
  | a :: b :: d, h, _, e =>
    have e0 := h.zero (by simp) (by simp)
    simp only [List.getElem_cons_zero, List.getElem_cons_succ] at e0 e
    rw [rf_eq2, if_neg (by simp [e0]), if_pos e]
theorem rf_char {l : List UInt8} {k : Nat} (h : OkTo l k) (hk : 2 ≤ k) (hl : k < l.length) (e : isOf 4 l[k].toNat = false) : rfault l = (14, (k : Int)) := by
  match l, h, hl, e with
  | [], _, hl, _ => simp at hl
  | [a], _, hl, _ => simp at hl; omega
  | a :: b :: d, h, hl, e =>
    have e0 := h.zero (by simp) (by omega)
    have e1 := h.point (by simp) (by omega)
    simp only [List.getElem_cons_zero, List.getElem_cons_succ] at e0 e1
    obtain ⟨j, rfl⟩ : ∃ j, k = j + 2 := ⟨k - 2, by omega⟩
    simp only [List.getElem_cons_succ] at e
    simp only [List.length_cons] at hl
    have hb : bad 4 d = (j : Int) := bad_at (by omega) (fun i hi hij => by
      have := h.digs (i + 2) (by simp; omega) (by omega) (by omega)
      simpa using this) e
    subst e0 e1
    rw [rf_dots, if_neg (by rintro rfl; simp at hl; omega), hb, if_pos (by omega)]
    simp only [Prod.mk.injEq, true_and]
    omega
theorem rf_end {l : List UInt8} (h : OkTo l l.length) (h3 : 3 ≤ l.length) : rfault l = if 8 < l.length then (12, 8) else (0, 0) := by
  match l, h, h3 with
  | a :: b :: d, h, h3 =>
    have e0 := h.zero (by simp) (by omega)
    have e1 := h.point (by simp) (by omega)
    simp only [List.getElem_cons_zero, List.getElem_cons_succ] at e0 e1
    simp only [List.length_cons] at h3
    have hb : bad 4 d = -1 := bad_none (fun i hi => by
      have := h.digs (i + 2) (by simp; omega) (by omega) (by simp; omega)
      simpa using this)
    subst e0 e1
    rw [rf_dots, if_neg (by rintro rfl; simp at h3), hb, if_neg (by omega)]
    simp only [List.length_cons]
    by_cases hc : 6 < d.length
    · rw [if_pos hc, if_pos (by omega)]
    · rw [if_neg hc, if_neg (by omega)]

theorem begin_str : Str ⟨#[48, 46]⟩ [48, 46] := rfl

set_option maxRecDepth 100000 in
set_option maxHeartbeats 4000000 in
theorem rfault_calls (s : ByteArray) (l : List UInt8) (h : Str s l) (hz : (s.size : Int) ≤ 1000) (w : World) : Calls Tryz.prog 102 #[.string s] w (Faults w (rfault l)) := by
  have hn : s.size = l.length := h.size
  have HS := Lib.hid h
  clear h
  obtain ⟨r, hr⟩ : ∃ r, r = rfault l := ⟨_, rfl⟩
  rw [← hr]
  have HR := Lib.hid hr
  clear hr
  have b0 := Box.new w 34 [.int .i64 0, .int .i64 0]
  have HB := Lib.hid (And.intro b0 ((Below.refl w.heap.size w).alloc (Nat.le_refl _) (.cells #[.int .i64 0, .int .i64 0] 34)))
  clear b0
  have HN := Lib.hid hn
  clear hn
  go_enter Tryz.func102, Tryz.ntmps102
  go_wp2_with fail
  go_step3
  go_wp2_with fail
  go_step3
  go_wp2_with fail
  go_loopw [3, 4] (fun v3 v4 wr => ∃ k : Nat, v3 = .int .i64 0 ∧ v4 = .int .i64 k ∧ k ≤ l.length ∧ Hid (Box wr w.heap.size 34 [.int .i64 0, .int .i64 0] ∧ Below w.heap.size w wr) ∧ Hid (OkTo l k)) (fun _ v4 _ => l.length + 3 - (intOf v4).toNat)
  case atStart => exact ⟨0, rfl, rfl, by omega, HB, ⟨by omega, fun _ h => absurd h (by omega), fun _ h => absurd h (by omega), fun i _ _ h => absurd h (by omega)⟩⟩
  case round =>
    obtain ⟨k, rfl, rfl, hkl, hbx, hok⟩ := hrel
    clear HB
    have c0 : wr.cell? ⟨w.heap.size, 0, none⟩ = some (.int .i64 0) := hbx.out.1.cell 0
    have c1 : wr.cell? ⟨w.heap.size, 1, none⟩ = some (.int .i64 0) := hbx.out.1.cell 1
    have f0 := hbx.out.1.frozen 0
    have f1 := hbx.out.1.frozen 1
    have HF := Lib.hid (fun x y => laidF_is hbx.out.1 hbx.out.2 x y)
    by_cases hend : k = l.length
    · have hsk : (s.size : Int) = (k : Int) := by have := HN.out; omega
      have HK := Lib.hid hend
      clear hend
      by_cases hk1 : k = 1
      · have HX := Lib.hid (show r = (11, 1) by rw [HR.out]; subst hk1; exact rf_form1 hok.out (by have := HK.out; omega))
        subst hk1
        have hmx : max (s.size : Int) 3 = 3 := by omega
        go_wp2_with fail
        try rw [Exit.noGoto_ret]
        exact ret_fault rfl rfl rfl (HF.out _ _).1 (faults_of HX.out (HF.out _ _).2)
      · have hk1' : ((k : Int) == 1) = false := by simp; omega
        by_cases hk3 : k < 3
        · have HX := Lib.hid (show r = (13, (k : Int)) by rw [HR.out, HK.out]; exact rf_short (by rw [← HK.out]; exact hok.out) (by rw [← HK.out]; exact hk1) (by rw [← HK.out]; exact hk3))
          have hmx : max (s.size : Int) 3 = 3 := by omega
          have hk3' : (k : Int) < 3 := by omega
          clear hk1
          go_wp2_with fail
          try rw [Exit.noGoto_ret]
          exact ret_fault rfl rfl rfl (HF.out _ _).1 (faults_of HX.out (HF.out _ _).2)
        · have hx : r = if 8 < k then (12, 8) else (0, 0) := by
            rw [HR.out, rf_end (by rw [← HK.out]; exact hok.out) (by rw [← HK.out]; omega), ← HK.out]
          have hmx : max (s.size : Int) 3 = (k : Int) := by omega
          clear hk1
          by_cases h8 : 8 < k
          · have HX := Lib.hid (show r = (12, 8) by rw [hx, if_pos h8])
            have h8' : 8 < (k : Int) := by omega
            clear hx
            go_wp2_with fail
            try rw [Exit.noGoto_ret]
            exact ret_fault rfl rfl rfl (HF.out _ _).1 (faults_of HX.out (HF.out _ _).2)
          · have HX := Lib.hid (show r = (0, 0) by rw [hx, if_neg h8])
            have h8' : ¬ 8 < (k : Int) := by omega
            clear hx
            go_wp2_with fail
            try rw [Exit.noGoto_ret]
            exact ret_fault rfl rfl rfl (HF.out _ _).1 (faults_of HX.out (HF.out _ _).2)
    · have hlt : k < l.length := by omega
      have hsk : ((k : Int) == (s.size : Int)) = false := by have := HN.out; simp; omega
      have hlt' : (k : Int) < (s.size : Int) := by have := HN.out; omega
      obtain ⟨mx, hmx⟩ : ∃ mx : Int, (if (s.size : Int) < 3 then (3 : Int) else (s.size : Int)) = mx := ⟨_, rfl⟩
      have hkm : (k : Int) < mx := by rw [← hmx]; split <;> omega
      have HL := Lib.hid hlt
      have hb256 := l[k].toNat_lt
      have key : ∀ x : UInt8, (l[k].toNat : Int) = (x.toNat : Int) ↔ l[k] = x := fun x => ⟨fun h => UInt8.toNat_inj.1 (by omega), fun h => by rw [h]⟩
      have HKEY := Lib.hid key
      obtain ⟨z, hzz⟩ : ∃ z : Int, z = (l[k].toNat : Int) := ⟨_, rfl⟩
      have hisc := fun W => is_calls 4 z W
      have hidx : ∀ W, (Instr.index 9 (.string s) (.int .i64 (k : Int))).run Tryz.prog W = .ok (.int .u8 z) W := fun W => by rw [hzz]; exact HS.out.index (i := (k : Int)) k rfl hlt W
      have HZ := Lib.hid hzz
      have HIS := Lib.hid hisc
      clear hend key hzz hisc hb256 hlt
      rcases (by omega : k = 0 ∨ k = 1 ∨ 2 ≤ k) with hk | hk | hk
      · have hbg := begin_str.index (i := (k : Int)) k rfl (by rw [hk]; decide)
        have hbz : ((([48, 46] : List UInt8)[k]'(by rw [hk]; decide)).toNat : Int) = 48 := by subst hk; rfl
        rw [hbz] at hbg
        have hk2 : (k : Int) < 2 := by omega
        have hk2' : ¬ 2 ≤ (k : Int) := by omega
        by_cases h48 : z = 48
        · have HO := Lib.hid (show OkTo l (k + 1) by
            have h2 := HL.out
            have e := (HKEY.out 48).1 (by rw [← HZ.out]; exact h48)
            subst hk
            exact OkTo.more0 h2 e)
          have h48' : (z == 48) = true := by simp [h48]
          have hz48 : (z != 48) = false := by simp [h48]
          clear h48 hbz hk
          go_wp2_with fail
          go_quiet (fail)
          go_wp2_with fail
          exact ⟨⟨k + 1, rfl, by go_num, by have := HL.out; omega, ⟨hbx.out.1.same (Same.drewN _ _), hbx.out.2.trans (Same.below (Same.drewN _ _))⟩, HO⟩, by have := HL.out; simp [intOf]; omega⟩
        · have HX := Lib.hid (show r = (11, (k : Int)) by
            rw [HR.out]
            have h2 := HL.out
            have e : l[k] ≠ 48 := fun e => h48 (by rw [HZ.out]; exact (HKEY.out 48).2 e)
            subst hk
            exact rf_zero h2 e)
          have h48' : (z == 48) = false := by simp [h48]
          have hz48 : (z != 48) = true := by simp [h48]
          clear h48 hbz hk c0 c1 f0 f1
          go_wp2_with fail
          go_quiet (fail)
          have b2 := hbx.out.1.same (Same.drewN wr nq)
          have k2 := hbx.out.2.trans (Same.below (Same.drewN wr nq))
          generalize wr.drewN nq = w2 at b2 k2 ⊢
          have c0 : w2.cell? ⟨w.heap.size, 0, none⟩ = some (.int .i64 0) := b2.cell 0
          have c1 : w2.cell? ⟨w.heap.size, 1, none⟩ = some (.int .i64 0) := b2.cell 1
          have f0 := b2.frozen 0
          have f1 := b2.frozen 1
          have HF2 := Lib.hid (fun x y => laidF_is b2 k2 x y)
          clear b2 k2
          go_wp2_with fail
          try rw [Exit.noGoto_ret]
          exact ret_fault rfl rfl rfl (HF2.out _ _).1 (faults_of HX.out (HF2.out _ _).2)
      · have hbg := begin_str.index (i := (k : Int)) k rfl (by rw [hk]; decide)
        have hbz : ((([48, 46] : List UInt8)[k]'(by rw [hk]; decide)).toNat : Int) = 46 := by subst hk; rfl
        rw [hbz] at hbg
        have hk2 : (k : Int) < 2 := by omega
        have hk2' : ¬ 2 ≤ (k : Int) := by omega
        by_cases h48 : z = 46
        · have HO := Lib.hid (show OkTo l (k + 1) by
            have h2 := HL.out
            have e := (HKEY.out 46).1 (by rw [← HZ.out]; exact h48)
            have h3 := hok.out
            subst hk
            exact h3.more1 h2 e)
          have h48' : (z == 46) = true := by simp [h48]
          have hz48 : (z != 46) = false := by simp [h48]
          clear h48 hbz hk
          go_wp2_with fail
          go_quiet (fail)
          go_wp2_with fail
          exact ⟨⟨k + 1, rfl, by go_num, by have := HL.out; omega, ⟨hbx.out.1.same (Same.drewN _ _), hbx.out.2.trans (Same.below (Same.drewN _ _))⟩, HO⟩, by have := HL.out; simp [intOf]; omega⟩
        · have HX := Lib.hid (show r = (11, (k : Int)) by
            rw [HR.out]
            have h2 := HL.out
            have e : l[k] ≠ 46 := fun e => h48 (by rw [HZ.out]; exact (HKEY.out 46).2 e)
            have h3 := hok.out
            subst hk
            exact rf_point h3 h2 e)
          have h48' : (z == 46) = false := by simp [h48]
          have hz48 : (z != 46) = true := by simp [h48]
          clear h48 hbz hk c0 c1 f0 f1
          go_wp2_with fail
          go_quiet (fail)
          have b2 := hbx.out.1.same (Same.drewN wr nq)
          have k2 := hbx.out.2.trans (Same.below (Same.drewN wr nq))
          generalize wr.drewN nq = w2 at b2 k2 ⊢
          have c0 : w2.cell? ⟨w.heap.size, 0, none⟩ = some (.int .i64 0) := b2.cell 0
          have c1 : w2.cell? ⟨w.heap.size, 1, none⟩ = some (.int .i64 0) := b2.cell 1
          have f0 := b2.frozen 0
          have f1 := b2.frozen 1
          have HF2 := Lib.hid (fun x y => laidF_is b2 k2 x y)
          clear b2 k2
          go_wp2_with fail
          try rw [Exit.noGoto_ret]
          exact ret_fault rfl rfl rfl (HF2.out _ _).1 (faults_of HX.out (HF2.out _ _).2)
      · have hk2 : decide ((k : Int) < 2) = false := by rw [decide_eq_false_iff_not]; omega
        have hk2' : 2 ≤ (k : Int) := by omega
        obtain ⟨o, ho⟩ : ∃ o, o = isOf 4 z := ⟨_, rfl⟩
        rw [← ho] at HIS
        have HO := Lib.hid (And.intro ho hk)
        clear ho hk c0 c1 f0 f1 HF
        go_wp2_with fail
        go_quiet (fail)
        have b2 := hbx.out.1.same (Same.drewN wr nq)
        have k2 := hbx.out.2.trans (Same.below (Same.drewN wr nq))
        generalize wr.drewN nq = w2 at b2 k2 ⊢
        have HB2 := Lib.hid (And.intro b2 k2)
        clear b2 k2
        go_wp2_with fail
        refine (HIS.out _).mono ?_
        rintro e w3 ⟨rfl, hb⟩
        have b3 := HB2.out.1.keep hb
        have k3 := below_then HB2.out.2 hb
        have c0 : w3.cell? ⟨w.heap.size, 0, none⟩ = some (.int .i64 0) := b3.cell 0
        have c1 : w3.cell? ⟨w.heap.size, 1, none⟩ = some (.int .i64 0) := b3.cell 1
        have f0 := b3.frozen 0
        have f1 := b3.frozen 1
        have HF2 := Lib.hid (And.intro (And.intro b3 k3) (fun x y => laidF_is b3 k3 x y))
        clear b3 k3 hb HB2 HIS
        cases o
        · have HX := Lib.hid (show r = (14, (k : Int)) by
            rw [HR.out]
            exact rf_char hok.out HO.out.2 HL.out (by have := HO.out.1; rw [HZ.out] at this; exact this.symm))
          go_wp2_with fail
          try rw [Exit.noGoto_ret]
          exact ret_fault rfl rfl rfl (HF2.out.2 _ _).1 (faults_of HX.out (HF2.out.2 _ _).2)
        · have HX := Lib.hid (hok.out.more2 HO.out.2 HL.out (by have := HO.out.1; rw [HZ.out] at this; exact this.symm))
          go_wp2_with fail
          exact ⟨⟨k + 1, rfl, by go_num, by have := HL.out; omega, ⟨HF2.out.1.1, HF2.out.1.2⟩, HX⟩, by have := HL.out; simp [intOf]; omega⟩
end Go.Proofs.YtdliookdmgilgaaGreatDoor

/-
  The table of the powers of ten, as strconv reads it. No statement of the seat is proved here.
-/
namespace Go.Proofs.YtdliookdmgilgaaGreatDoor
open Go.RowKit

/-- The table of the powers of ten lies where it was laid. -/
def Tab (w : World) : Prop := Lib.TabIs Tryz.prog w "internal/strconv.uint64pow10" .u64 Lib.pow10Tab

theorem Tab.keep {w w' : World} (h : Tab w) (hb : Below w.heap.size w w') : Tab w' := by
  unfold Tab Lib.TabIs World.var? at *
  cases hg : Tryz.prog.globalNamed "internal/strconv.uint64pow10" with
  | none => simp [hg] at h
  | some g =>
    simp only [hg, Option.bind_some] at h ⊢
    have hlt : g < w.heap.size := by
      rcases Nat.lt_or_ge g w.heap.size with h' | h'
      · exact h'
      · rw [Array.getElem?_eq_none h'] at h; simp at h
    rw [hb.block g hlt]
    exact h
end Go.Proofs.YtdliookdmgilgaaGreatDoor
