/-
  OgMeth, OgMVals, OgParse. No statement of the seat is proved here.
-/
import Derived.Test.YtbcmchkgamkceaaGreatDoorGrOgFirst
import Derived.Test.YtbcmchkgamkceaaGreatDoorOgSplit
import Derived.Test.YtbcmchkgamkceaaGreatDoorGrNRate
import Derived.Test.YtbcmchkgamkceaaGreatDoorGrTParse1
import Derived.Test.YtbcmchkgamkceaaGreatDoorGrTNormal
import Derived.Test.YtbcmchkgamkceaaGreatDoorTCut
import Derived.Test.YtbcmchkgamkceaaGreatDoorGrDParse
import Derived.WalkMore
/-
  Package dog: the methods that read a kind, a rate, tags and a time. No statement of the seat is proved here.
-/
namespace Go.Proofs.YtbcmchkgamkceaaGreatDoor
open Go.RowKit
open Dc (D D0)

theorem otold_says {r : Int × Int × Int} {n c a : Int} (h : r = (n, c, a)) {w w' : World} {e : Ending} (k : Told3 w r e w') : e = .returned (.tuple #[.int .i64 n, .agg #[.int .i64 c, .int .i64 a]]) ∧ Below w.heap.size w w' := by
  rw [h] at k
  exact k
section
variable {w : World} {g : Nat} {m : Mt} {s : ByteArray} {l : List UInt8}
set_option maxRecDepth 100000 in
set_option maxHeartbeats 4000000 in
theorem mword_calls (h : Rd 67 w g m) (hs : Str s l) : Calls Tryz.prog 38 #[.pointer (some ⟨g, 0, none⟩), .string s] w (MethP 67 w g (stepT 1 m l)) := by
  obtain ⟨x, hx⟩ : ∃ x, stepT 1 m l = x := ⟨_, rfl⟩
  rw [hx]
  rw [stepT1] at hx
  have HM := Lib.hid (Mth.start h)
  have hK := fun W => okind_calls hs W
  generalize kindD l = k at hK hx
  generalize codeDK l = c at hK hx
  have HX := Lib.hid hx.symm
  have HK := Lib.hid hK
  clear hx hK h hs
  go_enter Tryz.func38, Tryz.ntmps38
  go_wp2_with fail
  refine (HK.out _).mono ?_
  rintro e w1 ⟨rfl, rfl⟩
  generalize w.alloc (.cells #[.int .i64 0, .int .i64 0] 42) = W1 at HM ⊢
  obtain ⟨sn, A, n, ca, B, kk, cb, c0, c1, c2, c3, c4, c5, f1, f3, f4, f5⟩ := HM.out.cells
  have HM2 := Lib.hid (HM.out.kind k)
  obtain ⟨r0, r1, q0, q1⟩ := HM2.out.two
  have HT := Lib.hid (HM2.out.told c 0)
  clear HK
  go_wp2_with fail
  refine ret_vf rfl rfl rfl rfl HT.out.1 ?_
  exact methP_of HX.out HT.out.2.1 fun _ => HT.out.2.2
theorem ocutP_yes {c : UInt8} {l : List UInt8} (h : l.head? = some c) : ∃ q, l = c :: q ∧ ocutP c l = q := by
  cases l with
  | nil => cases h
  | cons b r =>
    injection h with h
    subst h
    exact ⟨r, rfl, by unfold ocutP; rw [if_pos (show (b :: r).head? = some b from rfl)]; rfl⟩
/-- The piece is of another kind. -/
theorem meth_other {x : Bool × Int × Int × Mt} {w W : World} {g : Nat} {m : Mt} (hx : x = (false, 0, 0, m)) (h : Mth 67 w W g m) : MethP 67 w g x (.returned (.tuple #[.bool false, .agg #[.int .i64 0, .int .i64 0]])) W :=
  methP_of hx h.kept fun _ => h.rd
set_option maxRecDepth 100000 in
set_option maxHeartbeats 4000000 in
theorem mrate_calls (h : Rd 67 w g m) (hs : Str s l) (hl : l.length ≤ 8192) : Calls Tryz.prog 39 #[.pointer (some ⟨g, 0, none⟩), .string s] w (MethP 67 w g (stepT 2 m l)) := by
  obtain ⟨x, hx⟩ : ∃ x, stepT 2 m l = x := ⟨_, rfl⟩
  rw [hx]
  have HM := Lib.hid (Mth.start h)
  obtain ⟨hd, hhd⟩ : ∃ h : Bool, h = decide (l.head? = some 64) := ⟨_, rfl⟩
  have hC := ocutpre_calls hs 64
  rw [← hhd] at hC
  have HC := Lib.hid hC
  have HX := Lib.hid hx
  have HH := Lib.hid hhd
  have HL := Lib.hid hl
  clear hC hx hhd h hs hl
  go_enter Tryz.func39, Tryz.ntmps39
  go_wp2_with fail
  refine (HC.out _).mono ?_
  rintro e w1 ⟨⟨q, rfl, hq⟩, rfl⟩
  generalize w.alloc (.cells #[.int .i64 0, .int .i64 0] 42) = W1 at HM ⊢
  have HQ := Lib.hid hq
  clear HC hq
  cases hd
  · have hh : l.head? ≠ some 64 := of_decide_eq_false HH.out.symm
    obtain ⟨r0, r1, q0, q1⟩ := HM.out.two
    have HT := Lib.hid (HM.out.told 0 0)
    have HE := Lib.hid (show x = (false, 0, 0, m) by rw [← HX.out, stepT2, if_neg hh])
    go_wp2_with fail
    refine ret_vf rfl rfl rfl rfl HT.out.1 ?_
    exact methP_of HE.out HT.out.2.1 fun _ => HT.out.2.2
  obtain ⟨t, rfl, ht⟩ := ocutP_yes (of_decide_eq_true HH.out.symm)
  have hqs := HQ.out
  rw [ht] at hqs
  obtain ⟨r, c2, a2, hr⟩ : ∃ r c2 a2, rated t = (r, c2, a2) := ⟨_, _, _, rfl⟩
  have HR := Lib.hid (fun W => (nrate_calls q _ hqs (by rw [hqs.size]; have := HL.out; rw [List.length_cons] at this; omega) W).mono fun _ _ k => otold_says hr k)
  have HXB := Lib.hid (fun hb => (HX.out.symm.trans (step_rate_bad (m := m) (q := t) hb)))
  have HXG := Lib.hid (fun hb => (HX.out.symm.trans (step_rate (m := m) (q := t) hb)))
  rw [hr] at HXB HXG
  clear HX HH HQ HL ht hqs hr
  go_wp2_with fail
  refine (HR.out _).mono ?_
  rintro e w2 ⟨rfl, hb⟩
  have HM2 := Lib.hid ((HM.out.next hb).alloc (.cells #[.int .i64 c2, .int .i64 a2] 42))
  have e1 := Box.new w2 42 [.int .i64 c2, .int .i64 a2]
  have z0 := e1.cell 0
  simp only [List.getElem?_cons_zero] at z0
  clear hb HM HR e1
  obtain ⟨sn, A, n, ca, B, kk, cb, c0, c1, c2', c3, c4, c5, f1, f3, f4, f5⟩ := HM2.out.cells
  obtain ⟨r0, r1, q0, q1⟩ := HM2.out.two
  by_cases hbad : c2 ≠ 0 ∨ (m.kind = 2 ∧ r ≠ 1000000)
  · have HE := Lib.hid (HXB.out hbad)
    have HT := Lib.hid (HM2.out.told 18 0)
    clear HXB HXG
    rcases (by by_cases h : c2 = 0 <;> simp [h] at hbad ⊢ <;> exact hbad : (c2 != 0) = true ∨ ((c2 != 0) = false ∧ (m.kind == 2) = true ∧ (r != 1000000) = true)) with h1 | ⟨h1, h2, h3⟩
    · clear hbad
      go_wp2_with fail
      refine ret_vf rfl rfl rfl rfl HT.out.1 ?_
      exact methP_of HE.out HT.out.2.1 fun h => absurd h (by decide)
    · clear hbad
      go_wp2_with fail
      refine ret_vf rfl rfl rfl rfl HT.out.1 ?_
      exact methP_of HE.out HT.out.2.1 fun h => absurd h (by decide)
  · have HE := Lib.hid (HXG.out hbad)
    have HM3 := Lib.hid (HM2.out.rate r)
    obtain ⟨y0, y1, y2, y3⟩ := HM3.out.two
    have HT := Lib.hid (HM3.out.told 0 0)
    clear HXB HXG
    obtain ⟨rfl, hk⟩ : c2 = 0 ∧ ((m.kind == 2) = false ∨ ((m.kind == 2) = true ∧ (r != 1000000) = false)) := by
      have h0 : c2 = 0 := Decidable.byContradiction fun h => hbad (.inl h)
      refine ⟨h0, ?_⟩
      by_cases h2 : m.kind = 2
      · exact .inr ⟨by simp [h2], by
          have : r = 1000000 := Decidable.byContradiction fun h => hbad (.inr ⟨h2, h⟩)
          simp [this]⟩
      · exact .inl (by simp [h2])
    clear hbad
    rcases hk with h2 | ⟨h2, h3⟩
    · go_wp2_with fail
      refine ret_vf rfl rfl rfl rfl HT.out.1 ?_
      exact methP_of HE.out HT.out.2.1 fun _ => HT.out.2.2
    · go_wp2_with fail
      refine ret_vf rfl rfl rfl rfl HT.out.1 ?_
      exact methP_of HE.out HT.out.2.1 fun _ => HT.out.2.2
set_option maxRecDepth 100000 in
set_option maxHeartbeats 4000000 in
theorem mtime_calls (h : Rd 67 w g m) (hs : Str s l) (hl : l.length ≤ 8192) : Calls Tryz.prog 41 #[.pointer (some ⟨g, 0, none⟩), .string s] w (MethP 67 w g (stepT 4 m l)) := by
  obtain ⟨x, hx⟩ : ∃ x, stepT 4 m l = x := ⟨_, rfl⟩
  rw [hx]
  have HM := Lib.hid (Mth.start h)
  obtain ⟨hd, hhd⟩ : ∃ h : Bool, h = decide (l.head? = some 84) := ⟨_, rfl⟩
  have hC := ocutpre_calls hs 84
  rw [← hhd] at hC
  have HC := Lib.hid hC
  have HX := Lib.hid hx
  have HH := Lib.hid hhd
  have HL := Lib.hid hl
  clear hC hx hhd h hs hl
  go_enter Tryz.func41, Tryz.ntmps41
  go_wp2_with fail
  refine (HC.out _).mono ?_
  rintro e w1 ⟨⟨q, rfl, hq⟩, rfl⟩
  generalize w.alloc (.cells #[.int .i64 0, .int .i64 0] 42) = W1 at HM ⊢
  have HQ := Lib.hid hq
  clear HC hq
  cases hd
  · have hh : l.head? ≠ some 84 := of_decide_eq_false HH.out.symm
    obtain ⟨r0, r1, q0, q1⟩ := HM.out.two
    have HT := Lib.hid (HM.out.told 0 0)
    have HE := Lib.hid (show x = (false, 0, 0, m) by rw [← HX.out, stepT4, if_neg hh])
    go_wp2_with fail
    refine ret_vf rfl rfl rfl rfl HT.out.1 ?_
    exact methP_of HE.out HT.out.2.1 fun _ => HT.out.2.2
  obtain ⟨t, rfl, ht⟩ := ocutP_yes (of_decide_eq_true HH.out.symm)
  have hqs := HQ.out
  rw [ht] at hqs
  obtain ⟨r, c2, a2, hr⟩ : ∃ r c2 a2, parsed t 1 MaxT = (r, c2, a2) := ⟨_, _, _, rfl⟩
  have HR := Lib.hid (fun W => (ntime_calls q _ hqs (by rw [hqs.size]; have := HL.out; rw [List.length_cons] at this; omega) W).mono fun _ _ k => otold_says hr k)
  have HXB := Lib.hid (fun hb => (HX.out.symm.trans (step_time_bad (m := m) (q := t) hb)))
  have HXG := Lib.hid (fun hb => (HX.out.symm.trans (step_time (m := m) (q := t) hb)))
  rw [hr] at HXB HXG
  clear HX HH HQ HL ht hqs hr
  go_wp2_with fail
  refine (HR.out _).mono ?_
  rintro e w2 ⟨rfl, hb⟩
  have HM2 := Lib.hid ((HM.out.next hb).alloc (.cells #[.int .i64 c2, .int .i64 a2] 42))
  have e1 := Box.new w2 42 [.int .i64 c2, .int .i64 a2]
  have z0 := e1.cell 0
  simp only [List.getElem?_cons_zero] at z0
  clear hb HM HR e1
  obtain ⟨sn, A, n, ca, B, kk, cb, c0, c1, c2', c3, c4, c5, f1, f3, f4, f5⟩ := HM2.out.cells
  obtain ⟨r0, r1, q0, q1⟩ := HM2.out.two
  by_cases hbad : c2 ≠ 0
  · have HE := Lib.hid (HXB.out hbad)
    have HT := Lib.hid (HM2.out.told 20 0)
    have hcb : (c2 != 0) = true := by simpa using hbad
    clear HXB HXG hbad
    go_wp2_with fail
    refine ret_vf rfl rfl rfl rfl HT.out.1 ?_
    exact methP_of HE.out HT.out.2.1 fun h => absurd h (by decide)
  · have HE := Lib.hid (HXG.out hbad)
    have HM3 := Lib.hid (HM2.out.time r)
    obtain ⟨y0, y1, y2, y3⟩ := HM3.out.two
    have HT := Lib.hid (HM3.out.told 0 0)
    obtain rfl : c2 = 0 := by omega
    clear HXB HXG hbad
    go_wp2_with fail
    refine ret_vf rfl rfl rfl rfl HT.out.1 ?_
    exact methP_of HE.out HT.out.2.1 fun _ => HT.out.2.2
set_option maxRecDepth 100000 in
set_option maxHeartbeats 4000000 in
theorem mtags_calls (h : Rd 67 w g m) (hs : Str s l) (hl : l.length ≤ 8192) : Calls Tryz.prog 40 #[.pointer (some ⟨g, 0, none⟩), .string s] w (MethP 67 w g (stepT 3 m l)) := by
  obtain ⟨x, hx⟩ : ∃ x, stepT 3 m l = x := ⟨_, rfl⟩
  rw [hx]
  have HM := Lib.hid (Mth.start h)
  obtain ⟨hd, hhd⟩ : ∃ h : Bool, h = decide (l.head? = some 35) := ⟨_, rfl⟩
  have hC := ocutpre_calls hs 35
  rw [← hhd] at hC
  have HC := Lib.hid hC
  have HX := Lib.hid hx
  have HH := Lib.hid hhd
  have HL := Lib.hid hl
  clear hC hx hhd h hs hl
  go_enter Tryz.func40, Tryz.ntmps40
  go_wp2_with fail
  refine (HC.out _).mono ?_
  rintro e w1 ⟨⟨q, rfl, hq⟩, rfl⟩
  generalize w.alloc (.cells #[.int .i64 0, .int .i64 0] 42) = W1 at HM ⊢
  have HQ := Lib.hid hq
  clear HC hq
  cases hd
  · have hh : l.head? ≠ some 35 := of_decide_eq_false HH.out.symm
    obtain ⟨r0, r1, q0, q1⟩ := HM.out.two
    have HT := Lib.hid (HM.out.told 0 0)
    have HE := Lib.hid (show x = (false, 0, 0, m) by rw [← HX.out, stepT3, if_neg hh])
    go_wp2_with fail
    refine ret_vf rfl rfl rfl rfl HT.out.1 ?_
    exact methP_of HE.out HT.out.2.1 fun _ => HT.out.2.2
  obtain ⟨t, rfl, ht⟩ := ocutP_yes (of_decide_eq_true HH.out.symm)
  have hqs := HQ.out
  rw [ht] at hqs
  have HR := Lib.hid (fun W => tparse_calls hqs (by rw [hqs.size]; have := HL.out; rw [List.length_cons] at this; omega) W)
  clear HH HQ HL ht hqs
  go_wp2_with fail
  refine (HR.out _).mono ?_
  rintro e w2 ⟨hb, hp⟩
  rcases hpt : parseT t with k0 | ts
  · rw [hpt] at hp
    obtain rfl := hp
    have HM2 := Lib.hid ((HM.out.next hb).alloc (.cells #[.int .i64 19, .int .i64 k0] 42))
    have e1 := Box.new w2 42 [.int .i64 19, .int .i64 k0]
    have z0 := e1.cell 0
    simp only [List.getElem?_cons_zero] at z0
    have HE := Lib.hid (HX.out.symm.trans (step_tags_bad (m := m) hpt))
    clear hb HM HR e1 hpt HX
    obtain ⟨r0, r1, q0, q1⟩ := HM2.out.two
    have HT := Lib.hid (HM2.out.told 19 0)
    go_wp2_with fail
    refine ret_vf rfl rfl rfl rfl HT.out.1 ?_
    exact methP_of HE.out HT.out.2.1 fun h => absurd h (by decide)
  · rw [hpt] at hp
    obtain ⟨At, ct, rfl, hA, -, -⟩ := hp
    have HM2 := Lib.hid ((HM.out.next hb).alloc (.cells #[.int .i64 0, .int .i64 0] 42))
    have HA := Lib.hid (hA.keep (Below.alloc (Below.refl _ _) (Nat.le_refl _) (.cells #[.int .i64 0, .int .i64 0] 42)))
    have e1 := Box.new w2 42 [.int .i64 0, .int .i64 0]
    have z0 := e1.cell 0
    simp only [List.getElem?_cons_zero] at z0
    clear hb HM HR e1 hA
    by_cases h32 : 32 < ts.length
    · have HE := Lib.hid (HX.out.symm.trans (step_tags_many (m := m) hpt h32))
      obtain ⟨r0, r1, q0, q1⟩ := HM2.out.two
      have HT := Lib.hid (HM2.out.told 19 0)
      have h32' : 32 < (ts.length : Int) := by omega
      clear hpt HX
      go_wp2_with fail
      refine ret_vf rfl rfl rfl rfl HT.out.1 ?_
      exact methP_of HE.out HT.out.2.1 fun h => absurd h (by decide)
    · have HE := Lib.hid (HX.out.symm.trans (step_tags (m := m) hpt h32))
      have h32' : ¬ 32 < (ts.length : Int) := by omega
      have HN := Lib.hid (normal_calls (cap := ct) rfl HA.out (by omega))
      clear hpt HX h32
      generalize ts.length = n at h32' HN ⊢
      go_wp2_with fail
      refine HN.out.mono ?_
      rintro e w3 ⟨⟨Bt, cb', rfl, hB⟩, hb⟩
      have HM3 := Lib.hid (HM2.out.next hb)
      obtain ⟨sn, A, na, ca, B, kk, cb, c0, c1, c2', c3, c4, c5, f1, f3, f4, f5⟩ := HM3.out.cells
      have HM4 := Lib.hid (HM3.out.tags cb' rfl hB)
      obtain ⟨r0, r1, q0, q1⟩ := HM4.out.two
      have HT := Lib.hid (HM4.out.told 0 0)
      clear hb hB HM2 HN
      go_wp2_with fail
      refine ret_vf rfl rfl rfl rfl HT.out.1 ?_
      exact methP_of HE.out HT.out.2.1 fun _ => HT.out.2.2
end
end Go.Proofs.YtbcmchkgamkceaaGreatDoor

/-
  Package dog: the method that reads a name and values. No statement of the seat is proved here.
-/
namespace Go.Proofs.YtbcmchkgamkceaaGreatDoor
open Go.RowKit
open Dc (D D0)

theorem cutsB_cut (c : UInt8) : ∀ l : List UInt8, cutsB c l = (cutC c l).1 :: (if c ∈ l then cutsB c (cutC c l).2 else [])
  | [] => rfl
  | b :: r => by
    rw [cutsB, cutC]
    by_cases h : b = c
    · subst h
      rw [if_pos rfl, if_pos rfl, if_pos (by simp)]
    · rw [if_neg h, if_neg h, cutsB_cut c r]
      have e : (c ∈ b :: r) = (c ∈ r) := by
        rw [List.mem_cons]
        exact propext ⟨fun k => k.elim (fun k => absurd k.symm h) id, .inr⟩
      simp only [e]
theorem ofield_code (x y : Value) (w : World) : (Instr.field 42 (.agg #[x, y]) 0).run Tryz.prog w = .ok x w := by kernel_rfl
theorem oname_code {l : List UInt8} {x y : Int} (h : faultOf 1 l 1 200 = (x, y)) : nameR l = decide (x = 0) := by
  unfold nameR
  rw [h]
  by_cases hx : x = 0
  · subst hx
    have hy : y = 0 := by
      unfold faultOf at h
      split at h
      · injection h with h _; omega
      · split at h
        · injection h with h _; omega
        · split at h
          · injection h with h _; omega
          · split at h
            · injection h with h _; omega
            · injection h with _ h; omega
    subst hy
    rfl
  · rw [decide_eq_false hx]
    exact decide_eq_false fun e => hx (congrArg Prod.fst e)

theorem VsI.fin2 {t : TypeId} {w W : World} {B g gl n : Nat} {L : List (Nat × TypeId × List Value)} {pv : List Value} {nm : ByteArray} {v : Value} {ds : List D} (h : VsI t w W B g gl n L pv nm v ds) {b : Nat} {x y : Int} (hm : (b, 42, [.int .i64 x, .int .i64 y]) ∈ L) (c a : Int) {name : List UInt8} (hs : Str nm name) :
    Rd t ((W.setCell ⟨b, 0, none⟩ (.int .i64 c)).setCell ⟨b, 1, none⟩ (.int .i64 a)) g ⟨name, 0, ds, 1000000, [], 0⟩ := by
  have hl := h.lx _ hm
  have hlt := h.lt
  have hb0 : Box W b 42 [.int .i64 x, .int .i64 y] := h.bx _ hm
  have hb1 : Box (W.setCell ⟨b, 0, none⟩ (.int .i64 c)) b 42 [.int .i64 c, .int .i64 y] := hb0.set 0 _
  obtain ⟨A, ca, rfl, _⟩ := own_slice h.own
  have hd : Decs W A ds := Decs.of_own h.own
  simp only at hl
  exact ⟨nm, A, n, ca, none, 0, 0, (h.box.far (q := ⟨b, 0, none⟩) (by show g ≠ b; omega) _).far (q := ⟨b, 1, none⟩) (by show g ≠ b; omega) _, hs, own_lenD h.own, (hd.set_fault hb0 0 _).set_fault hb1 1 _, rfl, Tags.nil⟩

set_option maxRecDepth 100000 in
set_option maxHeartbeats 4000000 in
theorem mvalues_calls {w : World} {g : Nat} {m : Mt} {s : ByteArray} {l : List UInt8} (hb : Box w g 67 [.string ⟨#[]⟩, .int .i64 0, .slice none 0 0, .int .i64 1000000, .slice none 0 0, .int .i64 0]) (hs : Str s l) (hl : l.length ≤ 8192) :
    Calls Tryz.prog 37 #[.pointer (some ⟨g, 0, none⟩), .string s] w (MethP 67 w g (stepT 0 m l)) := by
  obtain ⟨x, hx⟩ : ∃ x, stepT 0 m l = x := ⟨_, rfl⟩
  rw [hx]
  rw [stepT0] at hx
  have HX := Lib.hid hx.symm
  have hlt := hb.lt
  have hsz : (s.size : Int) = (l.length : Int) := by rw [hs.size]
  have HC := Lib.hid (fun W => cut_calls hs (by omega) 58 W)
  have hcut := cutsB_cut 58 l
  have hcl := cut_len 58 l
  obtain ⟨name, hname⟩ : ∃ name, (cutC 58 l).1 = name := ⟨_, rfl⟩
  obtain ⟨rest, hrest⟩ : ∃ rest, (cutC 58 l).2 = rest := ⟨_, rfl⟩
  rw [hname, hrest] at hcut hcl
  obtain ⟨fx, fy, hf⟩ : ∃ fx fy, faultOf 1 name 1 200 = (fx, fy) := ⟨_, _, rfl⟩
  obtain ⟨vd, hvd⟩ : ∃ v : Bool, v = decide ((58 : UInt8) ∈ l) := ⟨_, rfl⟩
  have HN := Lib.hid (And.intro hcut (And.intro (oname_code hf) hvd))
  have HB := Lib.hid hb
  have HCN := Lib.hid (And.intro hname hrest)
  have HT0 := Lib.hid (fun W T (hT : Str T name) => ctext_says hT (by rw [hT.size]; omega) hf W)
  clear hx hs hb hcut hname hrest hf
  go_enter Tryz.func37, Tryz.ntmps37
  go_wp2_with fail
  refine (HC.out _).mono ?_
  rintro e w1 ⟨⟨p, q, rfl, hp, hq⟩, hb1⟩
  rw [← hvd]
  rw [HCN.out.1] at hp
  rw [HCN.out.2] at hq
  have hfc := ofield_code (.int .i64 fx) (.int .i64 fy)
  clear HC hvd HCN
  go_wp2_with fail
  refine (HT0.out _ p hp).mono ?_
  rintro e w2 ⟨rfl, hb2⟩
  have hk2 : Below (w.alloc (.cells #[.int .i64 0, .int .i64 0] 42)).heap.size (w.alloc (.cells #[.int .i64 0, .int .i64 0] 42)) w2 := below_then hb1 hb2
  have HM := Lib.hid ((Mth.start (m := M1) (show Rd 67 w g M1 from ⟨_, none, 0, 0, none, 0, 0, HB.out, rfl, rfl, Decs.nil, rfl, Tags.nil⟩)).next hk2)
  have HB2 := Lib.hid (HB.out.keep (((Below.refl w.heap.size w).alloc (Nat.le_refl _) (.cells #[.int .i64 0, .int .i64 0] 42)).trans (hk2.mono (by simp only [size_alloc]; omega))))
  have HP := Lib.hid (And.intro hp hq)
  have hpz : (p.size : Int) = (name.length : Int) := by rw [hp.size]
  clear hb1 hb2 hk2 hp hq HT0 HB
  obtain ⟨r0, r1, q0, q1⟩ := HM.out.two
  by_cases hfx : fx ≠ 0
  · have hfb : (fx != 0) = true := by simpa using hfx
    have HT := Lib.hid (HM.out.told 15 0)
    have HE := Lib.hid (show x = (true, 15, 0, firstM l) by
      have hn : nameR name = false := by rw [HN.out.2.1]; exact decide_eq_false hfx
      have : firstF l = (15, 0) := by unfold firstF; rw [HN.out.1]; simp only; rw [if_pos hn]
      rw [HX.out, this])
    clear hfx
    go_wp2_with fail
    refine ret_vf rfl rfl rfl rfl HT.out.1 ?_
    exact methP_of HE.out HT.out.2.1 fun h => absurd h (by decide)
  have hfx0 : fx = 0 := by omega
  have HNT := Lib.hid (show nameR name = true by rw [HN.out.2.1]; exact decide_eq_true hfx0)
  subst hfx0
  clear hfx
  cases vd
  · have HT := Lib.hid (HM.out.told 11 (l.length : Int))
    have HE := Lib.hid (show x = (true, 11, (l.length : Int), firstM l) by
      have : firstF l = (11, (l.length : Int)) := by
        unfold firstF
        rw [HN.out.1, if_neg (of_decide_eq_false HN.out.2.2.symm)]
        simp only
        rw [HNT.out, if_neg (by decide)]; rfl
      rw [HX.out, this])
    go_wp2_with fail
    refine ret_vf rfl rfl rfl rfl HT.out.1 ?_
    exact methP_of HE.out HT.out.2.1 fun h => absurd h (by decide)
  have hcv : cutsB 58 l = name :: cutsB 58 rest := by rw [HN.out.1, if_pos (of_decide_eq_true HN.out.2.2.symm)]
  have hll := lenB_cuts 58 l
  rw [hcv, lenB_cons] at hll
  have hvs0 := cutsB_ne 58 rest
  have HS := Lib.hid (fun W => split_calls HP.out.2 (by omega) 58 W)
  obtain ⟨vs, hvs⟩ : ∃ vs, cutsB 58 rest = vs := ⟨_, rfl⟩
  rw [hvs] at hcv hll hvs0 HS
  have HV := Lib.hid (And.intro hcv (And.intro hvs0 hll))
  have hvl : 0 < vs.length := List.length_pos_iff.2 hvs0
  have hvn : vs.length ≤ 8192 := by have := length_lenB vs; omega
  have gn : (name.length : Int) ≤ 8192 := by omega
  obtain ⟨b0, -⟩ : w2.cell? ⟨g, 0, none⟩ = some (.string ⟨#[]⟩) ∧ True := ⟨HB2.out.cell 0, trivial⟩
  have f0 : w2.frozen? ⟨g, 0, none⟩ = false := HB2.out.frozen 0
  clear hcv hll hvs0 hvs hcl HN r0 r1 q0 q1
  go_wp2_with fail
  refine (HS.out _).mono ?_
  rintro e w3 ⟨rfl, rfl⟩
  have HW := Lib.hid (show VsI 67 w ((w2.setCell ⟨g, 0, none⟩ (.string p)).alloc (.cells (ostrsV vs).toArray 9)) (w2.heap.size + 1) g w2.heap.size 0 [(w.heap.size, 42, [.int .i64 0, .int .i64 0])] (ostrsV vs) p (.slice none 0 0) [] from by
    have hz : (w2.setCell ⟨g, 0, none⟩ (.string p)).heap.size = w2.heap.size := by simp [World.setCell]
    have hw := HM.out.kept.size
    have hres := HM.out.res.far (q := ⟨g, 0, none⟩) (by show w.heap.size ≠ g; omega) (.string p)
    have hlt2 := HM.out.res.lt
    have hnew := Box.new (w2.setCell ⟨g, 0, none⟩ (.string p)) 9 (ostrsV vs)
    rw [hz] at hnew
    exact ⟨(HM.out.kept.set 0 _).alloc _, (HB2.out.set 0 _).alloc _, own_nilD _ _, fun i u hu => ⟨w2.heap.size, 0, rfl, by rw [Nat.zero_add, hnew.cell i]; exact hu⟩, fun y hy => by
      rcases List.mem_singleton.1 hy with rfl
      exact hres.alloc _, fun y hy => by
      rcases List.mem_singleton.1 hy with rfl
      exact ⟨Nat.le_refl _, by show w.heap.size < _; omega⟩, ⟨hw, by omega⟩, by rw [size_alloc, hz]; exact Nat.le_refl _, hlt⟩)
  have hz : (w2.setCell ⟨g, 0, none⟩ (.string p)).heap.size = w2.heap.size := by simp [World.setCell]
  rw [hz]
  generalize w2.heap.size + 1 = B at HW
  generalize w2.heap.size = gl at HW ⊢
  generalize World.alloc _ _ = W4 at HW ⊢
  clear hz b0 f0 HS HM HB2
  have gn0 : (0 : Int) ≤ (name.length : Int) := by omega
  have hfc2 := fun u v => ofield_code u v
  go_wp2_with fail
  go_loopw [9, 41] (fun v9 v41 wr => ∃ (j : Nat) (acc : List D) (v : Value), v9 = .int .i64 ((name.length : Int) + 1 + (lenB (vs.take j) : Int)) ∧ v41 = .int .i64 (j : Int) ∧ j ≤ vs.length ∧ j ≤ 64 ∧ Hid (VsI 67 w wr B g gl acc.length [(w.heap.size, 42, [.int .i64 0, .int .i64 0])] (ostrsV vs) p v acc ∧ VG (name.length + 1) vs j acc ∧ acc.length = j)) (fun _ v41 _ => vs.length - (intOf v41).toNat)
  case atStart => exact ⟨0, [], .slice none 0 0, by simp [lenB], rfl, by omega, by omega, ⟨HW.out, VG.start _ _, rfl⟩⟩
  case round =>
    obtain ⟨j, acc, v, rfl, rfl, hjn, hj64, hrel⟩ := hrel
    clear HW
    have g0 : (0 : Int) ≤ (j : Int) := by omega
    by_cases hlt : j < vs.length
    · have hlt' : (j : Int) < (vs.length : Int) := by omega
      have d0 : wr.cell? ⟨gl, j, none⟩ = some (.string ⟨vs[j].toArray⟩) := by
        obtain ⟨b, off, e, hc⟩ := hrel.out.1.pcs_ j _ (ostrsV_get vs hlt)
        injection e with e
        injection e with e1 e2
        subst e1 e2
        rw [Nat.zero_add] at hc
        exact hc
      have hTs := Str.mk vs[j]
      generalize (⟨vs[j].toArray⟩ : ByteArray) = T at hTs d0
      have hvj := lenB_all vs hlt
      have hvz := HV.out.2.2
      have hTz : (T.size : Int) = (vs[j].length : Int) := by rw [hTs.size]
      obtain ⟨d, c, a, hd⟩ : ∃ d c a, Dc.parse vs[j] = (d, c, a) := ⟨_, _, _, rfl⟩
      have HD0 := Lib.hid (fun W => (Dc.parse_calls T _ hTs (by omega) W).mono fun _ _ k => oparses_says hd k)
      obtain ⟨bt, hbt⟩ : ∃ n, lenB (vs.take j) = n := ⟨_, rfl⟩
      obtain ⟨vl, hvlj⟩ : ∃ n, vs[j].length = n := ⟨_, rfl⟩
      have HD := Lib.hid (And.intro hd (And.intro hbt hvlj))
      rw [hbt, hvlj] at hvj
      rw [hvlj] at hTz
      rw [hbt]
      have gbt : (0 : Int) ≤ (bt : Int) ∧ (bt : Int) ≤ 8193 ∧ (0 : Int) ≤ (vl : Int) ∧ (vl : Int) ≤ 8193 := by omega
      clear hd hTs hvj hvz hbt hvlj
      go_wp2_with fail
      refine (HD0.out _).mono ?_
      rintro e w3 ⟨rfl, hb⟩
      have HV3 := Lib.hid (((hrel.out.1.next hb).alloc (.cells #[.bool d.neg, .int .u64 d.c, .int .i64 d.e] 51)).alloc (.cells #[.int .i64 c, .int .i64 a] 42))
      have HG := Lib.hid hrel.out.2
      obtain ⟨r0, r1, s0, s1⟩ := HV3.out.mem (.head _)
      obtain ⟨c0, c1, c2, c3, c4, c5⟩ := VsI.six HV3.out
      have e0 := (Box.new w3 51 [.bool d.neg, .int .u64 d.c, .int .i64 d.e]).alloc (.cells #[.int .i64 c, .int .i64 a] 42)
      have q0 := e0.cell 0
      have q1 := e0.cell 1
      have q2 := e0.cell 2
      have e1 := Box.new (w3.alloc (.cells #[.bool d.neg, .int .u64 d.c, .int .i64 d.e] 51)) 42 [.int .i64 c, .int .i64 a]
      rw [size_alloc] at e1
      have q3 := e1.cell 0
      have q4 := e1.cell 1
      simp only [List.getElem?_cons_zero, List.getElem?_cons_succ] at q0 q1 q2 q3 q4
      have f2 := HV3.out.box.frozen 2
      obtain ⟨A0, ca0, e0', -, -, -, -⟩ := own_slice HV3.out.own
      subst e0'
      clear e0 e1 hb HD0 hrel
      have HEB := Lib.hid (show (c ≠ 0 ∨ 64 < j + 1) → x = (true, 17, (name.length : Int) + 1 + (bt : Int), firstM l) from fun hbad => by
        have : firstF l = (17, (name.length : Int) + 1 + (bt : Int)) := by
          unfold firstF
          rw [HV.out.1]
          simp only
          rw [HNT.out, if_neg (by decide), if_neg HV.out.2.1, HG.out.1.bad hlt (by rw [HD.out.1]; exact hbad), HD.out.2.1]
          simp only [Prod.mk.injEq, true_and]
          omega
        rw [HX.out, this])
      by_cases hbad : c ≠ 0
      · have HE := Lib.hid (HEB.out (.inl hbad))
        have HT := Lib.hid (HV3.out.told (.head _) (.int .i64 17) (.int .i64 ((name.length : Int) + 1 + (bt : Int))))
        have hcb : (c != 0) = true := by simpa using hbad
        clear hbad HEB
        go_wp2_with fail
        refine ret_vf rfl rfl rfl rfl HT.out.1 ?_
        exact methP_of HE.out HT.out.2 fun h => absurd h (by decide)
      · obtain ⟨rfl, rfl⟩ : c = 0 ∧ a = 0 := by
          have hc0 : c = 0 := by omega
          obtain ⟨d', e', _⟩ := parse_zero (v := vs[j]) (by rw [HD.out.1]; exact hc0)
          rw [HD.out.1] at e'
          injection e' with _ e'
          injection e' with h1 h2
          exact ⟨h1, h2⟩
        clear hbad
        by_cases h64 : 64 ≤ j
        · have HE := Lib.hid (HEB.out (.inr (by omega)))
          have HT := Lib.hid (HV3.out.told (.head _) (.int .i64 17) (.int .i64 ((name.length : Int) + 1 + (bt : Int))))
          have g64 : acc.length = 64 := by have := HG.out.2; omega
          clear HEB
          rw [g64] at c2
          go_wp2_with fail
          refine ret_vf rfl rfl rfl rfl HT.out.1 ?_
          exact methP_of HE.out HT.out.2 fun h => absurd h (by decide)
        · have g64 : (((acc.length : Nat) : Int) == 64) = false := by have := HG.out.2; simp; omega
          have HE := Lib.hid (show VG (name.length + 1) vs (j + 1) (acc ++ [d]) by
            have := HG.out.1.ok hlt (by rw [HD.out.1]; rintro (h | h); exact h rfl; omega)
            rwa [HD.out.1] at this)
          have hds : w3.heap.size < ((w3.alloc (.cells #[.bool d.neg, .int .u64 d.c, .int .i64 d.e] 51)).alloc (.cells #[.int .i64 0, .int .i64 0] 42)).heap.size := by simp only [size_alloc]; omega
          clear HEB
          go_wp2_with fail
          clear r0 r1 s0 s1 c0 c1 c3 c4 c5 q3 q4
          generalize ((w3.alloc (.cells #[.bool d.neg, .int .u64 d.c, .int .i64 d.e] 51)).alloc (.cells #[.int .i64 0, .int .i64 0] 42)) = W4 at HV3 c2 q0 q1 q2 f2 hds ⊢
          generalize w3.heap.size = gd at q0 q1 q2 hds ⊢
          have HV4 := Lib.hid (HV3.out.drew.alloc (.cells #[.bool d.neg, .int .u64 d.c, .int .i64 d.e] 51))
          have HL4 := Lib.hid (decs_at (w := W4.drew) (n := W4.heap.size) rfl (Dl.mk_ d))
          have hgl4 : g < W4.heap.size := HV3.out.box.lt
          have gacc : acc.length ≤ 64 := by have := HG.out.2; omega
          go_region_law (refine step_append_rows _ rowDec rfl (.tmp 69) (.tmp 71) rfl B (.slice A0 acc.length ca0) acc.length (flatD acc) rfl HV4.out.own (some ⟨W4.heap.size, 0, none⟩) 1 1 (flatD [d]) rfl rfl HL4.out flatD_cells (by omega) HV4.out.hi ?_; intro v5 w5 hown5 hgr5 hob5; obtain ⟨A5, ca5, e5, -, -, -, -⟩ := own_slice hown5; subst e5; rw [← flatD_append] at hown5; have HO5 := Lib.hid (And.intro hgr5 hown5); have hbx5 := grown_box hgr5 HV4.out.box (fun k hk => (by have := HV4.out.base k hk; have := HV4.out.lo; have := HV4.out.lt; omega)); have c2 : w5.cell? ⟨g, 2, none⟩ = some (.slice A0 acc.length ca0) := hbx5.cell 2; have f2 := hbx5.frozen 2; clear hgr5 hown5 hob5 hbx5)
          all_goals
            go_wp2_with fail
            refine ⟨⟨j + 1, acc ++ [d], .slice A5 (acc.length + 1) ca5, ?_, by go_num, by omega, by omega, ⟨?_, HE.out, by rw [List.length_append, HG.out.2]; rfl⟩⟩, by simp [intOf]; omega⟩
            · have h1 := lenB_take vs hlt
              rw [HD.out.2.1, HD.out.2.2] at h1
              rw [h1]
              first | go_num | (congr 1; omega)
            · rw [List.length_append]
              exact HV4.out.push HO5.out.1 HO5.out.2
    · have hlt' : ¬ (j : Int) < (vs.length : Int) := by omega
      obtain ⟨r0, r1, s0, s1⟩ := hrel.out.1.mem (.head _)
      have hok : FirstOk l name acc := ⟨vs, HV.out.1, HNT.out, HV.out.2.1, hrel.out.2.1.end_ hlt⟩
      obtain ⟨k1, k2⟩ := firstM_ok hok
      have HE := Lib.hid (show x = (true, 0, 0, ⟨name, 0, acc, 1000000, [], 0⟩) by rw [HX.out, k1, k2])
      have HF := Lib.hid (hrel.out.1.fin2 (.head _) 0 0 HP.out.1)
      have HT := Lib.hid (hrel.out.1.told (.head _) (.int .i64 0) (.int .i64 0))
      clear hrel hok k1 k2
      go_wp2_with fail
      refine ret_vf rfl rfl rfl rfl HT.out.1 ?_
      exact methP_of HE.out HT.out.2 fun _ => HF.out
end Go.Proofs.YtbcmchkgamkceaaGreatDoor

/-
  Package dog: Parse. No statement of the seat is proved here.
-/
namespace Go.Proofs.YtbcmchkgamkceaaGreatDoor
open Go.RowKit
open Dc (D D0)

set_option maxRecDepth 100000 in
set_option maxHeartbeats 4000000 in
theorem ofail_calls (c a : Int) (w : World) : Calls Tryz.prog 36 #[.int .i64 c, .int .i64 a] w fun e w' => e = .returned (.tuple #[.agg #[.string ⟨#[]⟩, .int .i64 0, .slice none 0 0, .int .i64 0, .slice none 0 0, .int .i64 0], .agg #[.int .i64 c, .int .i64 a]]) ∧ Below w.heap.size w w' := by
  have HB := Lib.hid (((Kb.start w).push 35 [.string ⟨#[]⟩, .int .i64 0, .slice none 0 0, .int .i64 0, .slice none 0 0, .int .i64 0]).pushAt (g := w.heap.size + 1) (by rw [size_alloc]) 42 [.int .i64 c, .int .i64 a])
  go_enter Tryz.func36, Tryz.ntmps36
  go_wp2_with fail
  refine ret_mf (g := w.heap.size) (g' := w.heap.size + 1) rfl rfl rfl rfl (HB.out.box (_, _, _) (.tail _ (.head _))) (HB.out.box (_, _, _) (.head _)) ?_
  exact ⟨rfl, HB.out.kept⟩

/-- What comes of a piece for all pieces. -/
def contT (k n : Nat) (ps : List (List UInt8)) : (Int × Int) ⊕ (Nat × Mt) → (Int × Int) ⊕ Mt
  | .inl e => .inl (e.1, (k : Int) + e.2)
  | .inr y => runT (k + n + 1) y.1 y.2 ps
theorem runT_cons (k j : Nat) (m : Mt) (p : List UInt8) (ps : List (List UInt8)) : runT k j m (p :: ps) = contT k p.length ps (innerT (5 - j) j m p) := by
  rw [runT]
  cases innerT (5 - j) j m p <;> rfl
/-- The row of method values; r: where the metric lies that they read into. -/
def fnM (j : Nat) : Nat := 37 + j
def rowF (r : Nat) : List Value := [.func (.func 37) #[.pointer (some ⟨r, 0, none⟩)] #[], .func (.func 38) #[.pointer (some ⟨r, 0, none⟩)] #[], .func (.func 39) #[.pointer (some ⟨r, 0, none⟩)] #[], .func (.func 40) #[.pointer (some ⟨r, 0, none⟩)] #[], .func (.func 41) #[.pointer (some ⟨r, 0, none⟩)] #[]]
theorem rowF_get (r : Nat) : ∀ {j : Nat}, j < 5 → (rowF r)[j]? = some (.func (.func (fnM j)) #[.pointer (some ⟨r, 0, none⟩)] #[])
  | 0, _ => rfl
  | 1, _ => rfl
  | 2, _ => rfl
  | 3, _ => rfl
  | 4, _ => rfl
  | n + 5, h => absurd h (by omega)
theorem meth_enter : ∀ {j : Nat}, j < 5 → ∀ (args : Array Value) (w : World), (callFunc (fnM j) args).run Tryz.prog w = .ok (.enter (fnM j) args) w
  | 0, _, _, _ => by kernel_rfl
  | 1, _, _, _ => by kernel_rfl
  | 2, _, _, _ => by kernel_rfl
  | 3, _, _, _ => by kernel_rfl
  | 4, _, _, _ => by kernel_rfl
  | n + 5, h, _, _ => absurd h (by omega)
/-- What lies while a line is read: what is told, the metric, the row, what is wrong, the pieces. -/
structure PsI (w W : World) (ps : List (List UInt8)) (m : Mt) (j : Nat) (c a : Int) : Prop where
  res : ResS w W
  rd : c = 0 → Rd 67 W (w.heap.size + 2) m
  ini : j = 0 → Box W (w.heap.size + 2) 67 [.string ⟨#[]⟩, .int .i64 0, .slice none 0 0, .int .i64 1000000, .slice none 0 0, .int .i64 0]
  row : Box W (w.heap.size + 3) 68 (rowF (w.heap.size + 2))
  wrn : Box W (w.heap.size + 4) 42 [.int .i64 c, .int .i64 a]
  pcs : Box W (w.heap.size + 5) 9 (ostrsV ps)
section
variable {w W W' : World} {ps : List (List UInt8)} {m m' : Mt} {j j' : Nat} {c a c' a' : Int}
theorem PsI.start (w : World) (ps : List (List UInt8)) : PsI w ((((((w.alloc (.cells #[.string ⟨#[]⟩, .int .i64 0, .slice none 0 0, .int .i64 0, .slice none 0 0, .int .i64 0] 35)).alloc (.cells #[.int .i64 0, .int .i64 0] 42)).alloc (.cells #[.string ⟨#[]⟩, .int .i64 0, .slice none 0 0, .int .i64 1000000, .slice none 0 0, .int .i64 0] 67)).alloc (.cells (rowF (w.heap.size + 2)).toArray 68)).alloc (.cells #[.int .i64 0, .int .i64 0] 42)).alloc (.cells (ostrsV ps).toArray 9)) ps M1 0 0 0 := by
  have h0 := ResS.start w
  have hz : ((w.alloc (.cells #[.string ⟨#[]⟩, .int .i64 0, .slice none 0 0, .int .i64 0, .slice none 0 0, .int .i64 0] 35)).alloc (.cells #[.int .i64 0, .int .i64 0] 42)).heap.size = w.heap.size + 2 := by rw [size_alloc, size_alloc]
  generalize ((w.alloc (.cells #[.string ⟨#[]⟩, .int .i64 0, .slice none 0 0, .int .i64 0, .slice none 0 0, .int .i64 0] 35)).alloc (.cells #[.int .i64 0, .int .i64 0] 42)) = W at h0 hz ⊢
  have b1 := Box.new W 67 [.string ⟨#[]⟩, .int .i64 0, .slice none 0 0, .int .i64 1000000, .slice none 0 0, .int .i64 0]
  have b2 := Box.new (W.alloc (.cells #[.string ⟨#[]⟩, .int .i64 0, .slice none 0 0, .int .i64 1000000, .slice none 0 0, .int .i64 0] 67)) 68 (rowF (w.heap.size + 2))
  have b3 := Box.new ((W.alloc (.cells #[.string ⟨#[]⟩, .int .i64 0, .slice none 0 0, .int .i64 1000000, .slice none 0 0, .int .i64 0] 67)).alloc (.cells (rowF (w.heap.size + 2)).toArray 68)) 42 [.int .i64 0, .int .i64 0]
  have b4 := Box.new (((W.alloc (.cells #[.string ⟨#[]⟩, .int .i64 0, .slice none 0 0, .int .i64 1000000, .slice none 0 0, .int .i64 0] 67)).alloc (.cells (rowF (w.heap.size + 2)).toArray 68)).alloc (.cells #[.int .i64 0, .int .i64 0] 42)) 9 (ostrsV ps)
  simp only [size_alloc, hz, Nat.add_assoc, Nat.reduceAdd] at b1 b2 b3 b4
  have b1' := ((b1.alloc (.cells (rowF (w.heap.size + 2)).toArray 68)).alloc (.cells #[.int .i64 0, .int .i64 0] 42)).alloc (.cells (ostrsV ps).toArray 9)
  exact ⟨(((h0.alloc _).alloc _).alloc _).alloc _, fun _ => ⟨_, none, 0, 0, none, 0, 0, b1', rfl, rfl, Decs.nil, rfl, Tags.nil⟩, fun _ => b1', (b2.alloc _).alloc _, b3.alloc _, b4⟩
theorem PsI.wcells (h : PsI w W ps m j c a) : W.cell? ⟨w.heap.size + 4, 0, none⟩ = some (.int .i64 c) ∧ W.cell? ⟨w.heap.size + 4, 1, none⟩ = some (.int .i64 a) ∧ W.frozen? ⟨w.heap.size + 4, 0, none⟩ = false ∧ W.frozen? ⟨w.heap.size + 4, 1, none⟩ = false :=
  ⟨h.wrn.cell 0, h.wrn.cell 1, h.wrn.frozen 0, h.wrn.frozen 1⟩
theorem PsI.piece (h : PsI w W ps m j c a) {i : Nat} (hi : i < ps.length) : W.cell? ⟨w.heap.size + 5, i, none⟩ = some (.string ⟨ps[i].toArray⟩) := by rw [h.pcs.cell]; exact ostrsV_get ps hi
theorem PsI.turn (h : PsI w W ps m j c a) {i : Nat} (hi : i < 5) : W.cell? ⟨w.heap.size + 3, i, none⟩ = some (.func (.func (fnM i)) #[.pointer (some ⟨w.heap.size + 2, 0, none⟩)] #[]) := by rw [h.row.cell]; exact rowF_get _ hi
/-- What a method leaves, before what is wrong is stored. -/
theorem PsI.mid (h : PsI w W ps m j c a) (hk : But (w.heap.size + 2) W W') : W'.cell? ⟨w.heap.size + 4, 0, none⟩ = some (.int .i64 c) ∧ W'.cell? ⟨w.heap.size + 4, 1, none⟩ = some (.int .i64 a) ∧ W'.frozen? ⟨w.heap.size + 4, 0, none⟩ = false ∧ W'.frozen? ⟨w.heap.size + 4, 1, none⟩ = false :=
  have b := h.wrn.but hk (by omega)
  ⟨b.cell 0, b.cell 1, b.frozen 0, b.frozen 1⟩
theorem PsI.wrong (h : PsI w W ps m j c a) (hk : But (w.heap.size + 2) W W') (hr : c' = 0 → Rd 67 W' (w.heap.size + 2) m') (hj : j' ≠ 0) : PsI w ((W'.setCell ⟨w.heap.size + 4, 0, none⟩ (.int .i64 c')).setCell ⟨w.heap.size + 4, 1, none⟩ (.int .i64 a')) ps m' j' c' a' := by
  have bw := h.wrn.but hk (by omega)
  have bw1 : Box (W'.setCell ⟨w.heap.size + 4, 0, none⟩ (.int .i64 c')) (w.heap.size + 4) 42 [.int .i64 c', .int .i64 a] := bw.set 0 _
  have hlt := h.row.lt
  have hkk : Below w.heap.size w W' := h.res.kept.trans (hk.below (by omega) (by omega))
  refine ⟨⟨((h.res.one.but hk (by omega)).far (q := ⟨w.heap.size + 4, 0, none⟩) (by show w.heap.size ≠ w.heap.size + 4; omega) _).far (q := ⟨w.heap.size + 4, 1, none⟩) (by show w.heap.size ≠ w.heap.size + 4; omega) _, ((h.res.two.but hk (by omega)).far (q := ⟨w.heap.size + 4, 0, none⟩) (by show w.heap.size + 1 ≠ w.heap.size + 4; omega) _).far (q := ⟨w.heap.size + 4, 1, none⟩) (by show w.heap.size + 1 ≠ w.heap.size + 4; omega) _, below_set (below_set hkk (by omega) 0 _) (by omega) 1 _⟩, fun hc => ?_, fun h0 => absurd h0 hj, ((h.row.but hk (by omega)).far (q := ⟨w.heap.size + 4, 0, none⟩) (by show w.heap.size + 3 ≠ w.heap.size + 4; omega) _).far (q := ⟨w.heap.size + 4, 1, none⟩) (by show w.heap.size + 3 ≠ w.heap.size + 4; omega) _, bw1.set 1 _, ((h.pcs.but hk (by omega)).far (q := ⟨w.heap.size + 4, 0, none⟩) (by show w.heap.size + 5 ≠ w.heap.size + 4; omega) _).far (q := ⟨w.heap.size + 4, 1, none⟩) (by show w.heap.size + 5 ≠ w.heap.size + 4; omega) _⟩
  obtain ⟨s, A, n, ca, B, k, cb, hb, hm⟩ := hr hc
  exact ⟨s, A, n, ca, B, k, cb, (hb.far (q := ⟨w.heap.size + 4, 0, none⟩) (by show w.heap.size + 2 ≠ w.heap.size + 4; omega) _).far (q := ⟨w.heap.size + 4, 1, none⟩) (by show w.heap.size + 2 ≠ w.heap.size + 4; omega) _, hm.name, hm.vlen, (hm.vals.set_fault bw 0 _).set_fault bw1 1 _, hm.tlen, (hm.tags.set_fault bw 0 _).set_fault bw1 1 _⟩
/-- A turn's method. -/
theorem PsI.meth (h : PsI w W ps m j 0 a) (hj : j < 5) {p : ByteArray} {q : List UInt8} (hs : Str p q) (hl : q.length ≤ 8192) :
    Calls Tryz.prog (fnM j) #[.pointer (some ⟨w.heap.size + 2, 0, none⟩), .string p] W (MethP 67 W (w.heap.size + 2) (stepT j m q)) := by
  rcases (by omega : j = 0 ∨ j = 1 ∨ j = 2 ∨ j = 3 ∨ j = 4) with rfl | rfl | rfl | rfl | rfl
  · exact mvalues_calls (h.ini rfl) hs hl
  · exact mword_calls (h.rd rfl) hs
  · exact mrate_calls (h.rd rfl) hs hl
  · exact mtags_calls (h.rd rfl) hs hl
  · exact mtime_calls (h.rd rfl) hs hl
end

theorem PutMF.faultD {w W : World} {g g' : Nat} {c a : Int} (h : PutMF w W g g' ⟨#[]⟩ none 0 0 none 0 0 M0 c a) {x : Mt × Int × Int} (hx : x = (M0, c, a)) :
    TellsM w x (.returned (.tuple #[.agg #[.string ⟨#[]⟩, .int .i64 0, .slice none 0 0, .int .i64 0, .slice none 0 0, .int .i64 0], .agg #[.int .i64 c, .int .i64 a]])) W := by
  subst hx
  exact ⟨_, _, _, _, _, _, _, rfl, h.met, h.kept⟩
theorem PutMF.toldD {w W : World} {g g' : Nat} {s : ByteArray} {A B : Option Addr} {n ca k cb : Nat} {m : Mt} (h : PutMF w W g g' s A n ca B k cb m 0 0) {x : Mt × Int × Int} (hx : x = (m, 0, 0)) :
    TellsM w x (.returned (.tuple #[.agg #[.string s, .int .i64 m.kind, .slice A n ca, .int .i64 m.rate, .slice B k cb, .int .i64 m.time], .agg #[.int .i64 0, .int .i64 0]])) W := by
  subst hx
  exact ⟨_, _, _, _, _, _, _, rfl, h.met, h.kept⟩

set_option maxRecDepth 100000 in
set_option maxHeartbeats 4000000 in
theorem oparse_calls {s : ByteArray} {l : List UInt8} (hs : Str s l) (hl : l.length ≤ 8192) (w : World) : Calls Tryz.prog 18 #[.string s] w (TellsM w (parseP l)) := by
  have hmf : ∀ (fn : Fn) (first cap : Array Value) (w : World), (Instr.makeFunc fn first cap).run Tryz.prog w = .ok (.func fn first cap) w := fun _ _ _ _ => rfl
  obtain ⟨x, hx⟩ : ∃ x, parseP l = x := ⟨_, rfl⟩
  rw [hx]
  unfold parseP at hx
  rw [if_neg (by omega)] at hx
  obtain ⟨ps, hps⟩ : ∃ ps, cutsB 124 l = ps := ⟨_, rfl⟩
  obtain ⟨R, hR⟩ : ∃ R, runT 0 0 M1 (cutsB 124 l) = R := ⟨_, rfl⟩
  have hsum := lenB_cuts 124 l
  have hsz : (s.size : Int) = (l.length : Int) := by rw [hs.size]
  have HC := Lib.hid (fun W => split_calls hs (by omega) 124 W)
  rw [hR] at hx
  rw [hps] at hR HC hsum
  have HX := Lib.hid (And.intro hx (And.intro hR hsum))
  have hpn : ps.length ≤ 8193 := by have := length_lenB ps; omega
  have gl : ¬ 8192 < (l.length : Int) := by omega
  have gl0 : (0 : Int) ≤ (l.length : Int) := by omega
  have HS := Lib.hid (PsI.start w ps)
  clear hs hx hps hR hsum
  go_enter Tryz.func18, Tryz.ntmps18
  go_wp2_with fail
  go_step3
  go_wp2_with fail
  go_step3
  go_wp2_with fail
  refine (HC.out _).mono ?_
  rintro e w1 ⟨rfl, rfl⟩
  simp only [size_alloc, Nat.add_assoc, Nat.reduceAdd]
  generalize decide (8192 < (l.length : Int)) = b8
  have HS2 := Lib.hid (show PsI w ((((((w.alloc (.cells #[.string ⟨#[]⟩, .int .i64 0, .slice none 0 0, .int .i64 0, .slice none 0 0, .int .i64 0] 35)).alloc (.cells #[.int .i64 0, .int .i64 0] 42)).alloc (.cells #[.string ⟨#[]⟩, .int .i64 0, .slice none 0 0, .int .i64 1000000, .slice none 0 0, .int .i64 0] 67)).alloc (.cells #[.func (.func 37) #[.pointer (some ⟨w.heap.size + 2, 0, none⟩)] #[], .func (.func 38) #[.pointer (some ⟨w.heap.size + 2, 0, none⟩)] #[], .func (.func 39) #[.pointer (some ⟨w.heap.size + 2, 0, none⟩)] #[], .func (.func 40) #[.pointer (some ⟨w.heap.size + 2, 0, none⟩)] #[], .func (.func 41) #[.pointer (some ⟨w.heap.size + 2, 0, none⟩)] #[]] 68)).alloc (.cells #[.int .i64 0, .int .i64 0] 42)).alloc (.cells (ostrsV ps).toArray 9)) ps M1 0 0 0 from HS.out)
  generalize World.alloc (World.alloc _ (.cells #[.int .i64 0, .int .i64 0] 42)) (.cells (ostrsV ps).toArray 9) = W1 at HS2 ⊢
  clear HS HC gl
  have hfc := ofield_code
  go_wp2_with fail
  go_loopw [6, 7, 36] (fun v6 v7 v36 wr => ∃ (i j at_ : Nat) (m : Mt) (a : Int), v6 = .int .i64 (j : Int) ∧ v7 = .int .i64 (at_ : Int) ∧ v36 = .int .i64 (i : Int) ∧ i ≤ ps.length ∧ j ≤ 5 ∧ at_ = lenB (ps.take i) ∧ Hid (PsI w wr ps m j 0 a ∧ runT at_ j m (ps.drop i) = R)) (fun _ _ v36 _ => ps.length - (intOf v36).toNat)
  case atStart => exact ⟨0, 0, 0, M1, 0, rfl, rfl, rfl, by omega, by omega, rfl, ⟨HS2.out, HX.out.2.1⟩⟩
  case round =>
    obtain ⟨i, j, at_, m, a, rfl, rfl, rfl, hin, hj5, hat, hrel⟩ := hrel
    clear HS2
    by_cases hlt : i < ps.length
    · have hlt' : (i : Int) < (ps.length : Int) := by omega
      have d0 := hrel.out.1.piece hlt
      have hTs := Str.mk ps[i]
      generalize (⟨ps[i].toArray⟩ : ByteArray) = T at hTs d0
      have hpl := lenB_all ps hlt
      have hall := HX.out.2.2
      have hTz : (T.size : Int) = (ps[i].length : Int) := by rw [hTs.size]
      obtain ⟨I, hI⟩ : ∃ I, innerT (5 - j) j m ps[i] = I := ⟨_, rfl⟩
      have HR := Lib.hid (show contT at_ ps[i].length (ps.drop (i + 1)) I = R by
        have := hrel.out.2
        rw [List.drop_eq_getElem_cons hlt, runT_cons, hI] at this
        exact this)
      have HP := Lib.hid (And.intro hTs (show ps[i].length ≤ 8192 by omega))
      have HS3 := Lib.hid hrel.out.1
      have HI := Lib.hid hI
      have gpl : (0 : Int) ≤ (ps[i].length : Int) ∧ (ps[i].length : Int) ≤ 8192 := by omega
      have gat : (0 : Int) ≤ (at_ : Int) ∧ (at_ : Int) ≤ 8193 ∧ (0 : Int) ≤ (i : Int) := by omega
      have HAT := Lib.hid (And.intro hat (And.intro hpl hall))
      clear hrel hTs hI hat hpl hall
      obtain ⟨wo, hwo⟩ : ∃ wo, wo = wr := ⟨_, rfl⟩
      subst hwo
      go_wp2_with fail
      go_loopw [6, 11] (fun v6 v11 wr => ∃ (j' : Nat) (own : Bool) (m' : Mt) (a' : Int), v6 = .int .i64 (j' : Int) ∧ v11 = .bool own ∧ j' ≤ 5 ∧ Hid (PsI w wr ps m' j' 0 a' ∧ (if own = true then I = .inr (j', m') else innerT (5 - j') j' m' ps[i] = I))) (fun v6 _ _ => 6 - (intOf v6).toNat)
      case atStart => exact ⟨j, false, m, a, rfl, rfl, hj5, ⟨HS3.out, HI.out⟩⟩
      case round =>
        obtain ⟨j', own, m', a', rfl, rfl, hj', hrel⟩ := hrel
        clear HS3 HI
        have gj : (0 : Int) ≤ (j' : Int) := by omega
        cases own
        · have HI2 := Lib.hid (show innerT (5 - j') j' m' ps[i] = I from hrel.out.2)
          have HS4 := Lib.hid hrel.out.1
          clear hrel
          obtain ⟨x0, x1, y0, y1⟩ := HS4.out.wcells
          by_cases h5 : j' = 5
          · subst h5
            have HE := Lib.hid (show R = .inl (11, (at_ : Int)) by
              rw [← HR.out, ← HI2.out]
              show Sum.inl (11, (at_ : Int) + 0) = _
              rw [Int.add_zero])
            have HW := Lib.hid ((HS4.out.wrong (c' := 11) (a' := 0) (m' := m') (j' := 5) (But.refl _ _) (fun h => absurd h (by decide)) (by decide)).res)
            clear HS4
            go_wp2_with fail
            refine (ofail_calls 11 (at_ : Int) _).mono ?_
            rintro e wF ⟨rfl, hbF⟩
            have HRF := Lib.hid (HW.out.next hbF)
            have HPF := Lib.hid (HRF.out.fault 11 (at_ : Int))
            obtain ⟨c0, c1, c2, c3, c4, c5, c6, c7⟩ := HRF.out.cells
            obtain ⟨f0, f1, f2, f3, f4, f5, f6, f7⟩ := HRF.out.frozen
            clear hbF HRF HW
            go_wp2_with fail
            try rw [Exit.noGoto_ret]
            refine ret_mf rfl rfl rfl rfl HPF.out.one HPF.out.two ?_
            exact HPF.out.faultD (by rw [← HX.out.1, HE.out]; rfl)
          · have h5' : ((j' : Int) == 5) = false := by simp; omega
            have hj4 : j' < 5 := by omega
            have t0 := HS4.out.turn hj4
            have hen := meth_enter hj4
            have HC := Lib.hid (HS4.out.meth hj4 HP.out.1 HP.out.2)
            obtain ⟨o, c', a2, m2, hst⟩ : ∃ o c' a2 m2, stepT j' m' ps[i] = (o, c', a2, m2) := ⟨_, _, _, _, rfl⟩
            rw [hst] at HC
            have HST := Lib.hid hst
            clear hst
            go_wp2_with fail
            refine HC.out.mono ?_
            rintro e w4 ⟨rfl, hbut, hrd⟩
            simp only at hrd
            obtain ⟨z0, z1, z2, z3⟩ := HS4.out.mid hbut
            have HW := Lib.hid (HS4.out.wrong (a' := a2) (j' := j' + 1) hbut hrd (by omega))
            clear hbut hrd HC HS4 x0 x1 y0 y1 t0 hen
            obtain ⟨v0, v1, v2, v3⟩ := HW.out.wcells
            by_cases hc : c' = 0
            · subst hc
              go_wp2_with fail
              refine ⟨⟨j' + 1, o, m2, a2, by go_num, rfl, by omega, ⟨HW.out, ?_⟩⟩, by simp [intOf]; omega⟩
              have hi := HI2.out
              rw [show 5 - j' = (4 - j') + 1 by omega] at hi
              cases o
              · rw [if_neg (by decide), ← hi]
                have hm := stepT_no HST.out
                subst hm
                rw [innerT_succ, HST.out, if_neg (fun h => h rfl), if_neg (by simp), show 5 - (j' + 1) = 4 - j' by omega]
              · rw [if_pos rfl, ← hi, innerT_yes HST.out]
            · have hcb : (c' != 0) = true := by simpa using hc
              have HE := Lib.hid (show R = .inl (c', (at_ : Int) + a2) by
                rw [← HR.out, ← HI2.out, show 5 - j' = (4 - j') + 1 by omega, innerT_bad HST.out hc]; rfl)
              have HWR := Lib.hid HW.out.res
              have ga2 : 0 ≤ a2 ∧ a2 ≤ 8193 := by
                have := stepT_at j' m' ps[i]
                rw [HST.out] at this
                simp only at this
                omega
              clear hc HW
              go_wp2_with fail
              refine (ofail_calls c' ((at_ : Int) + a2) _).mono ?_
              rintro e wF ⟨rfl, hbF⟩
              have HRF := Lib.hid (HWR.out.next hbF)
              have HPF := Lib.hid (HRF.out.fault c' ((at_ : Int) + a2))
              obtain ⟨c0, c1, c2, c3, c4, c5, c6, c7⟩ := HRF.out.cells
              obtain ⟨f0, f1, f2, f3, f4, f5, f6, f7⟩ := HRF.out.frozen
              clear hbF HRF HWR v0 v1 v2 v3 z0 z1 z2 z3
              go_wp2_with fail
              try rw [Exit.noGoto_ret]
              refine ret_mf rfl rfl rfl rfl HPF.out.one HPF.out.two ?_
              exact HPF.out.faultD (by rw [← HX.out.1, HE.out]; rfl)
        · have HI2 := Lib.hid (show I = .inr (j', m') from hrel.out.2)
          have HE := Lib.hid (show runT (at_ + ps[i].length + 1) j' m' (ps.drop (i + 1)) = R by rw [← HR.out, HI2.out]; rfl)
          go_wp2_with fail
          refine ⟨⟨i + 1, j', at_ + ps[i].length + 1, m', a', rfl, by go_num, by go_num, by omega, by omega, ?_, ⟨hrel.out.1, HE.out⟩⟩, by simp [intOf]; omega⟩
          rw [lenB_take ps hlt, ← HAT.out.1]
    · have hlt' : ¬ (i : Int) < (ps.length : Int) := by omega
      have HE := Lib.hid (show R = .inr m by
        have := hrel.out.2
        rw [List.drop_eq_nil_of_le (by omega), runT] at this
        exact this.symm)
      have HS3 := Lib.hid hrel.out.1
      clear hrel
      obtain ⟨x0, x1, y0, y1⟩ := HS3.out.wcells
      obtain ⟨sn, A, n, ca, B, k, cb, hbx, hmi⟩ := HS3.out.rd rfl
      have c0 := hbx.cell 0
      have c1 := hbx.cell 1
      have c2 := hbx.cell 2
      have c3 := hbx.cell 3
      have c4 := hbx.cell 4
      have c5 := hbx.cell 5
      simp only [List.getElem?_cons_zero, List.getElem?_cons_succ] at c0 c1 c2 c3 c4 c5
      by_cases hk : m.kind = 0
      · have hkb : (m.kind == 0) = true := by simpa using hk
        have HWR := Lib.hid HS3.out.res
        have HE2 := Lib.hid (show x = (M0, 11, (l.length : Int)) by
          rw [← HX.out.1, HE.out]
          show (if m.kind = 0 then _ else _) = _
          rw [if_pos hk])
        clear HS3 hbx hmi
        go_wp2_with fail
        refine (ofail_calls 11 (l.length : Int) _).mono ?_
        rintro e wF ⟨rfl, hbF⟩
        have HRF := Lib.hid (HWR.out.next hbF)
        have HPF := Lib.hid (HRF.out.fault 11 (l.length : Int))
        clear c0 c1 c2 c3 c4 c5
        obtain ⟨c0, c1, c2, c3, c4, c5, c6, c7⟩ := HRF.out.cells
        obtain ⟨f0, f1, f2, f3, f4, f5, f6, f7⟩ := HRF.out.frozen
        clear hbF HRF HWR
        go_wp2_with fail
        try rw [Exit.noGoto_ret]
        refine ret_mf rfl rfl rfl rfl HPF.out.one HPF.out.two ?_
        exact HPF.out.faultD HE2.out
      · have hkb : (m.kind == 0) = false := by simpa using hk
        have HE2 := Lib.hid (show x = (m, 0, 0) by
          rw [← HX.out.1, HE.out]
          show (if m.kind = 0 then _ else _) = _
          rw [if_neg hk])
        have HPF := Lib.hid (HS3.out.res.put hmi ca cb 0 0)
        obtain ⟨b0, b1, b2, b3, b4, b5, b6, b7⟩ := HS3.out.res.cells
        obtain ⟨f0, f1, f2, f3, f4, f5, f6, f7⟩ := HS3.out.res.frozen
        clear HS3 hbx hmi hk
        go_wp2_with fail
        try rw [Exit.noGoto_ret]
        refine ret_mf rfl rfl rfl rfl HPF.out.one HPF.out.two ?_
        exact HPF.out.toldD HE2.out
set_option maxRecDepth 100000 in
set_option maxHeartbeats 4000000 in
theorem oparse_long {s : ByteArray} {l : List UInt8} (hs : Str s l) (hl : 8192 < l.length) (hz : l.length ≤ 100000) (w : World) : Calls Tryz.prog 18 #[.string s] w (TellsM w (parseP l)) := by
  have hx : parseP l = (M0, 12, 0) := if_pos hl
  rw [hx]
  have hsz : (s.size : Int) = (l.length : Int) := by rw [hs.size]
  have HR := Lib.hid (ResS.start w)
  have gl : 8192 < (l.length : Int) := by omega
  clear hs hx
  go_enter Tryz.func18, Tryz.ntmps18
  go_wp2_with fail
  go_step3
  go_wp2_with fail
  refine (ofail_calls 12 0 _).mono ?_
  rintro e wF ⟨rfl, hbF⟩
  have HRF := Lib.hid (HR.out.next hbF)
  have HPF := Lib.hid (HRF.out.fault 12 0)
  obtain ⟨c0, c1, c2, c3, c4, c5, c6, c7⟩ := HRF.out.cells
  obtain ⟨f0, f1, f2, f3, f4, f5, f6, f7⟩ := HRF.out.frozen
  clear hbF HRF HR
  go_wp2_with fail
  try rw [Exit.noGoto_ret]
  refine ret_mf rfl rfl rfl rfl HPF.out.one HPF.out.two ?_
  exact HPF.out.faultD rfl
/-- Parse, of whatever text. -/
theorem oparse_any {s : ByteArray} {l : List UInt8} (hs : Str s l) (hz : l.length ≤ 100000) (w : World) : Calls Tryz.prog 18 #[.string s] w (TellsM w (parseD l)) := by
  rw [← parseP_is]
  rcases Nat.lt_or_ge 8192 l.length with h | h
  · exact oparse_long hs h hz w
  · exact oparse_calls hs h w
end Go.Proofs.YtbcmchkgamkceaaGreatDoor
