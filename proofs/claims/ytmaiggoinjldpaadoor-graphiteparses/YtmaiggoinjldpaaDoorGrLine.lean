/-
  Package graphite: Line. No statement of the seat is proved here.
-/
import Derived.Test.YtmaiggoinjldpaaDoorGrNRate
import Derived.Test.YtmaiggoinjldpaaDoorGrDRefDigits
import Derived.Test.YtmaiggoinjldpaaDoorDPointed
import Derived.Test.YtmaiggoinjldpaaDoorNText
namespace Go.Proofs.YtmaiggoinjldpaaDoor
open Go.RowKit
open Dc (D D0)

/-- What Line writes. -/
def lineGT (m : Mt) : List UInt8 := if metricE m 3 = 0 then lineG m else []
theorem metricE_saidG {m : Mt} (h : metricE m 3 = 0) : ∃ name d t, m = oneG name d t ∧ SaidG name d t := by
  unfold metricE at h
  rw [show known 3 = true from by decide] at h
  simp only [Bool.true_eq_false, if_false] at h
  by_cases hc : checkM m = 0
  · rw [if_neg (by simp [hc])] at h
    by_cases hs : saysM m 3 = false
    · rw [if_pos hs] at h; cases h
    · exact saidG_of hc (by simpa using hs)
  · rw [if_pos hc] at h
    exact absurd h hc
theorem SaidG.metricE {name : List UInt8} {d : D} {t : Int} (h : SaidG name d t) : metricE (oneG name d t) 3 = 0 := by
  obtain ⟨h1, h2, _⟩ := h.check
  unfold Go.Proofs.YtmaiggoinjldpaaDoor.metricE
  rw [show known 3 = true from by decide, h1, h2]
  rfl
theorem SaidG.one (name : List UInt8) (d : D) (t : Int) : (oneG name d t).name = name ∧ (oneG name d t).kind = 2 ∧ (oneG name d t).vals = [d] ∧ (oneG name d t).rate = 1000000 ∧ (oneG name d t).tags = [] ∧ (oneG name d t).time = t := ⟨rfl, rfl, rfl, rfl, rfl, rfl⟩
theorem timeG_len {t : Int} (h : 1 ≤ t ∧ t ≤ MaxT) : (Lib.decDigits t.toNat).length ≤ 20 := decDigits_len20 (by unfold MaxT at h; unfold Two64; omega)
theorem lineG_len {name : List UInt8} {d : D} {t : Int} (h : SaidG name d t) : (lineG (oneG name d t)).length ≤ 300 := by
  have h1 := name_bytes h.name
  have h2 := Dc.text_length h.val
  have h3 := timeG_len h.time
  rw [lineG_one]
  simp
  omega
/-- The pieces of a line, as they are put together. -/
theorem lineG_pieces {s v u : ByteArray} {name tv tw : List UInt8} (hs : Str s name) (hv : Str v tv) (hu : Str u tw) :
    Str (s ++ (⟨#[32]⟩ : ByteArray) ++ v ++ (⟨#[32]⟩ : ByteArray) ++ u) (name ++ 32 :: (tv ++ 32 :: tw)) := by
  have := (((hs.append (show Str ⟨#[32]⟩ [32] from rfl)).append hv).append (show Str ⟨#[32]⟩ [32] from rfl)).append hu
  simpa using this
theorem sizeG_add (a b : ByteArray) : (a ++ b).size = a.size + b.size := by simp

set_option maxRecDepth 100000 in
set_option maxHeartbeats 4000000 in
theorem gline_calls {w : World} {s : ByteArray} {A B : Option Addr} {n k ca cb : Nat} {m : Mt} (h : MIs w s A n B k m) (z : Small m) (ht : Tab w) :
    Calls Tryd.prog 12 #[.agg #[.string s, .int .i64 m.kind, .slice A n ca, .int .i64 m.rate, .slice B k cb, .int .i64 m.time]] w fun e w' => e = .returned (.tuple #[.string ⟨(lineGT m).toArray⟩, .int .i64 (metricE m 3)]) ∧ Below w.heap.size w w' := by
  have HB := Lib.hid (Kb.enter (ca := ca) (cb := cb) h)
  have HE0 := Lib.hid (fun W (hm : MIs W s A n B k m) => emetric_calls (w := W) (ca := ca) (cb := cb) hm z (f := 3) (show (Lit.int .i64 3).wf = true by decide))
  have HT := Lib.hid ht
  by_cases hq : metricE m 3 = 0
  · obtain ⟨name, d, t, rfl, hsd⟩ := metricE_saidG hq
    have hl : lineGT (oneG name d t) = lineG (oneG name d t) := by unfold lineGT; rw [if_pos hq]
    rw [hl, hq]
    simp only [hq] at HE0
    obtain ⟨o1, o2, o3, o4, o5, o6⟩ := SaidG.one name d t
    rw [o2, o4, o6] at HE0 HB ⊢
    have h1 : n = 1 := by have := h.vlen; rw [o3] at this; exact this.symm
    subst h1
    have hv : Decs w A [d] := by have := h.vals; rwa [o3] at this
    obtain ⟨b, off, x, y, zz, e1, _, _, _, hdl⟩ := hv.get (i := 0) (by simp)
    subst e1
    obtain ⟨rfl, rfl, rfl⟩ : x = d.neg ∧ y = (d.c : Int) ∧ zz = d.e := ⟨hdl.neg, hdl.c, hdl.e⟩
    have hns := h.name
    rw [o1] at hns
    have hnb := name_bytes hsd.name
    have hnz : (s.size : Int) ≤ 200 := by rw [hns.size]; omega
    have htl := Dc.text_length hsd.val
    have htm := timeG_len hsd.time
    have hmt : MaxT = 1099511627776 := rfl
    have htn : textN t = Lib.decDigits t.toNat ∧ errN t = 0 := by
      have := hsd.time
      exact ⟨by unfold textN; rw [if_neg (by omega)], by unfold errN; rw [if_neg (by omega)]⟩
    have hNT := fun W (hW : Tab W) => ntext_calls t (by have := hsd.time; omega) W hW
    unfold Told2 at hNT
    rw [htn.1, htn.2] at hNT
    have HN := Lib.hid hNT
    have HSD := Lib.hid (And.intro hsd (And.intro hns (And.intro htm (And.intro htl hv))))
    clear hl hq o1 o2 o3 o4 o5 o6 hv hdl hns hnb htl htm htn hNT hsd h z ht hmt
    go_enter Tryd.func12, Tryd.ntmps12
    obtain ⟨c0, c1, c2, c3, c4, c5⟩ := HB.out.six (.head _)
    go_wp2_with fail
    refine (HE0.out _ (HB.out.m (.head _))).mono ?_
    rintro e w1 ⟨rfl, hb⟩
    have HB1 := Lib.hid (HB.out.next hb)
    clear hb HB HE0 c0 c1 c2 c3 c4 c5
    obtain ⟨c0, c1, c2, c3, c4, c5⟩ := HB1.out.six (.head _)
    obtain ⟨b', off', x, y, zz, e1, d0, d1, d2, hdl⟩ := (HSD.out.2.2.2.2.keep HB1.out.kept).get (i := 0) (by simp)
    obtain ⟨rfl, rfl, rfl⟩ : x = d.neg ∧ y = (d.c : Int) ∧ zz = d.e := ⟨hdl.neg, hdl.c, hdl.e⟩
    injection e1 with e1
    injection e1 with e1 e2
    subst e1 e2
    simp only [Nat.zero_mul, Nat.add_zero] at d0 d1 d2
    have HTX := Lib.hid (Dc.text_calls d HSD.out.1.val.fits w1 (HT.out.keep HB1.out.kept))
    rw [Dc.check_ok.2 HSD.out.1.val] at HTX
    simp only [if_true] at HTX
    unfold Dc.dV at HTX
    clear hdl
    go_wp2_with fail
    refine HTX.out.mono ?_
    rintro e w2 ⟨v, rfl, hv, hb⟩
    have HB2 := Lib.hid (HB1.out.next hb)
    have HV := Lib.hid hv
    have hvz : (v.size : Int) ≤ 39 := by rw [hv.size]; have := HSD.out.2.2.2.1; omega
    clear hb HB1 HTX hv c0 c1 c2 c3 c4 c5 d0 d1 d2
    obtain ⟨c0, c1, c2, c3, c4, c5⟩ := HB2.out.six (.head _)
    have HW := Lib.hid (HN.out w2 (HT.out.keep HB2.out.kept))
    go_wp2_with fail
    refine HW.out.mono ?_
    rintro e w3 ⟨rfl, hb⟩
    have HB3 := Lib.hid (HB2.out.next hb)
    clear hb HB2 HW c0 c1 c2 c3 c4 c5
    obtain ⟨c0, c1, c2, c3, c4, c5⟩ := HB3.out.six (.head _)
    obtain ⟨u, hu⟩ : ∃ u : ByteArray, u = ⟨(Lib.decDigits t.toNat).toArray⟩ := ⟨_, rfl⟩
    rw [← hu]
    have hus : Str u (Lib.decDigits t.toNat) := by rw [hu]; exact Str.mk _
    have huz : (u.size : Int) ≤ 20 := by rw [hus.size]; have := HSD.out.2.2.1; omega
    have HP := Lib.hid (lineG_pieces HSD.out.2.1 HV.out hus)
    have z1 : ((⟨#[32]⟩ : ByteArray).size : Int) = 1 := rfl
    have za := sizeG_add
    clear hu hus
    have HE := Lib.hid (show (s ++ (⟨#[32]⟩ : ByteArray) ++ v ++ (⟨#[32]⟩ : ByteArray) ++ u) = ⟨(lineG (oneG name d t)).toArray⟩ by
      rw [HP.out.eq, lineG_one])
    go_wp2_with fail
    go_ret2
    exact ⟨by rw [← HE.out]; first | done | rfl, HB3.out.kept⟩
  · have hl : lineGT m = [] := by unfold lineGT; rw [if_neg hq]
    rw [hl]
    obtain ⟨q, hqq⟩ : ∃ q, metricE m 3 = q := ⟨_, rfl⟩
    simp only [hqq] at HE0
    rw [hqq] at hq ⊢
    have hqb : (q != 0) = true := by simpa using hq
    clear hl hqq hq h z ht
    go_enter Tryd.func12, Tryd.ntmps12
    obtain ⟨c0, c1, c2, c3, c4, c5⟩ := HB.out.six (.head _)
    go_wp2_with fail
    refine (HE0.out _ (HB.out.m (.head _))).mono ?_
    rintro e w1 ⟨rfl, hb⟩
    have HB1 := Lib.hid (HB.out.next hb)
    clear hb HB HE0 c0 c1 c2 c3 c4 c5
    go_wp2_with fail
    go_ret2
    exact ⟨rfl, HB1.out.kept⟩
end Go.Proofs.YtmaiggoinjldpaaDoor
