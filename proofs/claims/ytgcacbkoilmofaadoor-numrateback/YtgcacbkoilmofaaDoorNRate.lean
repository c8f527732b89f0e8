/-
  Package num: Rate. No statement of the seat is proved here.
-/
import Derived.Test.YtgcacbkoilmofaaDoorNRateFault
import Derived.Test.YtgcacbkoilmofaaDoorNText
import Derived.Deep.RegionHeld3
namespace Go.Proofs.YtgcacbkoilmofaaDoor
open Go.RowKit

theorem repeat_is (c : Nat) : Lib.repeatL [48] c = List.replicate c (48 : UInt8) := by
  induction c with
  | zero => rfl
  | succ c ih => rw [Lib.repeatL, ih]; rfl
theorem zeros5_calls (c : Nat) (hc : c ≤ 1000) (w : World) : Calls Tryd.prog 24 #[.string ⟨#[48]⟩, .int .i64 c] w fun e w' => (∃ t, e = .returned (.string t) ∧ Str t (List.replicate c 48)) ∧ Below w.heap.size w w' := by
  refine (Tryd.strings_Repeat ⟨#[48]⟩ c w (by omega) (by show 1 * c ≤ _; omega)).mono ?_
  rintro e w' ⟨rfl, hb⟩
  exact ⟨⟨_, rfl, by show Str ⟨(Lib.repeatL [48] c).toArray⟩ _; rw [repeat_is]; exact Str.mk _⟩, hb⟩

/-- The six digits that a rate's text has. -/
def sixOf (l : List UInt8) : List UInt8 := l.drop 2 ++ List.replicate (8 - l.length) 48
/-- Which rate a text is, or how it is wrong. -/
def rated (l : List UInt8) : Int × Int × Int :=
  if l = [49] then (1000000, 0, 0) else if (rfault l).1 ≠ 0 then (0, (rfault l).1, (rfault l).2) else if val (sixOf l) = 0 then (0, 10, 0) else ((val (sixOf l) : Int), 0, 0)

/-- What rates are written as. -/
theorem rf_right {l : List UInt8} (h : (rfault l).1 = 0) : ∃ d, l = 48 :: 46 :: d ∧ d ≠ [] ∧ Digs d ∧ d.length ≤ 6 := by
  match l, h with
  | [], h => exact absurd h (by decide)
  | [a], h =>
    rw [rf_eq1] at h
    split at h <;> exact absurd h (by decide)
  | a :: b :: d, h =>
    rw [rf_eq2] at h
    by_cases ha : a = 48
    · by_cases hb : b = 46
      · subst ha hb
        rw [if_neg (by simp), if_neg (by simp)] at h
        by_cases hd : d = []
        · rw [if_pos hd] at h; exact absurd h (by decide)
        · rw [if_neg hd] at h
          by_cases hbd : 0 ≤ bad 4 d
          · rw [if_pos hbd] at h; exact absurd h (by simp)
          · rw [if_neg hbd] at h
            by_cases h6 : 6 < d.length
            · rw [if_pos h6] at h; exact absurd h (by decide)
            · exact ⟨d, rfl, hd, digs_of_bad hbd, by omega⟩
      · rw [if_neg (by simp [ha]), if_pos (by simpa using hb)] at h; exact absurd h (by decide)
    · rw [if_pos (by simpa using ha)] at h; exact absurd h (by decide)
theorem rf_zero0 {l : List UInt8} (h : (rfault l).1 = 0) : rfault l = (0, 0) := by
  obtain ⟨d, rfl, h1, h2, h3⟩ := rf_right h
  rw [rf_dots, if_neg h1, bad_of_digs h2, if_neg (by decide), if_neg (by omega)]
theorem rf_dots0 {d : List UInt8} (h1 : d ≠ []) (h2 : Digs d) (h3 : d.length ≤ 6) : rfault (48 :: 46 :: d) = (0, 0) := by
  rw [rf_dots, if_neg h1, bad_of_digs h2, if_neg (by decide), if_neg (by omega)]

structure OneF (w w' : World) : Prop where
  own : Box w' w.heap.size 25 [.int .i64 0, .int .i64 0]
  kept : Below w.heap.size w w'
theorem OneF.next {w w1 w2 : World} (h : OneF w w1) (hb : Below w1.heap.size w1 w2) : OneF w w2 := ⟨h.own.keep hb, below_then h.kept hb⟩
theorem OneF.alloc {w w1 : World} (h : OneF w w1) (o : Obj) : OneF w (w1.alloc o) := ⟨h.own.alloc o, h.kept.alloc (Nat.le_of_lt h.own.lt) o⟩

set_option maxRecDepth 100000 in
set_option maxHeartbeats 4000000 in
theorem rate_calls (s : ByteArray) (l : List UInt8) (h : Str s l) (hz : (s.size : Int) ≤ 1000) (w : World) : Calls Tryd.prog 16 #[.string s] w (Told3 w (rated l)) := by
  have hsl := h.toList
  obtain ⟨r, hr⟩ : ∃ r, r = rated l := ⟨_, rfl⟩
  rw [← hr]
  have b0 := Box.new w 25 [.int .i64 0, .int .i64 0]
  have HNEW := Lib.hid (fun x y : Value => And.intro (Box.new w 25 [x, y]) ((Below.refl w.heap.size w).alloc (Nat.le_refl _) (.cells #[x, y] 25)))
  have h1l : (⟨#[49]⟩ : ByteArray).toList = [49] := (show Str ⟨#[49]⟩ [49] from rfl).toList
  by_cases h1 : l = [49]
  · have HR := Lib.hid (show r = (1000000, 0, 0) by rw [hr, rated, if_pos h1])
    have hs : s = ⟨#[49]⟩ := by rw [h.eq, h1]
    subst hs
    clear hr h hsl b0 h1
    go_enter Tryd.func16, Tryd.ntmps16
    go_wp2_with fail
    refine ret_nf rfl rfl rfl rfl (HNEW.out _ _).1 ?_
    exact told3_of HR.out (HNEW.out _ _).2
  · have hse : (s.toList == [49]) = false := by rw [hsl]; simpa using h1
    rw [rated, if_neg h1] at hr
    have HF := Lib.hid (rfault_calls s l h hz)
    have HS := Lib.hid h
    obtain ⟨f, hf⟩ : ∃ f, f = rfault l := ⟨_, rfl⟩
    rw [← hf] at hr HF
    have HFR := Lib.hid hf
    have hn := h.size
    obtain ⟨x, y⟩ := f
    have HR := Lib.hid hr
    have HN := Lib.hid hn
    clear hr h hsl h1 hf hn HNEW
    have HO0 := Lib.hid (show OneF w (w.alloc (.cells #[.int .i64 0, .int .i64 0] 25)) from ⟨b0, (Below.refl w.heap.size w).alloc (Nat.le_refl _) _⟩)
    clear b0
    go_enter Tryd.func16, Tryd.ntmps16
    go_wp2_with fail
    refine (HF.out _).mono ?_
    rintro e w1 ⟨rfl, hb⟩
    have HO1 := Lib.hid (HO0.out.next hb)
    have k1 := HO1.out.own.alloc (.cells #[.int .i64 x, .int .i64 y] 25)
    have kk := (HO1.out.alloc (.cells #[.int .i64 x, .int .i64 y] 25)).kept
    have c0 : (w1.alloc (.cells #[.int .i64 x, .int .i64 y] 25)).cell? ⟨w.heap.size, 0, none⟩ = some (.int .i64 0) := k1.cell 0
    have c1 : (w1.alloc (.cells #[.int .i64 x, .int .i64 y] 25)).cell? ⟨w.heap.size, 1, none⟩ = some (.int .i64 0) := k1.cell 1
    have f0 := k1.frozen 0
    have f1 := k1.frozen 1
    have HFL := Lib.hid (fun a b => laidF_is k1 kk a b)
    clear hb k1 kk HF HO0
    by_cases hx : x = 0
    · have hx' : (x == 0) = true := by simp [hx]
      obtain ⟨d, hl, hd1, hd2, hd3⟩ := rf_right (l := l) (by rw [← HFR.out]; exact hx)
      obtain ⟨hxx, hyy⟩ : x = 0 ∧ y = 0 := by
        have := rf_zero0 (l := l) (by rw [← HFR.out]; exact hx)
        rw [← HFR.out] at this
        injection this with e1 e2
        exact ⟨e1, e2⟩
      have hll : l.length = d.length + 2 := by rw [hl]; rfl
      obtain ⟨T, hT, hcut⟩ := HS.out.from_ (i := 2) 2 rfl (by omega)
      have hTd : Str T d := by rw [hl] at hT; exact hT
      have h6 : sixOf l = d ++ List.replicate (6 - d.length) 48 := by unfold sixOf; rw [hl]; simp
      have hdg : Digs (d ++ List.replicate (6 - d.length) 48) := hd2.append (digs_zeros _)
      have hlen6 : (d ++ List.replicate (6 - d.length) (48 : UInt8)).length = 6 := by simp; omega
      rw [h6] at HR
      have hsz8 : (s.size : Int) = (d.length : Int) + 2 := by have := HN.out; omega
      have hrp : ∀ W, OneF w W → Calls Tryd.prog 24 #[.string ⟨#[48]⟩, .int .i64 (IntKind.i64.wrap (8 - (s.size : Int)))] W fun e w' => (∃ t, e = .returned (.string t) ∧ Str t (List.replicate (6 - d.length) 48) ∧ (t.size : Int) ≤ 6) ∧ OneF w w' := fun W hW => by
        have := zeros5_calls (6 - d.length) (by omega) W
        rw [show (((6 - d.length : Nat)) : Int) = IntKind.i64.wrap (8 - (s.size : Int)) by rw [IntKind.wrap_i64]; omega] at this
        refine this.mono ?_
        rintro e w' ⟨⟨t, rfl, ht⟩, hb⟩
        exact ⟨⟨t, rfl, ht, by rw [ht.size]; simp; omega⟩, hW.next hb⟩
      have htg : ∀ (W : World) (t : ByteArray), OneF w W → Str t (List.replicate (6 - d.length) 48) → Calls Tryd.prog 18 #[.string (T ++ t)] W fun e w' => (∃ (n : Nat) (fits : Bool), e = .returned (.tuple #[.int .i64 n, .bool fits]) ∧ n = val (d ++ List.replicate (6 - d.length) 48)) ∧ OneF w w' := fun W t hW ht => by
        have hst := hTd.append ht
        refine (together_calls (T ++ t) _ hst hdg (by rw [hst.size, hlen6]; decide) W).mono ?_
        rintro e w' ⟨⟨n, fits, rfl, htog⟩, hb⟩
        refine ⟨⟨n, fits, rfl, ?_⟩, hW.next hb⟩
        have hlt := val_lt hdg
        rw [hlen6] at hlt
        cases fits with
        | true => exact htog.plain rfl
        | false => have := htog.great rfl; unfold MaxI at this; omega
      have hTz : (T.size : Int) ≤ 6 := by rw [hTd.size]; omega
      generalize val (d ++ List.replicate (6 - d.length) 48) = v at HR htg
      have HR2 := Lib.hid (show r = if v = 0 then (0, 10, 0) else ((v : Int), 0, 0) by rw [HR.out, if_neg (by rw [hxx]; decide)])
      have HRP := Lib.hid hrp
      have HTG := Lib.hid htg
      have hs8 : (s.size : Int) ≤ 8 := by omega
      clear HR hrp htg hdg hlen6 h6 hT hTd hll hl hd1 hd2 hx c0 c1 f0 f1 HFL
      subst hxx hyy
      have HO2 := Lib.hid ((HO1.out.alloc (.cells #[.int .i64 0, .int .i64 0] 25)).next (Same.below (Same.drewN _ 1)))
      clear hsz8
      go_wp2_with fail
      go_region_held3 (fun w' => OneF w w')
        (first | exact HO2.out | assumption)
        (first | (go_at_call 24; refine (HRP.out _ (by assumption)).mono ?_; rintro e w' ⟨⟨t, rfl, ht, htz⟩, hb⟩; have hcat : ¬ (9223372036854775807 < T.size + t.size) := (by omega); have HT := Lib.hid ht; clear ht) | (go_at_call 18; refine (HTG.out _ _ (by assumption) HT.out).mono ?_; rintro e w' ⟨⟨n, fits, rfl, hv⟩, hb⟩; have HV := Lib.hid hv; clear hv))
      rename_i w9
      have HB9 := Lib.hid hb
      clear hb
      have c0 : w'.cell? ⟨w.heap.size, 0, none⟩ = some (.int .i64 0) := HB9.out.own.cell 0
      have c1 : w'.cell? ⟨w.heap.size, 1, none⟩ = some (.int .i64 0) := HB9.out.own.cell 1
      have f0 := HB9.out.own.frozen 0
      have f1 := HB9.out.own.frozen 1
      have HF9 := Lib.hid (fun a b => laidF_is HB9.out.own HB9.out.kept a b)
      obtain ⟨u, hu⟩ : ∃ u : Int, u = (n : Int) := ⟨_, rfl⟩
      rw [← hu]
      by_cases hu0 : u = 0
      · have HR3 := Lib.hid (show r = (0, 10, 0) by have := HV.out; rw [HR2.out, if_pos (by omega)])
        subst hu0
        clear hu
        go_wp2_with fail
        refine ret_nf rfl rfl rfl rfl (HF9.out _ _).1 ?_
        exact told3_of HR3.out (HF9.out _ _).2
      · have HR3 := Lib.hid (show r = (u, 0, 0) by have := HV.out; rw [HR2.out, if_neg (by omega), hu, this])
        have hu0' : (u == 0) = false := by simp [hu0]
        clear hu hu0
        go_wp2_with fail
        refine ret_nf rfl rfl rfl rfl (HF9.out _ _).1 ?_
        exact told3_of HR3.out (HF9.out _ _).2
    · have hx' : (x == 0) = false := by simp [hx]
      have HR2 := Lib.hid (show r = (0, x, y) by rw [HR.out, if_pos hx])
      clear hx HR
      go_wp2_with fail
      go_region
      all_goals
        go_wp2_with fail
        refine ret_nf rfl rfl rfl rfl ((HFL.out _ _).1.same (Same.drewN _ 1)) ?_
        exact told3_of HR2.out ((HFL.out _ _).2.trans (Same.below (Same.drewN _ 1)))
end Go.Proofs.YtgcacbkoilmofaaDoor
