/-
  NRate, NRMath. No statement of the seat is proved here.
-/
import Derived.Test.YtbcmchkgamkceaaGreatDoorGrNPut
import Derived.Test.YtbcmchkgamkceaaGreatDoorGrNText
import Derived.Deep.RegionHeld3
import Derived.Test.YtbcmchkgamkceaaGreatDoorGrTMath
/-
  Package num: Rate. No statement of the seat is proved here.
-/
namespace Go.Proofs.YtbcmchkgamkceaaGreatDoor
open Go.RowKit

theorem repeat_is (c : Nat) : Lib.repeatL [48] c = List.replicate c (48 : UInt8) := by
  induction c with
  | zero => rfl
  | succ c ih => rw [Lib.repeatL, ih]; rfl
theorem zeros5_calls (c : Nat) (hc : c ≤ 1000) (w : World) : Calls Tryz.prog 55 #[.string ⟨#[48]⟩, .int .i64 c] w fun e w' => (∃ t, e = .returned (.string t) ∧ Str t (List.replicate c 48)) ∧ Below w.heap.size w w' := by
  refine (Tryz.strings_Repeat ⟨#[48]⟩ c w (by omega) (by show 1 * c ≤ _; omega)).mono ?_
  rintro e w' ⟨rfl, hb⟩
  exact ⟨⟨_, rfl, by show Str ⟨(Lib.repeatL [48] c).toArray⟩ _; rw [repeat_is]; exact Str.mk _⟩, hb⟩

/-- The six digits that a rate's text has. -/
def sixOf (l : List UInt8) : List UInt8 := l.drop 2 ++ List.replicate (8 - l.length) 48
/-- Which rate a text is, or how it is wrong. -/
def rated (l : List UInt8) : Int × Int × Int :=
  if l = [49] then (1000000, 0, 0) else if (rfault l).1 ≠ 0 then (0, (rfault l).1, (rfault l).2) else if val (sixOf l) = 0 then (0, 10, 0) else ((val (sixOf l) : Int), 0, 0)

/-- What rates are written as. -/
theorem rf_right {l : List UInt8} (h : (rfault l).1 = 0) : ∃ d, l = 48 :: 46 :: d ∧ d ≠ [] ∧ Digs d ∧ d.length ≤ 6 := by
  match l, h with
  | [], h => exact absurd h (by decide)
  | [a], h =>
    rw [rf_eq1] at h
    split at h <;> exact absurd h (by decide)
  | a :: b :: d, h =>
    rw [rf_eq2] at h
    by_cases ha : a = 48
    · by_cases hb : b = 46
      · subst ha hb
        rw [if_neg (by simp), if_neg (by simp)] at h
        by_cases hd : d = []
        · rw [if_pos hd] at h; exact absurd h (by decide)
        · rw [if_neg hd] at h
          by_cases hbd : 0 ≤ bad 4 d
          · rw [if_pos hbd] at h; exact absurd h (by simp)
          · rw [if_neg hbd] at h
            by_cases h6 : 6 < d.length
            · rw [if_pos h6] at h; exact absurd h (by decide)
            · exact ⟨d, rfl, hd, digs_of_bad hbd, by omega⟩
      · rw [if_neg (by simp [ha]), if_pos (by simpa using hb)] at h; exact absurd h (by decide)
    · rw [if_pos (by simpa using ha)] at h; exact absurd h (by decide)
theorem rf_zero0 {l : List UInt8} (h : (rfault l).1 = 0) : rfault l = (0, 0) := by
  obtain ⟨d, rfl, h1, h2, h3⟩ := rf_right h
  rw [rf_dots, if_neg h1, bad_of_digs h2, if_neg (by decide), if_neg (by omega)]
theorem rf_dots0 {d : List UInt8} (h1 : d ≠ []) (h2 : Digs d) (h3 : d.length ≤ 6) : rfault (48 :: 46 :: d) = (0, 0) := by
  rw [rf_dots, if_neg h1, bad_of_digs h2, if_neg (by decide), if_neg (by omega)]

structure OneF (w w' : World) : Prop where
  own : Box w' w.heap.size 42 [.int .i64 0, .int .i64 0]
  kept : Below w.heap.size w w'
theorem OneF.next {w w1 w2 : World} (h : OneF w w1) (hb : Below w1.heap.size w1 w2) : OneF w w2 := ⟨h.own.keep hb, below_then h.kept hb⟩
theorem OneF.alloc {w w1 : World} (h : OneF w w1) (o : Obj) : OneF w (w1.alloc o) := ⟨h.own.alloc o, h.kept.alloc (Nat.le_of_lt h.own.lt) o⟩

set_option maxRecDepth 100000 in
set_option maxHeartbeats 4000000 in
theorem nrate_calls (s : ByteArray) (l : List UInt8) (h : Str s l) (hz : (s.size : Int) ≤ 9000) (w : World) : Calls Tryz.prog 72 #[.string s] w (Told3 w (rated l)) := by
  have hsl := h.toList
  obtain ⟨r, hr⟩ : ∃ r, r = rated l := ⟨_, rfl⟩
  rw [← hr]
  have b0 := Box.new w 42 [.int .i64 0, .int .i64 0]
  have HNEW := Lib.hid (fun x y : Value => And.intro (Box.new w 42 [x, y]) ((Below.refl w.heap.size w).alloc (Nat.le_refl _) (.cells #[x, y] 42)))
  have h1l : (⟨#[49]⟩ : ByteArray).toList = [49] := (show Str ⟨#[49]⟩ [49] from rfl).toList
  by_cases h1 : l = [49]
  · have HR := Lib.hid (show r = (1000000, 0, 0) by rw [hr, rated, if_pos h1])
    have hs : s = ⟨#[49]⟩ := by rw [h.eq, h1]
    subst hs
    clear hr h hsl b0 h1
    go_enter Tryz.func72, Tryz.ntmps72
    go_wp2_with fail
    refine ret_nf rfl rfl rfl rfl (HNEW.out _ _).1 ?_
    exact told3_of HR.out (HNEW.out _ _).2
  · have hse : (s.toList == [49]) = false := by rw [hsl]; simpa using h1
    rw [rated, if_neg h1] at hr
    have HF := Lib.hid (rfault_calls s l h hz)
    have HS := Lib.hid h
    obtain ⟨f, hf⟩ : ∃ f, f = rfault l := ⟨_, rfl⟩
    rw [← hf] at hr HF
    have HFR := Lib.hid hf
    have hn := h.size
    obtain ⟨x, y⟩ := f
    have HR := Lib.hid hr
    have HN := Lib.hid hn
    clear hr h hsl h1 hf hn HNEW
    have HO0 := Lib.hid (show OneF w (w.alloc (.cells #[.int .i64 0, .int .i64 0] 42)) from ⟨b0, (Below.refl w.heap.size w).alloc (Nat.le_refl _) _⟩)
    clear b0
    go_enter Tryz.func72, Tryz.ntmps72
    go_wp2_with fail
    refine (HF.out _).mono ?_
    rintro e w1 ⟨rfl, hb⟩
    have HO1 := Lib.hid (HO0.out.next hb)
    have k1 := HO1.out.own.alloc (.cells #[.int .i64 x, .int .i64 y] 42)
    have kk := (HO1.out.alloc (.cells #[.int .i64 x, .int .i64 y] 42)).kept
    have c0 : (w1.alloc (.cells #[.int .i64 x, .int .i64 y] 42)).cell? ⟨w.heap.size, 0, none⟩ = some (.int .i64 0) := k1.cell 0
    have c1 : (w1.alloc (.cells #[.int .i64 x, .int .i64 y] 42)).cell? ⟨w.heap.size, 1, none⟩ = some (.int .i64 0) := k1.cell 1
    have f0 := k1.frozen 0
    have f1 := k1.frozen 1
    have HFL := Lib.hid (fun a b => laidF_is k1 kk a b)
    clear hb k1 kk HF HO0
    by_cases hx : x = 0
    · have hx' : (x == 0) = true := by simp [hx]
      obtain ⟨d, hl, hd1, hd2, hd3⟩ := rf_right (l := l) (by rw [← HFR.out]; exact hx)
      obtain ⟨hxx, hyy⟩ : x = 0 ∧ y = 0 := by
        have := rf_zero0 (l := l) (by rw [← HFR.out]; exact hx)
        rw [← HFR.out] at this
        injection this with e1 e2
        exact ⟨e1, e2⟩
      have hll : l.length = d.length + 2 := by rw [hl]; rfl
      obtain ⟨T, hT, hcut⟩ := HS.out.from_ (i := 2) 2 rfl (by omega)
      have hTd : Str T d := by rw [hl] at hT; exact hT
      have h6 : sixOf l = d ++ List.replicate (6 - d.length) 48 := by unfold sixOf; rw [hl]; simp
      have hdg : Digs (d ++ List.replicate (6 - d.length) 48) := hd2.append (digs_zeros _)
      have hlen6 : (d ++ List.replicate (6 - d.length) (48 : UInt8)).length = 6 := by simp; omega
      rw [h6] at HR
      have hsz8 : (s.size : Int) = (d.length : Int) + 2 := by have := HN.out; omega
      have hrp : ∀ W, OneF w W → Calls Tryz.prog 55 #[.string ⟨#[48]⟩, .int .i64 (IntKind.i64.wrap (8 - (s.size : Int)))] W fun e w' => (∃ t, e = .returned (.string t) ∧ Str t (List.replicate (6 - d.length) 48) ∧ (t.size : Int) ≤ 6) ∧ OneF w w' := fun W hW => by
        have := zeros5_calls (6 - d.length) (by omega) W
        rw [show (((6 - d.length : Nat)) : Int) = IntKind.i64.wrap (8 - (s.size : Int)) by rw [IntKind.wrap_i64]; omega] at this
        refine this.mono ?_
        rintro e w' ⟨⟨t, rfl, ht⟩, hb⟩
        exact ⟨⟨t, rfl, ht, by rw [ht.size]; simp; omega⟩, hW.next hb⟩
      have htg : ∀ (W : World) (t : ByteArray), OneF w W → Str t (List.replicate (6 - d.length) 48) → Calls Tryz.prog 115 #[.string (T ++ t)] W fun e w' => (∃ (n : Nat) (fits : Bool), e = .returned (.tuple #[.int .i64 n, .bool fits]) ∧ n = val (d ++ List.replicate (6 - d.length) 48)) ∧ OneF w w' := fun W t hW ht => by
        have hst := hTd.append ht
        refine (together_calls (T ++ t) _ hst hdg (by rw [hst.size, hlen6]; decide) W).mono ?_
        rintro e w' ⟨⟨n, fits, rfl, htog⟩, hb⟩
        refine ⟨⟨n, fits, rfl, ?_⟩, hW.next hb⟩
        have hlt := val_lt hdg
        rw [hlen6] at hlt
        cases fits with
        | true => exact htog.plain rfl
        | false => have := htog.great rfl; unfold MaxI at this; omega
      have hTz : (T.size : Int) ≤ 6 := by rw [hTd.size]; omega
      generalize val (d ++ List.replicate (6 - d.length) 48) = v at HR htg
      have HR2 := Lib.hid (show r = if v = 0 then (0, 10, 0) else ((v : Int), 0, 0) by rw [HR.out, if_neg (by rw [hxx]; decide)])
      have HRP := Lib.hid hrp
      have HTG := Lib.hid htg
      have hs8 : (s.size : Int) ≤ 8 := by omega
      clear HR hrp htg hdg hlen6 h6 hT hTd hll hl hd1 hd2 hx c0 c1 f0 f1 HFL
      subst hxx hyy
      have HO2 := Lib.hid ((HO1.out.alloc (.cells #[.int .i64 0, .int .i64 0] 42)).next (Same.below (Same.drewN _ 1)))
      clear hsz8
      go_wp2_with fail
      go_region_held3 (fun w' => OneF w w')
        (first | exact HO2.out | assumption)
        (first | (go_at_call 55; refine (HRP.out _ (by assumption)).mono ?_; rintro e w' ⟨⟨t, rfl, ht, htz⟩, hb⟩; have hcat : ¬ (9223372036854775807 < T.size + t.size) := (by omega); have HT := Lib.hid ht; clear ht) | (go_at_call 115; refine (HTG.out _ _ (by assumption) HT.out).mono ?_; rintro e w' ⟨⟨n, fits, rfl, hv⟩, hb⟩; have HV := Lib.hid hv; clear hv))
      rename_i w9
      have HB9 := Lib.hid hb
      clear hb
      have c0 : w'.cell? ⟨w.heap.size, 0, none⟩ = some (.int .i64 0) := HB9.out.own.cell 0
      have c1 : w'.cell? ⟨w.heap.size, 1, none⟩ = some (.int .i64 0) := HB9.out.own.cell 1
      have f0 := HB9.out.own.frozen 0
      have f1 := HB9.out.own.frozen 1
      have HF9 := Lib.hid (fun a b => laidF_is HB9.out.own HB9.out.kept a b)
      obtain ⟨u, hu⟩ : ∃ u : Int, u = (n : Int) := ⟨_, rfl⟩
      rw [← hu]
      by_cases hu0 : u = 0
      · have HR3 := Lib.hid (show r = (0, 10, 0) by have := HV.out; rw [HR2.out, if_pos (by omega)])
        subst hu0
        clear hu
        go_wp2_with fail
        refine ret_nf rfl rfl rfl rfl (HF9.out _ _).1 ?_
        exact told3_of HR3.out (HF9.out _ _).2
      · have HR3 := Lib.hid (show r = (u, 0, 0) by have := HV.out; rw [HR2.out, if_neg (by omega), hu, this])
        have hu0' : (u == 0) = false := by simp [hu0]
        clear hu hu0
        go_wp2_with fail
        refine ret_nf rfl rfl rfl rfl (HF9.out _ _).1 ?_
        exact told3_of HR3.out (HF9.out _ _).2
    · have hx' : (x == 0) = false := by simp [hx]
      have HR2 := Lib.hid (show r = (0, x, y) by rw [HR.out, if_pos hx])
      clear hx HR
      go_wp2_with fail
      go_region
      all_goals
        go_wp2_with fail
        refine ret_nf rfl rfl rfl rfl ((HFL.out _ _).1.same (Same.drewN _ 1)) ?_
        exact told3_of HR2.out ((HFL.out _ _).2.trans (Same.below (Same.drewN _ 1)))
end Go.Proofs.YtbcmchkgamkceaaGreatDoor

/-
  Numbers and rates as texts, there and back, and in order. Nothing of the program is walked.
-/
namespace Go.Proofs.YtbcmchkgamkceaaGreatDoor

/-! Numbers. -/
/-- Digits without a 0 ahead are those of their number. -/
theorem digits_unique {l : List UInt8} (hd : Digs l) (hne : l ≠ []) (h0 : l.head? ≠ some 48 ∨ l.length = 1) : l = Lib.decDigits (val l) := by
  obtain ⟨hv, hdd⟩ := val_decDigits (val l)
  refine val_inj hd hdd ?_ hv.symm
  rw [Lib.decDigits_length]
  match l, hne, h0, hd with
  | b :: r, _, h0, hd =>
    have hlt := val_lt hd
    by_cases hb : b = 48
    · subst hb
      have hr : r = [] := by
        rcases h0 with h | h
        · exact absurd rfl h
        · simpa using h
      subst hr
      exact (Lib.nDigits_small (u := val [48]) (by decide)).symm
    · have hb' := hd b (by simp)
      have hge := val_ge (r := r) hb' (fun h => hb (UInt8.toNat_inj.1 h))
      rw [List.length_cons] at hlt ⊢
      exact (Lib.nDigits_unique r.length _ hge hlt).symm
theorem digits_head (n : Nat) : (Lib.decDigits n).head? ≠ some 48 ∨ (Lib.decDigits n).length = 1 := by
  by_cases h : n = 0
  · right; rw [Lib.decDigits_length]; subst h; exact Lib.nDigits_small (by decide)
  · obtain ⟨b, r, h1, h2⟩ := decDigits_head n h
    left
    rw [h1]
    intro e
    simp only [List.head?_cons, Option.some.injEq] at e
    subst e
    exact h2 rfl
theorem parsed_digits {n : Nat} (h : n ≤ MaxI) {lo hi : Int} : parsed (Lib.decDigits n) lo hi = if (n : Int) < lo ∨ hi < (n : Int) then (0, 10, 0) else ((n : Int), 0, 0) := by
  obtain ⟨hv, hd⟩ := val_decDigits n
  unfold parsed
  rw [if_neg (decDigits_ne n), bad_of_digs hd, if_neg (by decide), if_neg, hv]
  · by_cases hc : (n : Int) < lo ∨ hi < (n : Int)
    · rw [if_pos (.inr hc), if_pos hc]
    · rw [if_neg (by omega), if_neg hc]
  · rintro ⟨h1, h2⟩
    rcases digits_head n with h' | h'
    · exact h' h1
    · omega
/-- What is read is written as just what was read. -/
theorem parsed_back {l : List UInt8} {lo hi n : Int} (h : parsed l lo hi = (n, 0, 0)) : 0 ≤ n ∧ n ≤ 9223372036854775807 ∧ Lib.decDigits n.toNat = l := by
  unfold parsed at h
  by_cases h1 : l = []
  · rw [if_pos h1] at h; injection h with _ h; injection h with h; exact absurd h (by decide)
  · rw [if_neg h1] at h
    by_cases h2 : 0 ≤ bad 4 l
    · rw [if_pos h2] at h; injection h with _ h; injection h with h; exact absurd h (by decide)
    · rw [if_neg h2] at h
      by_cases h3 : l.head? = some 48 ∧ 1 < l.length
      · rw [if_pos h3] at h; injection h with _ h; injection h with h; exact absurd h (by decide)
      · rw [if_neg h3] at h
        by_cases h4 : MaxI < val l ∨ (val l : Int) < lo ∨ hi < (val l : Int)
        · rw [if_pos h4] at h; injection h with _ h; injection h with h; exact absurd h (by decide)
        · rw [if_neg h4] at h
          injection h with h _
          subst h
          refine ⟨by omega, by unfold MaxI at h4; omega, ?_⟩
          rw [Int.toNat_natCast]
          have hl : 0 < l.length := List.length_pos_iff.2 h1
          refine (digits_unique (digs_of_bad h2) h1 ?_).symm
          by_cases hh : l.head? = some 48
          · right; have : ¬ 1 < l.length := fun h => h3 ⟨hh, h⟩; omega
          · left; exact hh
theorem parsed_wrong {l : List UInt8} {lo hi n a b : Int} (h : parsed l lo hi = (n, a, b)) (hab : ¬ (a = 0 ∧ b = 0)) : n = 0 := by
  unfold parsed at h
  repeat' split at h
  all_goals
    injection h with h1 h2
    injection h2 with h2 h3
    first | exact h1.symm | (exfalso; exact hab ⟨h2.symm, h3.symm⟩)

/-! Rates. -/
theorem drop_form (c : UInt8) : ∀ r : List UInt8, ∃ k, r = List.replicate k c ++ r.dropWhile (· == c) ∧ (r.dropWhile (· == c) = [] ∨ ∃ x t, r.dropWhile (· == c) = x :: t ∧ x ≠ c)
  | [] => ⟨0, rfl, .inl rfl⟩
  | x :: r => by
    by_cases h : x = c
    · subst h
      obtain ⟨k, h1, h2⟩ := drop_form x r
      have e : (x :: r).dropWhile (· == x) = r.dropWhile (· == x) := by simp
      rw [e]
      refine ⟨k + 1, ?_, h2⟩
      rw [List.replicate_succ, List.cons_append, ← h1]
    · have e : (x :: r).dropWhile (· == c) = x :: r := by simp [h]
      rw [e]
      exact ⟨0, rfl, .inr ⟨x, r, rfl, h⟩⟩
theorem trim_form (l : List UInt8) (c : UInt8) : ∃ k, l = Lib.trimRightB l c ++ List.replicate k c ∧ (Lib.trimRightB l c = [] ∨ ∃ t x, Lib.trimRightB l c = t ++ [x] ∧ x ≠ c) := by
  obtain ⟨k, h1, h2⟩ := drop_form c l.reverse
  unfold Lib.trimRightB
  refine ⟨k, ?_, ?_⟩
  · have := congrArg List.reverse h1
    rw [List.reverse_reverse, List.reverse_append, List.reverse_replicate] at this
    exact this
  · rcases h2 with h2 | ⟨x, t, h2, hx⟩
    · left; rw [h2]; rfl
    · right; exact ⟨t.reverse, x, by rw [h2, List.reverse_cons], hx⟩
theorem trim_zeros (l : List UInt8) (c : UInt8) (k : Nat) : Lib.trimRightB (l ++ List.replicate k c) c = Lib.trimRightB l c := by
  unfold Lib.trimRightB
  rw [List.reverse_append, List.reverse_replicate, List.dropWhile_append_of_pos]
  intro a ha
  rw [(List.mem_replicate.1 ha).2]
  simp
theorem trim_ahead {a d : List UInt8} {c : UInt8} (h : Lib.trimRightB d c ≠ []) : Lib.trimRightB (a ++ d) c = a ++ Lib.trimRightB d c := by
  unfold Lib.trimRightB at h ⊢
  rw [List.reverse_append, List.dropWhile_append]
  rw [if_neg (by simpa using h), List.reverse_append, List.reverse_reverse]

/-- The digits of a rate, without the zeros at their end. -/
theorem rate_digits {n : Nat} (h0 : n ≠ 0) (h : n < 1000000) : ∃ t x, Lib.trimRightB (six n) 48 = t ++ [x] ∧ x ≠ 48 ∧ Digs (t ++ [x]) ∧ (t ++ [x]).length ≤ 6 ∧ t ++ [x] ++ List.replicate (6 - (t ++ [x]).length) 48 = six n := by
  obtain ⟨_, hd, hl, hv⟩ := six_is h
  obtain ⟨k, h1, h2⟩ := trim_form (six n) 48
  rcases h2 with h2 | ⟨t, x, h2, hx⟩
  · rw [h2, List.nil_append] at h1
    rw [h1, val_zeros] at hv
    omega
  · rw [h2] at h1
    have hlen := congrArg List.length h1
    rw [hl, List.length_append, List.length_replicate] at hlen
    refine ⟨t, x, h2, hx, ?_, by omega, ?_⟩
    · rw [h1] at hd; exact hd.left
    · rw [show 6 - (t ++ [x]).length = k by omega]; exact h1.symm
theorem rateText_is {n : Nat} (h : n < 1000000) : rateText n = 48 :: 46 :: Lib.trimRightB (six n) 48 := by
  unfold rateText; rw [if_neg (by omega)]; rfl

theorem rated_dots {d : List UInt8} (h1 : d ≠ []) (h2 : Digs d) (h3 : d.length ≤ 6) : rated (48 :: 46 :: d) = if val (d ++ List.replicate (6 - d.length) 48) = 0 then (0, 10, 0) else ((val (d ++ List.replicate (6 - d.length) 48) : Int), 0, 0) := by
  have e : sixOf (48 :: 46 :: d) = d ++ List.replicate (6 - d.length) 48 := by unfold sixOf; simp
  unfold rated
  rw [if_neg (by simp), rf_dots0 h1 h2 h3, if_neg (by simp), e]
theorem rated_long {d : List UInt8} (h2 : Digs d) (h3 : 6 < d.length) : rated (48 :: 46 :: d) = (0, 12, 8) := by
  have e : rfault (48 :: 46 :: d) = (12, 8) := by
    rw [rf_dots, if_neg (by rintro rfl; simp at h3), bad_of_digs h2, if_neg (by decide), if_pos h3]
  unfold rated
  rw [if_neg (by simp), e, if_pos (by decide)]

/-- A rate's text, with zeros behind, is read as it. -/
theorem rated_zeros {n : Nat} (h0 : n ≠ 0) (h : n < 1000000) (z : Nat) : rated (rateText n ++ List.replicate z 48) = if (rateText n ++ List.replicate z 48).length ≤ 8 then ((n : Int), 0, 0) else (0, 12, 8) := by
  obtain ⟨t, x, h1, hx, hd, hl, h6⟩ := rate_digits h0 h
  rw [rateText_is h, h1]
  generalize ht : t ++ [x] = d at *
  have hdz : Digs (d ++ List.replicate z 48) := hd.append (digs_zeros _)
  rw [List.cons_append, List.cons_append]
  by_cases hc : (d ++ List.replicate z (48 : UInt8)).length ≤ 6
  · have hne : d ++ List.replicate z 48 ≠ [] := by rw [← ht]; simp
    have e : d ++ List.replicate z 48 ++ List.replicate (6 - (d ++ List.replicate z (48 : UInt8)).length) 48 = six n := by
      rw [List.append_assoc, List.replicate_append_replicate, ← h6]
      simp only [List.length_append, List.length_replicate] at hc ⊢
      congr 2; omega
    rw [rated_dots hne hdz hc, e, (six_is h).2.2.2, if_neg h0, if_pos (by simp only [List.length_cons]; omega)]
  · rw [rated_long hdz (by omega), if_neg (by simp only [List.length_cons]; omega)]
theorem rated_text {n : Nat} (h0 : n ≠ 0) (h : n ≤ 1000000) : rated (rateText n) = ((n : Int), 0, 0) := by
  by_cases he : n = 1000000
  · subst he; decide
  · have h' : n < 1000000 := by omega
    have := rated_zeros h0 h' 0
    rw [List.replicate_zero, List.append_nil] at this
    obtain ⟨t, x, h1, hx, hd, hl, h6⟩ := rate_digits h0 h'
    rw [this, if_pos]
    rw [rateText_is h', h1]
    simp only [List.length_cons]
    omega
theorem rateText_len {n : Nat} (h0 : n ≠ 0) (h : n < 1000000) : 3 ≤ (rateText n).length ∧ (rateText n).length ≤ 8 := by
  obtain ⟨t, x, h1, hx, hd, hl, h6⟩ := rate_digits h0 h
  rw [rateText_is h, h1]
  simp only [List.length_cons, List.length_append] at *
  simp at *
  omega
theorem rateText_last {n : Nat} (h0 : n ≠ 0) (h : n < 1000000) : ∃ t x, rateText n = t ++ [x] ∧ x ≠ 48 := by
  obtain ⟨t, x, h1, hx, _⟩ := rate_digits h0 h
  exact ⟨48 :: 46 :: t, x, by rw [rateText_is h, h1]; rfl, hx⟩
theorem isRate_iff (n : Int) : isRate n = true ↔ 1 ≤ n ∧ n ≤ 1000000 := by unfold isRate; rw [decide_eq_true_eq]

/-- What is read is a rate, whose text is what was read without the zeros at its end. -/
theorem rated_back {l : List UInt8} {n : Int} (h : rated l = (n, 0, 0)) : 1 ≤ n ∧ n ≤ 1000000 ∧ rateText n.toNat = Lib.trimRightB l 48 ∧ l ≠ [] ∧ (∀ k, k < l.length → k ≤ 1 → (∀ i (hi : i < l.length), k ≤ i → l[i] = 48) → False) := by
  unfold rated at h
  by_cases h1 : l = [49]
  · rw [if_pos h1] at h
    injection h with h _
    subst h h1
    refine ⟨by decide, by decide, by decide, by simp, ?_⟩
    intro k hk hk1 hall
    have := hall 0 (by simp) (by simp at hk; omega)
    exact absurd this (by decide)
  · rw [if_neg h1] at h
    by_cases h2 : (rfault l).1 ≠ 0
    · rw [if_pos h2] at h
      injection h with _ h
      injection h with h _
      exact absurd h h2
    · rw [if_neg h2] at h
      obtain ⟨d, rfl, hne, hd, hl⟩ := rf_right (l := l) (Classical.not_not.1 h2)
      have e : sixOf (48 :: 46 :: d) = d ++ List.replicate (6 - d.length) 48 := by unfold sixOf; simp
      have hdz : Digs (d ++ List.replicate (6 - d.length) 48) := hd.append (digs_zeros _)
      have hlz : (d ++ List.replicate (6 - d.length) (48 : UInt8)).length = 6 := by simp; omega
      have hlt := val_lt hdz
      rw [hlz] at hlt
      rw [e] at h
      by_cases h3 : val (d ++ List.replicate (6 - d.length) 48) = 0
      · rw [if_pos h3] at h
        injection h with _ h
        injection h with h _
        exact absurd h (by decide)
      · rw [if_neg h3] at h
        injection h with h _
        subst h
        have h6 : d ++ List.replicate (6 - d.length) 48 = six (val (d ++ List.replicate (6 - d.length) 48)) := six_unique hdz hlz rfl
        refine ⟨by omega, by omega, ?_, by simp, ?_⟩
        · obtain ⟨t, x, ht, _⟩ := rate_digits h3 (by omega)
          rw [Int.toNat_natCast, rateText_is (by omega), ← h6, trim_zeros]
          rw [← h6, trim_zeros] at ht
          have hnz : Lib.trimRightB d 48 ≠ [] := by rw [ht]; simp
          have := trim_ahead (a := [48, 46]) hnz
          exact this.symm
        · intro k hk hk1 hall
          have := hall 1 (by simp) hk1
          simp only [List.getElem_cons_succ, List.getElem_cons_zero] at this
          exact absurd this (by decide)
theorem rated_wrong {l : List UInt8} {n a b : Int} (h : rated l = (n, a, b)) (hab : ¬ (a = 0 ∧ b = 0)) : n = 0 := by
  unfold rated at h
  repeat' split at h
  all_goals
    injection h with h1 h2
    injection h2 with h2 h3
    first | exact h1.symm | (exfalso; exact hab ⟨h2.symm, h3.symm⟩)

/-! In order. -/
/-- No 0 at the end. -/
def NoZ (l : List UInt8) : Prop := l = [] ∨ ∃ t x, l = t ++ [x] ∧ x ≠ 48
theorem NoZ.tail {b : UInt8} {r : List UInt8} (h : NoZ (b :: r)) : NoZ r := by
  rcases h with h | ⟨t, x, h, hx⟩
  · cases h
  · cases t with
    | nil => injection h with _ h; exact .inl h
    | cons y t => injection h with _ h; exact .inr ⟨t, x, h, hx⟩
theorem NoZ.pos {l : List UInt8} (h : NoZ l) (hd : Digs l) (hne : l ≠ []) (k : Nat) : 0 < val (l ++ List.replicate k 48) := by
  rcases h with h | ⟨t, x, rfl, hx⟩
  · exact absurd h hne
  · have hb := hd x (by simp)
    unfold Dig at hb
    have hx' : x.toNat ≠ 48 := fun h => hx (UInt8.toNat_inj.1 h)
    rw [val_zeros_behind, val_snoc]
    exact Nat.mul_pos (by omega) (Nat.pos_of_ne_zero (by simp))
theorem less_trimmed : ∀ {a b : List UInt8} {i j : Nat}, Digs a → Digs b → NoZ a → NoZ b → a.length + i = b.length + j → Op.bytesLess a b = decide (val (a ++ List.replicate i 48) < val (b ++ List.replicate j 48))
  | [], [], i, j, _, _, _, _, _ => by simp [Op.bytesLess, val_zeros]
  | [], y :: b, i, j, _, hb, _, nb, _ => by
    have := nb.pos hb (by simp) j
    rw [List.nil_append, val_zeros, Op.bytesLess, decide_eq_true this]
  | x :: a, [], i, j, _, _, _, _, _ => by
    rw [List.nil_append, val_zeros, Op.bytesLess]
    simp
  | x :: a, y :: b, i, j, ha, hb, na, nb, hl => by
    have hx := ha x (by simp)
    have hy := hb y (by simp)
    have ha' : Digs a := fun z hz => ha z (by simp [hz])
    have hb' : Digs b := fun z hz => hb z (by simp [hz])
    have hl' : a.length + i = b.length + j := by simp only [List.length_cons] at hl; omega
    have l1 := val_lt (ha'.append (digs_zeros i))
    have l2 := val_lt (hb'.append (digs_zeros j))
    have e1 : (a ++ List.replicate i (48 : UInt8)).length = b.length + j := by simp; omega
    have e2 : (b ++ List.replicate j (48 : UInt8)).length = b.length + j := by simp
    rw [e1] at l1
    rw [e2] at l2
    unfold Dig at hx hy
    rw [Op.bytesLess, less_trimmed ha' hb' na.tail nb.tail hl', List.cons_append, List.cons_append, val_cons, val_cons, e1, e2]
    have hp : 0 < 10 ^ (b.length + j) := Nat.pos_of_ne_zero (by simp)
    generalize 10 ^ (b.length + j) = p at *
    rcases Nat.lt_trichotomy x.toNat y.toNat with h | h | h
    · have h1 : decide (x < y) = true := by simpa [UInt8.lt_iff_toNat_lt] using h
      have h2 : (x.toNat - 48 + 1) * p ≤ (y.toNat - 48) * p := Nat.mul_le_mul_right _ (by omega)
      rw [Nat.add_mul, Nat.one_mul] at h2
      rw [h1]
      simp
      omega
    · obtain rfl : x = y := UInt8.toNat_inj.1 h
      simp
    · have h1 : decide (x < y) = false := by simp [UInt8.lt_iff_toNat_lt]; omega
      have h3 : (x == y) = false := by
        have : x ≠ y := fun e => by rw [e] at h; omega
        simp [this]
      have h2 : (y.toNat - 48 + 1) * p ≤ (x.toNat - 48) * p := Nat.mul_le_mul_right _ (by omega)
      rw [Nat.add_mul, Nat.one_mul] at h2
      rw [h1, h3]
      simp
      omega
theorem rate_less {n m : Nat} (hn : n ≠ 0 ∧ n ≤ 1000000) (hm : m ≠ 0 ∧ m ≤ 1000000) : Op.bytesLess (rateText n) (rateText m) = decide (n < m) := by
  by_cases e1 : n = 1000000
  · subst e1
    by_cases e2 : m = 1000000
    · subst e2; decide
    · rw [rateText_is (n := m) (by omega), decide_eq_false (by omega)]; rfl
  · by_cases e2 : m = 1000000
    · subst e2
      rw [rateText_is (n := n) (by omega), decide_eq_true (by omega)]; rfl
    · obtain ⟨t, x, h1, hx, hd, hl, h6⟩ := rate_digits (n := n) hn.1 (by omega)
      obtain ⟨t', x', h1', hx', hd', hl', h6'⟩ := rate_digits (n := m) hm.1 (by omega)
      rw [rateText_is (n := n) (by omega), rateText_is (n := m) (by omega), h1, h1']
      have := less_trimmed (i := 6 - (t ++ [x]).length) (j := 6 - (t' ++ [x']).length) hd hd' (.inr ⟨t, x, rfl, hx⟩) (.inr ⟨t', x', rfl, hx'⟩) (by omega)
      rw [h6, h6', (six_is (n := n) (by omega)).2.2.2, (six_is (n := m) (by omega)).2.2.2] at this
      simp only [Op.bytesLess]
      rw [this]
      simp
theorem rate_same {n m : Nat} (hn : n ≠ 0 ∧ n ≤ 1000000) (hm : m ≠ 0 ∧ m ≤ 1000000) : (rateText n == rateText m) = decide (n = m) := by
  by_cases h : n = m
  · subst h; simp
  · rw [decide_eq_false h, beq_eq_false_iff_ne]
    intro e
    have h1 := rated_text hn.1 hn.2
    rw [e, rated_text hm.1 hm.2] at h1
    injection h1 with h1 _
    omega
theorem digits_less (n m : Nat) : (decide ((Lib.decDigits n).length < (Lib.decDigits m).length) || (decide ((Lib.decDigits n).length = (Lib.decDigits m).length) && Op.bytesLess (Lib.decDigits n) (Lib.decDigits m))) = decide (n < m) := by
  obtain ⟨v1, d1⟩ := val_decDigits n
  obtain ⟨v2, d2⟩ := val_decDigits m
  have key : ∀ a b : Nat, (Lib.decDigits a).length < (Lib.decDigits b).length → a < b := fun a b h => by
    obtain ⟨va, da⟩ := val_decDigits a
    obtain ⟨vb, db⟩ := val_decDigits b
    have la := val_lt da
    rw [va] at la
    have hb0 : b ≠ 0 := by
      rintro rfl
      have h1 : (Lib.decDigits 0).length = 1 := by rw [Lib.decDigits_length]; exact Lib.nDigits_small (by decide)
      have h2 := List.length_pos_iff.2 (decDigits_ne a)
      omega
    obtain ⟨x, r, h1, h2⟩ := decDigits_head b hb0
    have hb := val_ge (r := r) (db x (by rw [h1]; simp)) h2
    rw [← h1, vb] at hb
    rw [h1, List.length_cons] at h
    exact Nat.lt_of_lt_of_le la (Nat.le_trans (Nat.pow_le_pow_right (by decide) (by omega)) hb)
  rcases Nat.lt_trichotomy (Lib.decDigits n).length (Lib.decDigits m).length with h | h | h
  · rw [decide_eq_true h, decide_eq_true (key n m h)]; rfl
  · have := less_val d1 d2 h
    rw [v1, v2] at this
    rw [this, decide_eq_false (by omega), decide_eq_true h]
    simp
  · have := key m n h
    rw [decide_eq_false (by omega), decide_eq_false (by omega : ¬ (Lib.decDigits n).length = (Lib.decDigits m).length), decide_eq_false (by omega)]
    rfl
theorem digits_same (n m : Nat) : (Lib.decDigits n == Lib.decDigits m) = decide (n = m) := by
  by_cases h : n = m
  · subst h; simp
  · rw [decide_eq_false h, beq_eq_false_iff_ne]
    intro e
    have h1 := (val_decDigits n).1
    rw [e, (val_decDigits m).1] at h1
    omega
end Go.Proofs.YtbcmchkgamkceaaGreatDoor
