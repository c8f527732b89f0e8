/-
  The walk through VarintReads: whatever bytes, number and bool it is handed, it returns true, and changes nothing that was there. The statement itself is proved in the last text.
-/
import Derived.Test.YtiodeaoollhcgaaVAwake
import Derived.Test.YtiodeaoollhcgaaVReadNil
import Derived.Test.YtiodeaoollhcgaaVRefGet
import Derived.Deep.RegionHeld3
namespace Go.Proofs.Ytiodeaoollhcgaa
open Go.RowKit

/-- What stays while a Cur is only looked at, and what is wanted of it. -/
structure ReadsSo (we : World) (R : Option Addr) (p q : Nat) (s : St) (c a : Int) (w' : World) : Prop where
  kept : Below we.heap.size we w'
  cur : CurOk R w' p s none
  want : Box w' q 40 [.int .i64 c, .int .i64 a]

section
variable {we w' w'' : World} {R : Option Addr} {p q : Nat} {s : St} {c a : Int}
theorem ReadsSo.keep (h : ReadsSo we R p q s c a w') (hb : Below w'.heap.size w' w'') : ReadsSo we R p q s c a w'' := ⟨below_then h.kept hb, h.cur.keep hb, h.want.keep hb⟩
theorem ReadsSo.drew (h : ReadsSo we R p q s c a w') : ReadsSo we R p q s c a w'.drew := h.keep ⟨rfl, rfl, rfl, Nat.le_refl _, fun _ _ => rfl⟩
theorem ReadsSo.cells (h : ReadsSo we R p q s c a w') : w'.cell? ⟨q, 0, none⟩ = some (.int .i64 c) ∧ w'.cell? ⟨q, 1, none⟩ = some (.int .i64 a) ∧ ReadsSo we R p q s c a w' := ⟨h.want.cell 0, h.want.cell 1, h⟩
theorem ReadsSo.of (h : w'.cell? ⟨q, 0, none⟩ = some (.int .i64 c) ∧ w'.cell? ⟨q, 1, none⟩ = some (.int .i64 a) ∧ ReadsSo we R p q s c a w') : ReadsSo we R p q s c a w' := h.2.2
theorem ReadsSo.at_ (h : ReadsSo we R p q s c a w') :
    Calls Try.prog 21 #[.pointer (some ⟨p, 0, none⟩)] w' fun e w'' => e = .returned (.int .i64 s.t) ∧ ReadsSo we R p q s c a w'' :=
  h.cur.at_.mono fun _ _ ⟨he, hw⟩ => ⟨he, by rw [← hw]; exact h⟩
theorem ReadsSo.fault (h : ReadsSo we R p q s c a w') :
    Calls Try.prog 22 #[.pointer (some ⟨p, 0, none⟩)] w' fun e w'' => e = .returned (.agg #[.int .i64 s.c, .int .i64 s.a]) ∧ ReadsSo we R p q s c a w'' :=
  h.cur.fault'.mono fun _ _ ⟨he, hb⟩ => ⟨he, h.keep hb⟩
theorem ReadsSo.awake (h : ReadsSo we R p q s c a w') :
    Calls Try.prog 14 #[] w' fun e w'' => e = .returned (.bool true) ∧ ReadsSo we R p q s c a w'' :=
  (awake_calls w').mono fun _ _ ⟨he, hb⟩ => ⟨he, h.keep hb⟩
end

/-- What Read makes of a Cur of which some bytes were taken. -/
theorem num_at (bs : List Int) (t x j : Nat) (c : Int) (h : scan 0 0 (bs.drop t) = (x, j, c)) :
    (⟨bs, t, 0, 0⟩ : St).num = (x, ⟨bs, t + j, c, if c = 0 then 0 else if c = 13 then bs.length else (t : Int) + j - 1⟩) := by
  unfold St.num St.fail
  rw [if_neg (by simp)]
  simp only [h]
  by_cases hc : c = 0
  · subst hc
    simp
  · simp [hc]

theorem num_wrong (bs : List Int) (t : Nat) (a : Int) : (⟨bs, t, 19, a⟩ : St).num = (0, ⟨bs, t, 19, a⟩) := by
  unfold St.num
  rw [if_pos (by simp)]

theorem take_start (bs : List Int) (t : Nat) (h : t ≤ bs.length) : ((St.start bs).take t).2 = ⟨bs, t, 0, 0⟩ := by
  unfold St.start St.take St.next
  rw [if_neg (by simp), if_neg (by omega), if_neg (by simp; omega)]
  simp

set_option maxRecDepth 100000 in
set_option maxHeartbeats 4000000 in
theorem reads_walk (A : Option Addr) (n cap : Nat) (bs : List Int) (ahead : Int) (wrong : Bool) (w : World) (hl : bs.length = n) (hv : Lies w A (by8 bs)) (hs : ∀ z ∈ bs, 0 ≤ z ∧ z < 256) (hnil : A = none → cap = 0) (hcap : n ≤ cap) :
    Calls Try.prog 5 #[.slice A n cap, .int .i64 ahead, .bool wrong] w fun e w' => e = .returned (.bool true) ∧ Below w.heap.size w w' := by
  have HL := Lib.hid hl
  have HV := Lib.hid hv
  have HS := Lib.hid hs
  have HN := Lib.hid hnil
  clear hl hv hs hnil
  by_cases hout : 300 < n ∨ ahead < 0 ∨ (n : Int) < ahead
  · have hform : (300 : Int) < (n : Int) ∨ (¬ (300 : Int) < (n : Int) ∧ ahead < 0) ∨ (¬ (300 : Int) < (n : Int) ∧ ¬ ahead < 0 ∧ (n : Int) < ahead) := by omega
    clear hout
    rcases hform with h3 | ⟨h3, h4⟩ | ⟨h3, h4, h5⟩
    all_goals go_enter Try.func5, Try.ntmps5
    all_goals go_wp2_with fail
    all_goals refine (read_nil w).mono ?_
    all_goals rintro e w1 ⟨rfl, hb1⟩
    all_goals have HW := Lib.hid hb1
    all_goals clear hb1
    all_goals go_wp2_with fail
    all_goals refine (awake_calls _).mono ?_
    all_goals rintro e w9 ⟨rfl, hb9⟩
    all_goals have HW9 := Lib.hid (below_then HW.out hb9)
    all_goals clear hb9
    all_goals go_wp2_with fail
    all_goals go_ret
    all_goals exact ⟨rfl, HW9.out⟩
  obtain ⟨t, rfl⟩ : ∃ t : Nat, ahead = (t : Int) := ⟨ahead.toNat, by omega⟩
  have h3 : ¬ (300 : Int) < (n : Int) := by omega
  have h4 : ¬ (t : Int) < 0 := by omega
  have h5 : ¬ (n : Int) < (t : Int) := by omega
  have htn : t ≤ n := by omega
  clear hout
  go_enter Try.func5, Try.ntmps5
  go_wp2_with fail
  refine (read_nil w).mono ?_
  rintro e w1 ⟨rfl, hb1⟩
  have HW1 := Lib.hid hb1
  clear hb1
  go_wp2_with fail
  refine (new_calls w1 A n cap bs HL.out (HV.out.keep HW1.out) HS.out (by omega) HN.out).mono ?_
  rintro e w2 ⟨p, R, hp, _, rfl, hc2, hb2⟩
  have HW2 := Lib.hid (below_then HW1.out hb2)
  have hpw : w.heap.size ≤ p := by have := HW1.out.size; omega
  clear hb2 HW1 hp
  go_wp2_with fail
  refine (take_calls hc2 t).mono ?_
  rintro e w3 ⟨B, capB, rfl, _, hc3, hb3⟩
  have e3 := take_start bs t (by rw [HL.out]; exact htn)
  rw [e3] at hc3
  have HW3 := Lib.hid (HW2.out.trans (hb3.below hpw HW2.out.size))
  have HC3 := Lib.hid hc3
  clear hb3 HW2 hc2 e3 hc3
  generalize ((St.start bs).take t).1.length = tl
  cases wrong
  · go_wp2_with fail
    refine (read_calls HC3.out).mono ?_
    rintro e w4 ⟨rfl, hc4, hb4⟩
    obtain ⟨x, j, c, hsc⟩ : ∃ x j c, scan 0 0 (bs.drop t) = (x, j, c) := ⟨_, _, _, rfl⟩
    rw [num_at bs t x j c hsc] at hc4 ⊢
    have hask := (scan_asked (bs.drop t) 0 0).2.1
    have hcod := scan_codes (bs.drop t) 0 0
    rw [hsc, List.length_drop, HL.out] at hask
    rw [hsc] at hcod
    simp only at hask hcod hc4
    rw [HL.out] at hc4
    have HSC := Lib.hid hsc
    have HW4 := Lib.hid (HW3.out.trans (hb4.below hpw HW3.out.size))
    have hlies := (HV.out.keep HW4.out).cut cap t (n - t) (by rw [by8_length, HL.out]; omega) (by rw [by8_length, HL.out]; exact hcap)
    have hvl : ((by8 bs).drop t).take (n - t) = by8 (bs.drop t) := by
      rw [List.take_of_length_le (by rw [List.length_drop, by8_length, HL.out]; omega)]
      simp [by8]
    rw [hvl] at hlies
    have HLC := Lib.hid hlies
    have hsl := fun W => run_slice_from W A n cap t htn
    clear hb4 HW3 HC3 hsc hlies hvl
    go_wp2_with fail
    refine (rget_calls w4 (cutA A cap t) (n - t) (cap - t) (bs.drop t) (by rw [List.length_drop, HL.out]) HLC.out (fun z hz => HS.out z (List.mem_of_mem_drop hz)) (by unfold maxLen; omega)).mono ?_
    rintro e w5 ⟨rfl, hs5⟩
    rw [HSC.out]
    simp only
    have HW5 := Lib.hid (HW4.out.trans hs5.below)
    have HC5 := Lib.hid (hc4.same hs5)
    clear hs5 HW4 hc4 HLC hsl
    rcases hcod with rfl | rfl | rfl | rfl
    · have ht1 : ((x : Int) == (x : Int)) = true := by simp
      have ht2 : ((t : Int) + (j : Int) == (t : Int) + (j : Int)) = true := by simp
      have ht3 : ((n : Int) == (n : Int)) = true := by simp
      have ht4 : ((t : Int) + (j : Int) - 1 == (t : Int) + (j : Int) - 1) = true := by simp
      have hwr : IntKind.i64.wrap ((t : Int) + (j : Int)) = (t : Int) + (j : Int) := IntWalk.i64_in _ (by omega)
      go_wp2_with fail
      have hc6 : CurOk R w5 p ⟨bs, t + j, 0, 0⟩ none := by
        have := HC5.out
        simpa using this
      have hbk : Below w5.heap.size w5 (w5.alloc (.cells #[.int .i64 0, .int .i64 (0)] 40)) := (Below.refl _ _).alloc (Nat.le_refl _) _
      have HK0 := Lib.hid (show ReadsSo w5 R p w5.heap.size ⟨bs, t + j, 0, 0⟩ 0 (0) (w5.alloc (.cells #[.int .i64 0, .int .i64 (0)] 40)) from ⟨hbk, hc6.keep hbk, Box.new w5 40 [.int .i64 0, .int .i64 (0)]⟩)
      clear hc6 hbk HC5
      go_region_held3 (fun w' => w'.cell? ⟨w5.heap.size, 0, none⟩ = some (.int .i64 0) ∧ w'.cell? ⟨w5.heap.size, 1, none⟩ = some (.int .i64 (0)) ∧ ReadsSo w5 R p w5.heap.size ⟨bs, t + j, 0, 0⟩ 0 (0) w')
        (first | exact HK0.out.drew.cells | exact ReadsSo.cells (by assumption) | assumption)
        (first | (go_at_call 21; refine (ReadsSo.at_ (we := w5) (R := R) (p := p) (q := w5.heap.size) (s := ⟨bs, t + j, 0, 0⟩) (c := 0) (a := 0) ?_).mono ?_; exact ReadsSo.of (by assumption); rintro e w' ⟨rfl, hb⟩) | (go_at_call 22; refine (ReadsSo.fault (we := w5) (R := R) (p := p) (q := w5.heap.size) (s := ⟨bs, t + j, 0, 0⟩) (c := 0) (a := 0) ?_).mono ?_; exact ReadsSo.of (by assumption); rintro e w' ⟨rfl, hb⟩) | (go_at_call 14; refine (ReadsSo.awake (we := w5) (R := R) (p := p) (q := w5.heap.size) (s := ⟨bs, t + j, 0, 0⟩) (c := 0) (a := 0) ?_).mono ?_; exact ReadsSo.of (by assumption); rintro e w' ⟨rfl, hb⟩))
      have HW9 := Lib.hid (HW5.out.trans (hb.kept.mono HW5.out.size))
      clear hb HK0
      go_wp2_with fail
      go_ret
      exact ⟨rfl, HW9.out⟩
    · have ht1 : ((x : Int) == (x : Int)) = true := by simp
      have ht2 : ((t : Int) + (j : Int) == (t : Int) + (j : Int)) = true := by simp
      have ht3 : ((n : Int) == (n : Int)) = true := by simp
      have ht4 : ((t : Int) + (j : Int) - 1 == (t : Int) + (j : Int) - 1) = true := by simp
      have hwr : IntKind.i64.wrap ((t : Int) + (j : Int)) = (t : Int) + (j : Int) := IntWalk.i64_in _ (by omega)
      go_wp2_with fail
      have hc6 : CurOk R w5 p ⟨bs, t + j, 10, (t : Int) + (j : Int) - 1⟩ none := by
        have := HC5.out
        simpa using this
      have hbk : Below w5.heap.size w5 (w5.alloc (.cells #[.int .i64 10, .int .i64 ((t : Int) + (j : Int) - 1)] 40)) := (Below.refl _ _).alloc (Nat.le_refl _) _
      have HK0 := Lib.hid (show ReadsSo w5 R p w5.heap.size ⟨bs, t + j, 10, (t : Int) + (j : Int) - 1⟩ 10 ((t : Int) + (j : Int) - 1) (w5.alloc (.cells #[.int .i64 10, .int .i64 ((t : Int) + (j : Int) - 1)] 40)) from ⟨hbk, hc6.keep hbk, Box.new w5 40 [.int .i64 10, .int .i64 ((t : Int) + (j : Int) - 1)]⟩)
      clear hc6 hbk HC5
      go_region_held3 (fun w' => w'.cell? ⟨w5.heap.size, 0, none⟩ = some (.int .i64 10) ∧ w'.cell? ⟨w5.heap.size, 1, none⟩ = some (.int .i64 ((t : Int) + (j : Int) - 1)) ∧ ReadsSo w5 R p w5.heap.size ⟨bs, t + j, 10, (t : Int) + (j : Int) - 1⟩ 10 ((t : Int) + (j : Int) - 1) w')
        (first | exact HK0.out.drew.cells | exact ReadsSo.cells (by assumption) | assumption)
        (first | (go_at_call 21; refine (ReadsSo.at_ (we := w5) (R := R) (p := p) (q := w5.heap.size) (s := ⟨bs, t + j, 10, (t : Int) + (j : Int) - 1⟩) (c := 10) (a := (t : Int) + (j : Int) - 1) ?_).mono ?_; exact ReadsSo.of (by assumption); rintro e w' ⟨rfl, hb⟩) | (go_at_call 22; refine (ReadsSo.fault (we := w5) (R := R) (p := p) (q := w5.heap.size) (s := ⟨bs, t + j, 10, (t : Int) + (j : Int) - 1⟩) (c := 10) (a := (t : Int) + (j : Int) - 1) ?_).mono ?_; exact ReadsSo.of (by assumption); rintro e w' ⟨rfl, hb⟩) | (go_at_call 14; refine (ReadsSo.awake (we := w5) (R := R) (p := p) (q := w5.heap.size) (s := ⟨bs, t + j, 10, (t : Int) + (j : Int) - 1⟩) (c := 10) (a := (t : Int) + (j : Int) - 1) ?_).mono ?_; exact ReadsSo.of (by assumption); rintro e w' ⟨rfl, hb⟩))
      have HW9 := Lib.hid (HW5.out.trans (hb.kept.mono HW5.out.size))
      clear hb HK0
      go_wp2_with fail
      go_ret
      exact ⟨rfl, HW9.out⟩
    · have ht1 : ((x : Int) == (x : Int)) = true := by simp
      have ht2 : ((t : Int) + (j : Int) == (t : Int) + (j : Int)) = true := by simp
      have ht3 : ((n : Int) == (n : Int)) = true := by simp
      have ht4 : ((t : Int) + (j : Int) - 1 == (t : Int) + (j : Int) - 1) = true := by simp
      have hwr : IntKind.i64.wrap ((t : Int) + (j : Int)) = (t : Int) + (j : Int) := IntWalk.i64_in _ (by omega)
      go_wp2_with fail
      have hc6 : CurOk R w5 p ⟨bs, t + j, 13, (n : Int)⟩ none := by
        have := HC5.out
        simpa using this
      have hbk : Below w5.heap.size w5 (w5.alloc (.cells #[.int .i64 13, .int .i64 ((n : Int))] 40)) := (Below.refl _ _).alloc (Nat.le_refl _) _
      have HK0 := Lib.hid (show ReadsSo w5 R p w5.heap.size ⟨bs, t + j, 13, (n : Int)⟩ 13 ((n : Int)) (w5.alloc (.cells #[.int .i64 13, .int .i64 ((n : Int))] 40)) from ⟨hbk, hc6.keep hbk, Box.new w5 40 [.int .i64 13, .int .i64 ((n : Int))]⟩)
      clear hc6 hbk HC5
      go_region_held3 (fun w' => w'.cell? ⟨w5.heap.size, 0, none⟩ = some (.int .i64 13) ∧ w'.cell? ⟨w5.heap.size, 1, none⟩ = some (.int .i64 ((n : Int))) ∧ ReadsSo w5 R p w5.heap.size ⟨bs, t + j, 13, (n : Int)⟩ 13 ((n : Int)) w')
        (first | exact HK0.out.drew.cells | exact ReadsSo.cells (by assumption) | assumption)
        (first | (go_at_call 21; refine (ReadsSo.at_ (we := w5) (R := R) (p := p) (q := w5.heap.size) (s := ⟨bs, t + j, 13, (n : Int)⟩) (c := 13) (a := (n : Int)) ?_).mono ?_; exact ReadsSo.of (by assumption); rintro e w' ⟨rfl, hb⟩) | (go_at_call 22; refine (ReadsSo.fault (we := w5) (R := R) (p := p) (q := w5.heap.size) (s := ⟨bs, t + j, 13, (n : Int)⟩) (c := 13) (a := (n : Int)) ?_).mono ?_; exact ReadsSo.of (by assumption); rintro e w' ⟨rfl, hb⟩) | (go_at_call 14; refine (ReadsSo.awake (we := w5) (R := R) (p := p) (q := w5.heap.size) (s := ⟨bs, t + j, 13, (n : Int)⟩) (c := 13) (a := (n : Int)) ?_).mono ?_; exact ReadsSo.of (by assumption); rintro e w' ⟨rfl, hb⟩))
      have HW9 := Lib.hid (HW5.out.trans (hb.kept.mono HW5.out.size))
      clear hb HK0
      go_wp2_with fail
      go_ret
      exact ⟨rfl, HW9.out⟩
    · have ht1 : ((x : Int) == (x : Int)) = true := by simp
      have ht2 : ((t : Int) + (j : Int) == (t : Int) + (j : Int)) = true := by simp
      have ht3 : ((n : Int) == (n : Int)) = true := by simp
      have ht4 : ((t : Int) + (j : Int) - 1 == (t : Int) + (j : Int) - 1) = true := by simp
      have hwr : IntKind.i64.wrap ((t : Int) + (j : Int)) = (t : Int) + (j : Int) := IntWalk.i64_in _ (by omega)
      go_wp2_with fail
      have hc6 : CurOk R w5 p ⟨bs, t + j, 21, (t : Int) + (j : Int) - 1⟩ none := by
        have := HC5.out
        simpa using this
      have hbk : Below w5.heap.size w5 (w5.alloc (.cells #[.int .i64 21, .int .i64 ((t : Int) + (j : Int) - 1)] 40)) := (Below.refl _ _).alloc (Nat.le_refl _) _
      have HK0 := Lib.hid (show ReadsSo w5 R p w5.heap.size ⟨bs, t + j, 21, (t : Int) + (j : Int) - 1⟩ 21 ((t : Int) + (j : Int) - 1) (w5.alloc (.cells #[.int .i64 21, .int .i64 ((t : Int) + (j : Int) - 1)] 40)) from ⟨hbk, hc6.keep hbk, Box.new w5 40 [.int .i64 21, .int .i64 ((t : Int) + (j : Int) - 1)]⟩)
      clear hc6 hbk HC5
      go_region_held3 (fun w' => w'.cell? ⟨w5.heap.size, 0, none⟩ = some (.int .i64 21) ∧ w'.cell? ⟨w5.heap.size, 1, none⟩ = some (.int .i64 ((t : Int) + (j : Int) - 1)) ∧ ReadsSo w5 R p w5.heap.size ⟨bs, t + j, 21, (t : Int) + (j : Int) - 1⟩ 21 ((t : Int) + (j : Int) - 1) w')
        (first | exact HK0.out.drew.cells | exact ReadsSo.cells (by assumption) | assumption)
        (first | (go_at_call 21; refine (ReadsSo.at_ (we := w5) (R := R) (p := p) (q := w5.heap.size) (s := ⟨bs, t + j, 21, (t : Int) + (j : Int) - 1⟩) (c := 21) (a := (t : Int) + (j : Int) - 1) ?_).mono ?_; exact ReadsSo.of (by assumption); rintro e w' ⟨rfl, hb⟩) | (go_at_call 22; refine (ReadsSo.fault (we := w5) (R := R) (p := p) (q := w5.heap.size) (s := ⟨bs, t + j, 21, (t : Int) + (j : Int) - 1⟩) (c := 21) (a := (t : Int) + (j : Int) - 1) ?_).mono ?_; exact ReadsSo.of (by assumption); rintro e w' ⟨rfl, hb⟩) | (go_at_call 14; refine (ReadsSo.awake (we := w5) (R := R) (p := p) (q := w5.heap.size) (s := ⟨bs, t + j, 21, (t : Int) + (j : Int) - 1⟩) (c := 21) (a := (t : Int) + (j : Int) - 1) ?_).mono ?_; exact ReadsSo.of (by assumption); rintro e w' ⟨rfl, hb⟩))
      have HW9 := Lib.hid (HW5.out.trans (hb.kept.mono HW5.out.size))
      clear hb HK0
      go_wp2_with fail
      go_ret
      exact ⟨rfl, HW9.out⟩
  · go_wp2_with fail
    refine (fail_calls HC3.out 19 5).mono ?_
    rintro e w4 ⟨rfl, hc4, hb4⟩
    have e4 : (St.fail ⟨bs, t, 0, 0⟩ 19 5) = ⟨bs, t, 19, 5⟩ := rfl
    rw [e4] at hc4
    have HW4 := Lib.hid (HW3.out.trans (hb4.below hpw HW3.out.size))
    clear hb4 HW3 HC3 e4
    go_wp2_with fail
    refine (read_calls hc4).mono ?_
    rintro e w5 ⟨rfl, hc5, hb5⟩
    rw [num_wrong] at hc5 ⊢
    have HW5 := Lib.hid (HW4.out.trans (hb5.below hpw HW4.out.size))
    clear hb5 HW4 hc4
    go_wp2_with fail
    refine hc5.at_.mono ?_
    rintro e w6 ⟨rfl, rfl⟩
    have t1 : ((t : Int) == (t : Int)) = true := by simp
    go_wp2_with fail
    refine hc5.fault'.mono ?_
    rintro e w6 ⟨rfl, hb6⟩
    have HW6 := Lib.hid (below_then HW5.out hb6)
    clear hb6 HW5 hc5
    go_wp2_with fail
    refine (awake_calls _).mono ?_
    rintro e w9 ⟨rfl, hb9⟩
    have HW9 := Lib.hid (below_then HW6.out hb9)
    clear hb9
    go_wp2_with fail
    go_ret
    exact ⟨rfl, HW9.out⟩
end Go.Proofs.Ytiodeaoollhcgaa
