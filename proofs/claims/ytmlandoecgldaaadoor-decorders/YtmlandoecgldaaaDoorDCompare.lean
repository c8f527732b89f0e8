/-
  Contracts of package dec's sizes, order, Compare and Of. No statement of the seat is proved here.
-/
import Derived.Test.YtmlandoecgldaaaDoorDCheck
namespace Go.Proofs.YtmlandoecgldaaaDoor
open Go.RowKit

/-- -1, 0 or 1. -/
def cmpI (a b : Int) : Int := if a < b then -1 else if b < a then 1 else 0
theorem cmpI_scale (a b : Int) (k : Nat) (hk : 0 < k) : cmpI (a * k) (b * k) = cmpI a b := by
  unfold cmpI
  have h : ∀ x y : Int, x * (k : Int) < y * (k : Int) ↔ x < y := fun x y => Int.mul_lt_mul_right (by omega)
  simp only [h]
theorem cmpI_swap (a b : Int) : cmpI a b = - cmpI b a := by unfold cmpI; split <;> split <;> (try split) <;> omega

/-- How great a number is, its sign aside, so that one below 1 is whole. -/
def sizeOf18 (d : D) : Nat := d.c * 10 ^ (d.e + 18).toNat
/-- A number, so much greater that it is whole. -/
def wholeOf (d : D) : Int := if d.neg then -(sizeOf18 d : Int) else sizeOf18 d

theorem cmp_calls (x y : Int) (w : World) : Calls Tryd.prog 55 #[.int .u64 x, .int .u64 y] w fun e w' => e = .returned (.int .i64 (cmpI x y)) ∧ w = w' := by
  rcases Int.lt_trichotomy x y with h | h | h
  · have hc : cmpI x y = -1 := by unfold cmpI; rw [if_pos h]
    rw [hc]
    go_enter Tryd.func55, Tryd.ntmps55
    go_wp2
    go_ret
    exact ⟨rfl, rfl⟩
  · subst h
    have hc : cmpI x x = 0 := by unfold cmpI; simp
    rw [hc]
    go_enter Tryd.func55, Tryd.ntmps55
    go_wp2
    go_ret
    exact ⟨rfl, rfl⟩
  · have hc : cmpI x y = 1 := by unfold cmpI; rw [if_neg (by omega), if_pos h]
    have h2 : ¬ x < y := by omega
    rw [hc]
    go_enter Tryd.func55, Tryd.ntmps55
    go_wp2
    go_ret
    exact ⟨rfl, rfl⟩

/-- Exponents that may be. -/
def Near (d : D) : Prop := d.c < Two64 ∧ -18 ≤ d.e ∧ d.e ≤ 18
theorem D.One.near {d : D} (h : d.One) : Near d := by
  rcases h.1 with ⟨h0, h1⟩ | ⟨h0, h1, h2, h3, h4⟩
  · exact ⟨by rw [h0]; decide, by omega, by omega⟩
  · exact ⟨h4, h1, h2⟩

theorem size_split (a b : D) (ha : Near a) (hb : Near b) (h : b.e ≤ a.e) : sizeOf18 a = a.c * 10 ^ (a.e - b.e).toNat * 10 ^ (b.e + 18).toNat := by
  unfold sizeOf18
  rw [Nat.mul_assoc, ← Nat.pow_add]
  congr 2
  have := ha.2; have := hb.2; omega
theorem sizes_math (a b : D) (ha : Near a) (hb : Near b) (h : b.e ≤ a.e) : cmpI (sizeOf18 a) (sizeOf18 b) = if (lifted a.c (a.e - b.e)).2 then cmpI ((lifted a.c (a.e - b.e)).1 : Nat) (b.c : Int) else 1 := by
  have hp : 0 < 10 ^ (b.e + 18).toNat := Nat.pos_of_ne_zero (by simp)
  have e := cmpI_scale ((a.c * 10 ^ (a.e - b.e).toNat : Nat) : Int) (b.c : Int) (10 ^ (b.e + 18).toNat) hp
  have e1 : ((sizeOf18 a : Nat) : Int) = ((a.c * 10 ^ (a.e - b.e).toNat : Nat) : Int) * ((10 ^ (b.e + 18).toNat : Nat) : Int) := by rw [size_split a b ha hb h, Int.natCast_mul]
  have e2 : ((sizeOf18 b : Nat) : Int) = (b.c : Int) * ((10 ^ (b.e + 18).toNat : Nat) : Int) := by unfold sizeOf18; rw [Int.natCast_mul]
  rw [e1, e2, e]
  unfold lifted
  split
  · rfl
  · simp only [Bool.false_eq_true, ite_false]
    unfold cmpI
    have := hb.1
    rw [if_neg (by omega), if_pos (by omega)]

set_option maxRecDepth 100000 in
set_option maxHeartbeats 2000000 in
theorem sizes_ge (a b : D) (ha : Near a) (hb : Near b) (hle : b.e ≤ a.e) (w : World) : Calls Tryd.prog 46 #[dV a, dV b] w fun e w' => e = .returned (.int .i64 (cmpI (sizeOf18 a) (sizeOf18 b))) ∧ Below w.heap.size w w' := by
  rw [sizes_math a b ha hb hle]
  have hL := fun W => lift_calls a.c (a.e - b.e) W ha.1 (by have := ha.2; have := hb.2; omega)
  obtain ⟨r, f, hr⟩ : ∃ r f, lifted a.c (a.e - b.e) = (r, f) := ⟨_, _, rfl⟩
  rw [hr] at hL ⊢
  simp only []
  obtain ⟨x, hx⟩ : ∃ x : Int, x = (a.c : Int) := ⟨_, rfl⟩
  obtain ⟨y, hy⟩ : ∃ y : Int, y = a.e := ⟨_, rfl⟩
  obtain ⟨n, hn⟩ : ∃ n : Bool, n = a.neg := ⟨_, rfl⟩
  obtain ⟨x', hx'⟩ : ∃ x : Int, x = (b.c : Int) := ⟨_, rfl⟩
  obtain ⟨y', hy'⟩ : ∃ y : Int, y = b.e := ⟨_, rfl⟩
  obtain ⟨n', hn'⟩ : ∃ n : Bool, n = b.neg := ⟨_, rfl⟩
  obtain ⟨z, hz⟩ : ∃ z : Int, z = (r : Int) := ⟨_, rfl⟩
  unfold dV
  rw [← hx, ← hy, ← hn, ← hx', ← hy', ← hn', ← hz]
  simp only [← hx, ← hy, ← hy', ← hz] at hL
  have HL := Lib.hid hL
  have hyy : ¬ y < y' := by omega
  have hr1 : -36 ≤ y - y' ∧ y - y' ≤ 36 := by have := ha.2; have := hb.2; omega
  clear hL hr hx hy hn hx' hy' hn' hz ha hb hle
  have HB := Lib.hid (show Below w.heap.size w ((w.alloc (.cells #[.bool n, .int .u64 x, .int .i64 y] 24)).alloc (.cells #[.bool n', .int .u64 x', .int .i64 y'] 24)) from ((Below.refl _ _).alloc (Nat.le_refl _) _).alloc (by simp) _)
  go_enter Tryd.func46, Tryd.ntmps46
  go_wp2_with fail
  refine (HL.out _).mono ?_
  rintro e w1 ⟨rfl, rfl⟩
  cases f
  · go_wp2_with fail
    go_ret
    exact ⟨rfl, HB.out⟩
  · go_wp2_with fail
    refine (cmp_calls _ _ _).mono ?_
    rintro e w1 ⟨rfl, rfl⟩
    go_wp2_with fail
    go_ret
    exact ⟨rfl, HB.out⟩

set_option maxRecDepth 100000 in
set_option maxHeartbeats 2000000 in
theorem sizes_calls (a b : D) (ha : Near a) (hb : Near b) (w : World) : Calls Tryd.prog 46 #[dV a, dV b] w fun e w' => e = .returned (.int .i64 (cmpI (sizeOf18 a) (sizeOf18 b))) ∧ Below w.heap.size w w' := by
  by_cases hle : b.e ≤ a.e
  · exact sizes_ge a b ha hb hle w
  · have hS := fun W => sizes_ge b a hb ha (by omega) W
    rw [cmpI_swap]
    obtain ⟨q, hq⟩ : ∃ q : Int, q = cmpI (sizeOf18 b) (sizeOf18 a) := ⟨_, rfl⟩
    have hq1 : -1 ≤ q ∧ q ≤ 1 := by rw [hq]; unfold cmpI; split; omega; split <;> omega
    rw [← hq]
    obtain ⟨x, hx⟩ : ∃ x : Int, x = (a.c : Int) := ⟨_, rfl⟩
    obtain ⟨y, hy⟩ : ∃ y : Int, y = a.e := ⟨_, rfl⟩
    obtain ⟨n, hn⟩ : ∃ n : Bool, n = a.neg := ⟨_, rfl⟩
    obtain ⟨x', hx'⟩ : ∃ x : Int, x = (b.c : Int) := ⟨_, rfl⟩
    obtain ⟨y', hy'⟩ : ∃ y : Int, y = b.e := ⟨_, rfl⟩
    obtain ⟨n', hn'⟩ : ∃ n : Bool, n = b.neg := ⟨_, rfl⟩
    unfold dV at hS ⊢
    rw [← hx, ← hy, ← hn, ← hx', ← hy', ← hn']
    simp only [← hx, ← hy, ← hn, ← hx', ← hy', ← hn', ← hq] at hS
    have HS := Lib.hid hS
    have hyy : y < y' := by omega
    clear hS hq hx hy hn hx' hy' hn' ha hb hle
    have HB := Lib.hid (show Below w.heap.size w ((w.alloc (.cells #[.bool n, .int .u64 x, .int .i64 y] 24)).alloc (.cells #[.bool n', .int .u64 x', .int .i64 y'] 24)) from ((Below.refl _ _).alloc (Nat.le_refl _) _).alloc (by simp) _)
    go_enter Tryd.func46, Tryd.ntmps46
    go_wp2_with fail
    refine (HS.out _).mono ?_
    rintro e w1 ⟨rfl, hb⟩
    have HB2 := Lib.hid (below_then HB.out hb)
    clear hb HS HB
    go_wp2_with fail
    go_ret
    exact ⟨rfl, HB2.out⟩

theorem whole_cmp (a b : D) (ha : a.One) (hb : b.One) : cmpI (wholeOf a) (wholeOf b) = if a.neg && b.neg then cmpI (sizeOf18 b) (sizeOf18 a) else if a.neg then -1 else if b.neg then 1 else cmpI (sizeOf18 a) (sizeOf18 b) := by
  have key : ∀ d : D, d.One → d.neg = true → 0 < sizeOf18 d := fun d hd hn => by
    unfold sizeOf18
    refine Nat.mul_pos ?_ (Nat.pos_of_ne_zero (by simp))
    rcases Nat.eq_zero_or_pos d.c with h | h
    · have := hd.2 h; rw [hn] at this; cases this
    · exact h
  unfold wholeOf
  cases h1 : a.neg <;> cases h2 : b.neg
  · simp
  · have := key b hb h2
    simp
    unfold cmpI
    rw [if_neg (by omega), if_pos (by omega)]
  · have := key a ha h1
    simp
    unfold cmpI
    rw [if_pos (by omega)]
  · simp
    unfold cmpI
    have e : ∀ x y : Nat, (-(x : Int) < -(y : Int)) ↔ ((y : Int) < (x : Int)) := fun x y => by omega
    simp only [e]

set_option maxRecDepth 100000 in
set_option maxHeartbeats 2000000 in
theorem order_calls (a b : D) (ha : a.One) (hb : b.One) (w : World) : Calls Tryd.prog 32 #[dV a, dV b] w fun e w' => e = .returned (.int .i64 (cmpI (wholeOf a) (wholeOf b))) ∧ Below w.heap.size w w' := by
  rw [whole_cmp a b ha hb]
  have hS := fun W => sizes_calls a b ha.near hb.near W
  have hT := fun W => sizes_calls b a hb.near ha.near W
  obtain ⟨q, hq⟩ : ∃ q : Int, q = cmpI (sizeOf18 b) (sizeOf18 a) := ⟨_, rfl⟩
  obtain ⟨q', hq'⟩ : ∃ q : Int, q = cmpI (sizeOf18 a) (sizeOf18 b) := ⟨_, rfl⟩
  rw [← hq, ← hq']
  obtain ⟨x, hx⟩ : ∃ x : Int, x = (a.c : Int) := ⟨_, rfl⟩
  obtain ⟨y, hy⟩ : ∃ y : Int, y = a.e := ⟨_, rfl⟩
  obtain ⟨n, hn⟩ : ∃ n : Bool, n = a.neg := ⟨_, rfl⟩
  obtain ⟨x', hx'⟩ : ∃ x : Int, x = (b.c : Int) := ⟨_, rfl⟩
  obtain ⟨y', hy'⟩ : ∃ y : Int, y = b.e := ⟨_, rfl⟩
  obtain ⟨n', hn'⟩ : ∃ n : Bool, n = b.neg := ⟨_, rfl⟩
  unfold dV at hS hT ⊢
  rw [← hx, ← hy, ← hn, ← hx', ← hy', ← hn']
  simp only [← hx, ← hy, ← hn, ← hx', ← hy', ← hn', ← hq, ← hq'] at hS hT
  have HS := Lib.hid hS
  have HT := Lib.hid hT
  clear hS hT hq hq' hx hy hn hx' hy' hn' ha hb
  have HB := Lib.hid (show Below w.heap.size w ((w.alloc (.cells #[.bool n, .int .u64 x, .int .i64 y] 24)).alloc (.cells #[.bool n', .int .u64 x', .int .i64 y'] 24)) from ((Below.refl _ _).alloc (Nat.le_refl _) _).alloc (by simp) _)
  go_enter Tryd.func32, Tryd.ntmps32
  cases n <;> cases n'
  · go_wp2_with fail
    refine (HS.out _).mono ?_
    rintro e w1 ⟨rfl, hb⟩
    have HB2 := Lib.hid (below_then HB.out hb)
    clear hb HS HB HT
    go_wp2_with fail
    go_ret
    exact ⟨rfl, HB2.out⟩
  · go_wp2_with fail
    go_ret
    exact ⟨rfl, HB.out⟩
  · go_wp2_with fail
    go_ret
    exact ⟨rfl, HB.out⟩
  · go_wp2_with fail
    refine (HT.out _).mono ?_
    rintro e w1 ⟨rfl, hb⟩
    have HB2 := Lib.hid (below_then HB.out hb)
    clear hb HS HB HT
    go_wp2_with fail
    go_ret
    exact ⟨rfl, HB2.out⟩
end Go.Proofs.YtmlandoecgldaaaDoor
