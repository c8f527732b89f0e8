/-
  Package num: the closure that puts a digit to a number. No statement of the seat is proved here.
-/
import Derived.Test.YtgcacbkoilmofaaDoorKStr
import Derived.Test.YtgcacbkoilmofaaDoorDigs
namespace Go.Proofs.YtgcacbkoilmofaaDoor
open Go.RowKit

def MaxI : Nat := 9223372036854775807
/-- What is known of a number whose digits make v. -/
structure Tog (v n : Nat) (fits : Bool) : Prop where
  small : n ≤ MaxI
  plain : fits = true → n = v
  great : fits = false → MaxI < v

/-- What the closure leaves. -/
structure PutSo (B gn gf v : Nat) (w w' : World) : Prop where
  kept : Below B w w'
  has : ∃ (n : Nat) (fits : Bool), Box w' gn 3 [.int .i64 n] ∧ Box w' gf 4 [.bool fits] ∧ Tog v n fits

set_option maxRecDepth 100000 in
set_option maxHeartbeats 2000000 in
theorem put_calls (w : World) (B gn gf v n d : Nat) (fits : Bool) (hd : d ≤ 9) (hn : Box w gn 3 [.int .i64 n]) (hf : Box w gf 4 [.bool fits]) (ht : Tog v n fits) (h1 : B ≤ gn) (h2 : B ≤ gf) (h3 : gn ≠ gf) :
    Calls Tryd.prog 27 #[.int .i64 d, .pointer (some ⟨gf, 0, none⟩), .pointer (some ⟨gn, 0, none⟩)] w fun e w' => e = .returned (.tuple #[]) ∧ PutSo B gn gf (10 * v + d) w w' := by
  have cn : w.cell? ⟨gn, 0, none⟩ = some (.int .i64 n) := hn.cell 0
  have cf : w.cell? ⟨gf, 0, none⟩ = some (.bool fits) := hf.cell 0
  have fn := hn.frozen 0
  have ff := hf.frozen 0
  have h3' : gf ≠ gn := fun h => h3 h.symm
  have hsm := ht.small
  obtain ⟨x, hx⟩ : ∃ x : Int, x = (n : Int) := ⟨_, rfl⟩
  obtain ⟨y, hy⟩ : ∃ y : Int, y = (d : Int) := ⟨_, rfl⟩
  have hx0 : 0 ≤ x := by omega
  have hxm : x ≤ 9223372036854775807 := by unfold MaxI at hsm; omega
  have hy0 : 0 ≤ y := by omega
  have hy9 : y ≤ 9 := by omega
  rw [← hx] at cn
  rw [← hy]
  rcases fits with _ | _
  · have HH := Lib.hid (And.intro (And.intro hn hf) (And.intro ht hx))
    clear hn hf ht hx hy hsm
    go_enter Tryd.func27, Tryd.ntmps27
    go_wp2_with fail
    refine bodyPost_end (v := .tuple #[]) (by simp [results, Tryd.results27, go_sem]) rfl ⟨rfl, ?_⟩
    refine ⟨below_set (Below.refl _ _) h2 _ _, n, false, HH.out.1.1.far (q := ⟨gf, 0, none⟩) h3 _, HH.out.1.2.set 0 _, ?_⟩
    have := HH.out.2.1
    exact ⟨this.small, fun h => (by cases h), fun _ => by have := this.great rfl; omega⟩
  · obtain ⟨q, hq⟩ : ∃ q : Int, q = (9223372036854775807 - y) / 10 := ⟨_, rfl⟩
    have hw1 : IntKind.i64.wrap (9223372036854775807 - y) = 9223372036854775807 - y := by rw [IntKind.wrap_i64]; omega
    have hw2 : IntKind.i64.wrap ((9223372036854775807 - y).tdiv 10) = q := by rw [Int.tdiv_eq_ediv_of_nonneg (by omega), IntKind.wrap_i64]; omega
    have HH := Lib.hid (And.intro (And.intro hn hf) (And.intro ht (And.intro hx hy)))
    by_cases hle : x ≤ q
    · have hz1 : 0 ≤ 10 * x := by omega
      have hz2 : 10 * x + y ≤ 9223372036854775807 := by omega
      have HE := Lib.hid (show 10 * v + d ≤ MaxI ∧ (10 * x + y = ((10 * v + d : Nat) : Int)) from by
        have := ht.plain rfl
        unfold MaxI
        constructor <;> omega)
      clear hn hf ht hx hy hsm hq
      go_enter Tryd.func27, Tryd.ntmps27
      go_wp2_with fail
      refine bodyPost_end (v := .tuple #[]) (by simp [results, Tryd.results27, go_sem]) rfl ⟨rfl, ?_⟩
      refine ⟨below_set (below_set (Below.refl _ _) h2 _ _) h1 _ _, 10 * v + d, true, ?_, ?_, ⟨HE.out.1, fun _ => rfl, fun h => (by cases h)⟩⟩
      · rw [← HE.out.2]
        exact (HH.out.1.1.far (q := ⟨gf, 0, none⟩) h3 _).set 0 _
      · exact (HH.out.1.2.set 0 _).far (q := ⟨gn, 0, none⟩) h3' _
    · have HE := Lib.hid (show MaxI < 10 * v + d from by
        have := ht.plain rfl
        unfold MaxI
        omega)
      clear hn hf ht hx hy hsm hq
      go_enter Tryd.func27, Tryd.ntmps27
      go_wp2_with fail
      refine bodyPost_end (v := .tuple #[]) (by simp [results, Tryd.results27, go_sem]) rfl ⟨rfl, ?_⟩
      refine ⟨below_set (Below.refl _ _) h2 _ _, n, false, HH.out.1.1.far (q := ⟨gf, 0, none⟩) h3 _, HH.out.1.2.set 0 _, ?_⟩
      exact ⟨HH.out.2.1.small, fun h => (by cases h), fun _ => HE.out⟩
end Go.Proofs.YtgcacbkoilmofaaDoor
