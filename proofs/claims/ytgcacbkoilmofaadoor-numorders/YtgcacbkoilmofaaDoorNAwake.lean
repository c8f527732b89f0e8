/-
  Layer 5's awake, and faults that are kept. No statement of the seat is proved here.
-/
import Derived.Test.YtgcacbkoilmofaaDoorNRate
namespace Go.Proofs.YtgcacbkoilmofaaDoor
open Go.RowKit

/-- Faults that lie in blocks of their own, behind the world w0. -/
structure FAt (w0 : World) (L : List (Nat × List Value)) (w : World) : Prop where
  kept : Below w0.heap.size w0 w
  has : ∀ x ∈ L, Box w x.1 25 x.2

section
variable {w0 w w' : World} {L : List (Nat × List Value)}
theorem FAt.start (w : World) : FAt w [] w := ⟨Below.refl _ _, fun x hx => by cases hx⟩
theorem FAt.next (h : FAt w0 L w) (hb : Below w.heap.size w w') : FAt w0 L w' := ⟨below_then h.kept hb, fun x hx => (h.has x hx).keep hb⟩
theorem FAt.push (h : FAt w0 L w) (a b : Value) : FAt w0 ((w.heap.size, [a, b]) :: L) (w.alloc (.cells #[a, b] 25)) :=
  ⟨h.kept.alloc h.kept.size _, fun x hx => by
    rcases List.mem_cons.1 hx with rfl | hx
    · exact Box.new w 25 [a, b]
    · exact (h.has x hx).alloc _⟩
theorem FAt.cells {g : Nat} {a b : Value} (h : FAt w0 L w) (hm : (g, [a, b]) ∈ L) : w.cell? ⟨g, 0, none⟩ = some a ∧ w.cell? ⟨g, 1, none⟩ = some b :=
  ⟨(h.has _ hm).cell 0, (h.has _ hm).cell 1⟩
theorem FAt.tab (h : FAt w0 L w) (ht : Tab w0) : Tab w := ht.keep h.kept
end

section
variable {s : ByteArray} {l : List UInt8} {lo hi n a b : Int}
theorem parse_says (h : Str s l) (hz : (s.size : Int) ≤ 1000) (hp : parsed l lo hi = (n, a, b)) (w : World) : Calls Tryd.prog 9 #[.string s, .int .i64 lo, .int .i64 hi] w fun e w' => e = .returned (.tuple #[.int .i64 n, .agg #[.int .i64 a, .int .i64 b]]) ∧ Below w.heap.size w w' := by
  have := parse_calls s l h hz lo hi w
  rw [hp] at this
  exact this
theorem rate_says (h : Str s l) (hz : (s.size : Int) ≤ 1000) (hp : rated l = (n, a, b)) (w : World) : Calls Tryd.prog 16 #[.string s] w fun e w' => e = .returned (.tuple #[.int .i64 n, .agg #[.int .i64 a, .int .i64 b]]) ∧ Below w.heap.size w w' := by
  have := rate_calls s l h hz w
  rw [hp] at this
  exact this
theorem ratetext_says {l : List UInt8} {n c : Int} (h1 : textR n = l) (h2 : errR n = c) (w : World) (ht : Tab w) : Calls Tryd.prog 13 #[.int .i64 n] w fun e w' => e = .returned (.tuple #[.string ⟨l.toArray⟩, .int .i64 c]) ∧ Below w.heap.size w w' := by
  subst h1 h2; exact ratetext_calls n w ht
theorem ntext_says {l : List UInt8} {n c : Int} (h : n ≤ 9223372036854775807) (h1 : textN n = l) (h2 : errN n = c) (w : World) (ht : Tab w) : Calls Tryd.prog 12 #[.int .i64 n] w fun e w' => e = .returned (.tuple #[.string ⟨l.toArray⟩, .int .i64 c]) ∧ Below w.heap.size w w' := by
  subst h1 h2; exact ntext_calls n h w ht
end

theorem an1 : parsed [48, 48, 55] 0 9 = (0, 11, 0) := by decide +kernel
theorem an2 : parsed [49, 50, 120] 0 99 = (0, 14, 2) := by decide +kernel
theorem an3 : rated [48, 46, 53] = (500000, 0, 0) := by decide +kernel
theorem an4 : rated [48, 46, 53, 48] = (500000, 0, 0) := by decide +kernel
theorem an5 : textR 500000 = [48, 46, 53] := by decide +kernel
theorem an5' : errR 500000 = 0 := by decide +kernel
theorem an6 : rated [48, 46, 48] = (0, 10, 0) := by decide +kernel
theorem an7 : rated [50] = (0, 11, 0) := by decide +kernel
theorem an8 : rated [49, 46, 48] = (0, 11, 0) := by decide +kernel

set_option maxRecDepth 100000 in
set_option maxHeartbeats 4000000 in
theorem awake5_calls (w : World) (ht : Tab w) : Calls Tryd.prog 8 #[] w fun e w' => e = .returned (.bool true) ∧ Below w.heap.size w w' := by
  have HT := Lib.hid ht
  clear ht
  have HW0 := Lib.hid (FAt.start w)
  have hstr : (⟨#[48, 46, 53]⟩ : ByteArray).toList = [48, 46, 53] := (show Str ⟨#[48, 46, 53]⟩ [48, 46, 53] from rfl).toList
  go_enter Tryd.func8, Tryd.ntmps8
  go_wp2_with fail
  refine (parse_says (s := ⟨#[48, 48, 55]⟩) (l := [48, 48, 55]) rfl (by decide) an1 _).mono ?_
  rintro e w1 ⟨rfl, hb⟩
  have HW1 := Lib.hid ((HW0.out.next hb).push (.int .i64 11) (.int .i64 0))
  clear hb HW0
  go_wp2_with fail
  refine (parse_says (s := ⟨#[49, 50, 120]⟩) (l := [49, 50, 120]) rfl (by decide) an2 _).mono ?_
  rintro e w2 ⟨rfl, hb⟩
  have HW2 := Lib.hid ((HW1.out.next hb).push (.int .i64 14) (.int .i64 2))
  clear hb HW1
  go_wp2_with fail
  refine (rate_says (s := ⟨#[48, 46, 53]⟩) (l := [48, 46, 53]) rfl (by decide) an3 _).mono ?_
  rintro e w3 ⟨rfl, hb⟩
  have HW3 := Lib.hid ((HW2.out.next hb).push (.int .i64 0) (.int .i64 0))
  clear hb HW2
  go_wp2_with fail
  refine (rate_says (s := ⟨#[48, 46, 53, 48]⟩) (l := [48, 46, 53, 48]) rfl (by decide) an4 _).mono ?_
  rintro e w4 ⟨rfl, hb⟩
  have HW4 := Lib.hid ((HW3.out.next hb).push (.int .i64 0) (.int .i64 0))
  clear hb HW3
  go_wp2_with fail
  refine (ratetext_says an5 an5' _ (HW4.out.tab HT.out)).mono ?_
  rintro e w5 ⟨rfl, hb⟩
  have HW5 := Lib.hid (HW4.out.next hb)
  clear hb HW4
  go_wp2_with fail
  refine (rate_says (s := ⟨#[48, 46, 48]⟩) (l := [48, 46, 48]) rfl (by decide) an6 _).mono ?_
  rintro e w6 ⟨rfl, hb⟩
  have HW6 := Lib.hid ((HW5.out.next hb).push (.int .i64 10) (.int .i64 0))
  clear hb HW5
  go_wp2_with fail
  refine (rate_says (s := ⟨#[50]⟩) (l := [50]) rfl (by decide) an7 _).mono ?_
  rintro e w7 ⟨rfl, hb⟩
  have HW7 := Lib.hid ((HW6.out.next hb).push (.int .i64 11) (.int .i64 0))
  clear hb HW6
  go_wp2_with fail
  refine (rate_says (s := ⟨#[49, 46, 48]⟩) (l := [49, 46, 48]) rfl (by decide) an8 _).mono ?_
  rintro e w8 ⟨rfl, hb⟩
  have HW8 := Lib.hid ((HW7.out.next hb).push (.int .i64 11) (.int .i64 0))
  clear hb HW7
  have k1 := HW8.out.cells (g := w1.heap.size) (a := .int .i64 11) (b := .int .i64 0) (by simp)
  have k2 := HW8.out.cells (g := w2.heap.size) (a := .int .i64 14) (b := .int .i64 2) (by simp)
  have k3 := HW8.out.cells (g := w3.heap.size) (a := .int .i64 0) (b := .int .i64 0) (by simp)
  have k4 := HW8.out.cells (g := w4.heap.size) (a := .int .i64 0) (b := .int .i64 0) (by simp)
  have k6 := HW8.out.cells (g := w6.heap.size) (a := .int .i64 10) (b := .int .i64 0) (by simp)
  have k7 := HW8.out.cells (g := w7.heap.size) (a := .int .i64 11) (b := .int .i64 0) (by simp)
  have k8 := HW8.out.cells (g := w8.heap.size) (a := .int .i64 11) (b := .int .i64 0) (by simp)
  obtain ⟨k10, k11⟩ := k1
  obtain ⟨k20, k21⟩ := k2
  obtain ⟨k30, k31⟩ := k3
  obtain ⟨k40, k41⟩ := k4
  obtain ⟨k60, k61⟩ := k6
  obtain ⟨k70, k71⟩ := k7
  obtain ⟨k80, k81⟩ := k8
  go_wp2_with fail
  go_ret
  exact ⟨rfl, HW8.out.kept⟩
end Go.Proofs.YtgcacbkoilmofaaDoor
