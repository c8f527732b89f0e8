/-
  Bytes that are taken in parts: plain facts. Nothing of the program is walked here.
-/
import Derived.Test.YtiipkmfkelbpiaaRef3
import Derived.Test.YtiipkmfkelbpiaaNestsBase
namespace Go.Proofs.Ytiipkmfkelbpiaa
open Go.RowKit

theorem ahead_spec (x : Int) : ∀ l : List Int, (∀ z ∈ l.take (St.ahead x l), z ≠ x) ∧ (St.ahead x l < l.length → l[St.ahead x l]? = some x)
  | [] => by simp [St.ahead]
  | z :: l => by
    have ih := ahead_spec x l
    rw [ahead_cons]
    by_cases h : z = x
    · subst h
      simp
    · rw [if_neg h]
      refine ⟨?_, ?_⟩
      · intro y hy
        rw [List.take_succ_cons] at hy
        rcases List.mem_cons.1 hy with rfl | hy
        · exact h
        · exact ih.1 y hy
      · intro hl
        rw [List.length_cons] at hl
        simpa using ih.2 (by omega)

/-- The two ways of Until without a fault. -/
theorem until_two (bs : List Int) (t : Nat) (x : Int) (ht : t < bs.length) :
    (∃ m, St.until_ ⟨bs, t, 0, 0⟩ x = ((bs.drop t).take m, true, ⟨bs, t + m + 1, 0, 0⟩) ∧ t + m < bs.length ∧ bs[t + m]? = some x ∧ ∀ z ∈ (bs.drop t).take m, z ≠ x) ∨
    (St.until_ ⟨bs, t, 0, 0⟩ x = (bs.drop t, false, ⟨bs, bs.length, 0, 0⟩) ∧ ∀ z ∈ bs.drop t, z ≠ x) := by
  have hs := ahead_spec x (bs.drop t)
  have hle := ahead_le x (bs.drop t)
  rw [List.length_drop] at hle
  by_cases h : St.ahead x (bs.drop t) < (bs.drop t).length
  · left
    refine ⟨St.ahead x (bs.drop t), ?_, ?_, ?_, hs.1⟩
    · simp only [St.until_, ne_eq, not_true_eq_false, if_false, h, if_true]
    · rw [List.length_drop] at h; omega
    · have := hs.2 h
      rwa [List.getElem?_drop] at this
  · right
    refine ⟨?_, ?_⟩
    · simp only [St.until_, ne_eq, not_true_eq_false, if_false, h]
    · have := hs.1
      rwa [List.take_of_length_le (by omega)] at this

/-- How often x is in l. -/
def cnt (x : Int) (l : List Int) : Nat := l.count x
theorem cnt_none (x : Int) (l : List Int) (h : ∀ z ∈ l, z ≠ x) : cnt x l = 0 := List.count_eq_zero.2 (fun hm => h x hm rfl)
theorem cnt_append (x : Int) (a b : List Int) : cnt x (a ++ b) = cnt x a + cnt x b := List.count_append
theorem cnt_le (x : Int) (l : List Int) : cnt x l ≤ l.length := List.count_le_length
theorem cnt_step (x : Int) (bs : List Int) (k : Nat) (h : k < bs.length) : cnt x (bs.take (k + 1)) = cnt x (bs.take k) + if bs[k] = x then 1 else 0 := by
  rw [List.take_succ_eq_append_getElem h, cnt_append]
  congr 1
  unfold cnt
  by_cases he : bs[k] = x <;> simp [he]

theorem take_join (bs : List Int) (t m : Nat) : bs.take t ++ (bs.drop t).take m = bs.take (t + m) := by
  rw [List.take_add]

theorem take_join_end (bs : List Int) (t m : Nat) (x : Int) (h : bs[t + m]? = some x) : bs.take t ++ (bs.drop t).take m ++ [x] = bs.take (t + m + 1) := by
  obtain ⟨hl, he⟩ := List.getElem?_eq_some_iff.1 h
  rw [take_join, List.take_succ_eq_append_getElem hl, he]

/-- Both ways of Until, as one. -/
theorem until_one (bs : List Int) (t : Nat) (x : Int) (ht : t < bs.length) :
    ∃ out is t', St.until_ ⟨bs, t, 0, 0⟩ x = (out, is, ⟨bs, t', 0, 0⟩) ∧ (∀ z ∈ out, z ≠ x) ∧ t + out.length ≤ bs.length ∧ bs.take t ++ out = bs.take (t + out.length) ∧
      ((is = true ∧ t' = t + out.length + 1 ∧ t' ≤ bs.length ∧ bs[t + out.length]? = some x) ∨ (is = false ∧ t' = bs.length ∧ t + out.length = bs.length)) := by
  rcases until_two bs t x ht with ⟨m, h1, h2, h3, h4⟩ | ⟨h1, h2⟩
  · have hl : ((bs.drop t).take m).length = m := by rw [List.length_take, List.length_drop]; omega
    refine ⟨_, _, _, h1, h4, by rw [hl]; omega, by rw [hl, take_join], Or.inl ⟨rfl, by rw [hl], by omega, by rw [hl]; exact h3⟩⟩
  · have hl : (bs.drop t).length = bs.length - t := List.length_drop
    refine ⟨_, _, _, h1, h2, by rw [hl]; omega, ?_, Or.inr ⟨rfl, rfl, by rw [hl]; omega⟩⟩
    rw [hl, show t + (bs.length - t) = bs.length by omega, List.take_append_drop, List.take_length]

/-- A part's size. -/
theorem part_in (z : Int) : -20 < z.tmod 20 ∧ z.tmod 20 < 20 := by
  have h2 : (z.tmod 20).natAbs = z.natAbs % 20 := Int.natAbs_tmod z 20
  have h3 : z.natAbs % 20 < 20 := Nat.mod_lt _ (by omega)
  omega
theorem part_bounds (z : Int) : 0 ≤ (z.tmod 20 + 20).tmod 20 ∧ (z.tmod 20 + 20).tmod 20 < 20 := by
  have h1 : -20 < z.tmod 20 := by
    have h2 : (z.tmod 20).natAbs = z.natAbs % 20 := Int.natAbs_tmod z 20
    have h3 : z.natAbs % 20 < 20 := Nat.mod_lt _ (by omega)
    omega
  refine ⟨Int.tmod_nonneg _ (by omega), Int.tmod_lt_of_pos _ (by omega)⟩

theorem CurOk.below_ {R : Option Addr} {w w' : World} {p B : Nat} {s : St} {tr : Option Addr} (h : CurOk R w p s tr) (hb : Below B w w') (hp : p < B) (hR : ∀ x : Addr, R = some x → x.block < B) : CurOk R w' p s tr := by
  obtain ⟨A, cap, h1, h2, h3, h4⟩ := h.is_
  refine ⟨⟨A, cap, Box.below h1 hb hp, ?_, h3, h4⟩, h.2, h.3, h.4⟩
  intro i u hu
  obtain ⟨b, off, e, hc⟩ := h2 i u hu
  have hl : b < B := hR _ (h3.2.symm.trans e)
  exact ⟨b, off, e, (hb.cell (p := ⟨b, off + i, none⟩) hl).trans hc⟩
theorem Lies.below_ {w w' : World} {B : Nat} {A : Option Addr} {vs : List Value} (h : Lies w A vs) (hb : Below B w w') (hA : ∀ x : Addr, A = some x → x.block < B) : Lies w' A vs := by
  intro i u hu
  obtain ⟨b, off, e, hc⟩ := h i u hu
  exact ⟨b, off, e, (hb.cell (p := ⟨b, off + i, none⟩) (show b < B from hA _ e)).trans hc⟩
end Go.Proofs.Ytiipkmfkelbpiaa
