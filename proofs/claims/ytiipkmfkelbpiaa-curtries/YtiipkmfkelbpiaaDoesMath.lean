/-
  Plain facts on what one call of a Cur does. Nothing of the program is walked here.
-/
import Derived.Test.YtiipkmfkelbpiaaDoes
namespace Go.Proofs.Ytiipkmfkelbpiaa

theorem fail_bs (s : St) (c a : Int) : (s.fail c a).bs = s.bs ∧ (s.fail c a).t = s.t := by unfold St.fail; split <;> exact ⟨rfl, rfl⟩
theorem fail_stays (s : St) (c a : Int) (h : s.c ≠ 0) : s.fail c a = s := by simp [St.fail, h]
theorem fail_set (s : St) (c a : Int) (h : c ≠ 0) : (s.fail c a).c ≠ 0 := by
  unfold St.fail
  split
  · exact h
  · rename_i hn
    intro h0
    exact hn ⟨h0, h⟩
theorem fail_zero (s : St) (c a : Int) (h : s.c = 0 → s.a = 0) : (s.fail c a).c = 0 → (s.fail c a).a = 0 := by
  unfold St.fail
  split
  · rename_i hn
    intro h0
    exact absurd h0 hn.2
  · exact h

theorem byte_bs (s : St) : s.byte.2.bs = s.bs ∧ s.t ≤ s.byte.2.t := by
  unfold St.byte
  split
  · exact ⟨rfl, Nat.le_succ _⟩
  · have := fail_bs s 13 s.bs.length
    exact ⟨this.1, by rw [this.2]; exact Nat.le_refl _⟩
theorem take_bs (s : St) (n : Int) : (s.take n).2.bs = s.bs ∧ s.t ≤ (s.take n).2.t := by
  unfold St.take
  split
  · exact ⟨rfl, Nat.le_refl _⟩
  · split
    · have := fail_bs s 1 s.t
      exact ⟨this.1, by rw [this.2]; exact Nat.le_refl _⟩
    · split
      · have := fail_bs s 13 s.bs.length
        exact ⟨this.1, by rw [this.2]; exact Nat.le_refl _⟩
      · exact ⟨rfl, Nat.le_add_right _ _⟩
theorem until_bs (s : St) (x : Int) (ht : s.t ≤ s.bs.length) : (s.until_ x).2.2.bs = s.bs ∧ s.t ≤ (s.until_ x).2.2.t := by
  unfold St.until_
  split
  · exact ⟨rfl, Nat.le_refl _⟩
  · split
    · exact ⟨rfl, by simp only []; omega⟩
    · exact ⟨rfl, ht⟩

theorem does_bs (s : St) (d n c : Int) (ht : s.t ≤ s.bs.length) : (s.does d n c).2.2.bs = s.bs ∧ s.t ≤ (s.does d n c).2.2.t := by
  unfold St.does
  split
  · exact byte_bs s
  · split
    · exact ⟨rfl, Nat.le_refl _⟩
    · split
      · exact take_bs s n
      · split
        · exact until_bs s _ ht
        · split
          · have := fail_bs s c n
            exact ⟨this.1, by simp only []; rw [this.2]; exact Nat.le_refl _⟩
          · exact ⟨rfl, Nat.le_refl _⟩

theorem byte_wrong (s : St) (h : s.c ≠ 0) : s.byte = (0, s) := by
  unfold St.byte
  rw [if_neg (fun hn => h hn.1), fail_stays s _ _ h]
theorem peek_wrong (s : St) (h : s.c ≠ 0) : s.peek = (0, false) := by
  unfold St.peek
  rw [if_neg (fun hn => h hn.1)]
theorem take_wrong (s : St) (n : Int) (h : s.c ≠ 0) : s.take n = ([], s) := by
  unfold St.take
  rw [if_pos h]
theorem until_wrong (s : St) (x : Int) (h : s.c ≠ 0) : s.until_ x = ([], false, s) := by
  unfold St.until_
  rw [if_pos h]

theorem does_wrong (s : St) (d n c : Int) (h : s.c ≠ 0) : s.does d n c = if d = 0 then ([0], true, s) else if d = 1 then ([0], false, s) else if d = 2 then ([], true, s) else if d = 3 then ([], false, s) else ([], true, s) := by
  unfold St.does
  rw [byte_wrong s h, peek_wrong s h, take_wrong s n h, until_wrong s _ h, fail_stays s _ _ h]
  by_cases h0 : d = 0
  · simp [h0]
  by_cases h1 : d = 1
  · simp [h1]
  by_cases h2 : d = 2
  · simp [h2]
  by_cases h3 : d = 3
  · simp [h3]
  simp [h0, h1, h2, h3]

theorem does_wrong_st (s : St) (d n c : Int) (h : s.c ≠ 0) : (s.does d n c).2.2 = s := by
  rw [does_wrong s d n c h]
  split
  · rfl
  · split
    · rfl
    · split
      · rfl
      · split <;> rfl

theorem byte_zero (s : St) (h : s.c = 0 → s.a = 0) : s.byte.2.c = 0 → s.byte.2.a = 0 := by
  unfold St.byte
  split
  · exact h
  · exact fail_zero s _ _ h
theorem take_zero (s : St) (n : Int) (h : s.c = 0 → s.a = 0) : (s.take n).2.c = 0 → (s.take n).2.a = 0 := by
  unfold St.take
  split
  · exact h
  · split
    · exact fail_zero s _ _ h
    · split
      · exact fail_zero s _ _ h
      · exact h
theorem until_zero (s : St) (x : Int) (h : s.c = 0 → s.a = 0) : (s.until_ x).2.2.c = 0 → (s.until_ x).2.2.a = 0 := by
  unfold St.until_
  split
  · exact h
  · split <;> exact h
theorem does_zero (s : St) (d n c : Int) (h : s.c = 0 → s.a = 0) : (s.does d n c).2.2.c = 0 → (s.does d n c).2.2.a = 0 := by
  unfold St.does
  split
  · exact byte_zero s h
  · split
    · exact h
    · split
      · exact take_zero s n h
      · split
        · exact until_zero s _ h
        · split
          · exact fail_zero s _ _ h
          · exact h
end Go.Proofs.Ytiipkmfkelbpiaa
