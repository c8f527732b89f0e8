/-
  Calls one behind the other, each with a turn that may stop them: plain facts. Nothing of the program is walked here.
-/
import Derived.Test.YtiipkmfkelbpiaaDoesMath
namespace Go.Proofs.Ytiipkmfkelbpiaa

/-- The state behind the first k calls. -/
def St.steps (s : St) : List (Int × Int × Int) → Nat → St
  | _, 0 => s
  | [], _ + 1 => s
  | x :: l, k + 1 => ((s.does x.1 x.2.1 x.2.2).2.2).steps l k

theorem steps_zero (s : St) (l : List (Int × Int × Int)) : s.steps l 0 = s := by cases l <;> rfl

theorem steps_succ : ∀ (s : St) (l : List (Int × Int × Int)) (k : Nat) (x : Int × Int × Int), l[k]? = some x → s.steps l (k + 1) = ((s.steps l k).does x.1 x.2.1 x.2.2).2.2
  | s, [], k, x, h => by simp at h
  | s, y :: l, 0, x, h => by
    simp at h
    subst h
    simp [St.steps]
  | s, y :: l, k + 1, x, h => by
    have := steps_succ ((s.does y.1 y.2.1 y.2.2).2.2) l k x (by simpa using h)
    simpa [St.steps] using this

theorem steps_bs (s : St) (l : List (Int × Int × Int)) (hs : s.t ≤ s.bs.length) (hd : ∀ (s : St) (d n c : Int), s.t ≤ s.bs.length → (s.does d n c).2.2.t ≤ (s.does d n c).2.2.bs.length) : ∀ k, (s.steps l k).bs = s.bs := by
  intro k
  induction k generalizing s l with
  | zero => rw [steps_zero]
  | succ k ih =>
    cases l with
    | nil => rfl
    | cons y l =>
      show ((((s.does y.1 y.2.1 y.2.2).2.2)).steps l k).bs = s.bs
      rw [ih _ l (hd s _ _ _ hs), (does_bs s _ _ _ hs).1]

/-- The turns: one by one, from the first on again. -/
def turnAt (zs : List Bool) (i : Nat) : Bool := decide (0 < zs.length) && zs.getD (i % zs.length) false

/-- None of the first j calls is stopped. -/
def NoStop (s : St) (l : List (Int × Int × Int)) (zs : List Bool) (j : Nat) : Prop := ∀ i, i < j → ¬ (turnAt zs i = true ∧ (s.steps l (i + 1)).c ≠ 0)

/-- Just j calls are made: all of them, or the last one of them is stopped. -/
def Ends (s : St) (l : List (Int × Int × Int)) (zs : List Bool) (j : Nat) : Prop :=
  (j = l.length ∧ NoStop s l zs j) ∨ (∃ i, j = i + 1 ∧ i < l.length ∧ NoStop s l zs i ∧ turnAt zs i = true ∧ (s.steps l (i + 1)).c ≠ 0)

theorem Ends.once {s : St} {l : List (Int × Int × Int)} {zs : List Bool} {j k : Nat} (h : Ends s l zs j) (h' : Ends s l zs k) : j = k := by
  rcases h with ⟨rfl, h1⟩ | ⟨i, rfl, hi, h1, h2, h3⟩
  · rcases h' with ⟨rfl, _⟩ | ⟨i', rfl, hi', _, g2, g3⟩
    · rfl
    · exact absurd ⟨g2, g3⟩ (h1 i' hi')
  · rcases h' with ⟨rfl, g1⟩ | ⟨i', rfl, hi', g1, g2, g3⟩
    · exact absurd ⟨h2, h3⟩ (g1 i hi)
    · rcases Nat.lt_trichotomy i i' with hlt | rfl | hlt
      · exact absurd ⟨h2, h3⟩ (g1 i hlt)
      · rfl
      · exact absurd ⟨g2, g3⟩ (h1 i' hlt)

theorem NoStop.zero (s : St) (l : List (Int × Int × Int)) (zs : List Bool) : NoStop s l zs 0 := fun i hi => by omega
theorem NoStop.succ {s : St} {l : List (Int × Int × Int)} {zs : List Bool} {j : Nat} (h : NoStop s l zs j) (hn : ¬ (turnAt zs j = true ∧ (s.steps l (j + 1)).c ≠ 0)) : NoStop s l zs (j + 1) := by
  intro i hi
  rcases Nat.lt_succ_iff_lt_or_eq.1 hi with h1 | rfl
  · exact h i h1
  · exact hn
end Go.Proofs.Ytiipkmfkelbpiaa
