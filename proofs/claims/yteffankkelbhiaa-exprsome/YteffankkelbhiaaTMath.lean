/-
  Tags as pairs of lists of bytes: which one is ahead, and tags in order, each once. Nothing of the program. No statement of the seat is proved here.
-/
import Derived.Sort.Walk0
import Derived.Sort.LotA
namespace Go.Proofs.Yteffankkelbhiaa

abbrev Tg := List UInt8 × List UInt8

/-- A text is ahead of another one. -/
def ltB (a b : List UInt8) : Bool := Op.bytesLess a b
/-- A tag is ahead of another one. -/
def ltT (a b : Tg) : Bool := ltB a.1 b.1 || (a.1 == b.1 && ltB a.2 b.2)

theorem ltB_eq (a b : List UInt8) : ltB a b = decide (a < b) := bytesLess_eq a b
theorem ltB_irrefl (a : List UInt8) : ltB a a = false := by rw [ltB_eq]; simp [List.lt_irrefl]
theorem ltB_trans {a b c : List UInt8} (h : ltB a b = true) (k : ltB b c = true) : ltB a c = true := by
  rw [ltB_eq, decide_eq_true_eq] at *; exact List.lt_trans h k
theorem ltB_total {a b : List UInt8} (h : ltB a b = false) (k : ltB b a = false) : a = b := by
  rw [ltB_eq, decide_eq_false_iff_not, List.not_lt] at *; exact List.le_antisymm k h

theorem ltT_iff {a b : Tg} : ltT a b = true ↔ ltB a.1 b.1 = true ∨ (a.1 = b.1 ∧ ltB a.2 b.2 = true) := by
  unfold ltT; simp
theorem ltT_irrefl (a : Tg) : ltT a a = false := by unfold ltT; simp [ltB_irrefl]
theorem ltT_trans {a b c : Tg} (h : ltT a b = true) (k : ltT b c = true) : ltT a c = true := by
  rw [ltT_iff] at *
  rcases h with h | ⟨h1, h2⟩ <;> rcases k with k | ⟨k1, k2⟩
  · exact .inl (ltB_trans h k)
  · rw [← k1]; exact .inl h
  · rw [h1]; exact .inl k
  · exact .inr ⟨h1.trans k1, ltB_trans h2 k2⟩
theorem ltT_total {a b : Tg} (h : ltT a b = false) (k : ltT b a = false) : a = b := by
  have h' : ¬ (ltB a.1 b.1 = true ∨ (a.1 = b.1 ∧ ltB a.2 b.2 = true)) := by rw [← ltT_iff, h]; simp
  have k' : ¬ (ltB b.1 a.1 = true ∨ (b.1 = a.1 ∧ ltB b.2 a.2 = true)) := by rw [← ltT_iff, k]; simp
  have e1 : a.1 = b.1 := ltB_total (by cases h0 : ltB a.1 b.1 <;> simp_all) (by cases h0 : ltB b.1 a.1 <;> simp_all)
  have e2 : a.2 = b.2 := ltB_total (by cases h0 : ltB a.2 b.2 <;> simp_all) (by cases h0 : ltB b.2 a.2 <;> simp_all)
  exact Prod.ext e1 e2
theorem ltT_ne {a b : Tg} (h : ltT a b = true) : a ≠ b := by rintro rfl; rw [ltT_irrefl] at h; cases h
theorem ltT_asym {a b : Tg} (h : ltT a b = true) : ltT b a = false := by
  cases k : ltT b a
  · rfl
  · have := ltT_trans h k; rw [ltT_irrefl] at this; cases this

/-- Where one tag stands to another one. -/
def ordT (a b : Tg) : Int := if a = b then 0 else if ltT a b = true then -1 else 1
theorem ordT_lt (a b : Tg) : decide (ordT a b < 0) = ltT a b := by
  unfold ordT
  by_cases h : a = b
  · subst h; rw [if_pos rfl, ltT_irrefl]; rfl
  · rw [if_neg h]
    by_cases k : ltT a b = true
    · rw [if_pos k, k]; rfl
    · rw [if_neg k]; simp at k; rw [k]; rfl

/-- In order, each once. -/
def Up (r : List Tg) : Prop := r.Pairwise fun a b => ltT a b = true

theorem up_cons {a : Tg} {r : List Tg} : Up (a :: r) ↔ (∀ x ∈ r, ltT a x = true) ∧ Up r := List.pairwise_cons

theorem up_unique : ∀ {r r' : List Tg}, Up r → Up r' → (∀ x, x ∈ r ↔ x ∈ r') → r = r'
  | [], [], _, _, _ => rfl
  | [], b :: r', _, _, h => absurd ((h b).2 (by simp)) (by simp)
  | a :: r, [], _, _, h => absurd ((h a).1 (by simp)) (by simp)
  | a :: r, b :: r', h1, h2, h => by
    obtain ⟨ha, hr⟩ := up_cons.1 h1
    obtain ⟨hb, hr'⟩ := up_cons.1 h2
    have e : a = b := by
      rcases List.mem_cons.1 ((h a).1 (by simp)) with e | m
      · exact e
      · rcases List.mem_cons.1 ((h b).2 (by simp)) with e | m'
        · exact e.symm
        · have := ltT_asym (ha b m'); rw [hb a m] at this; cases this
    subst e
    congr 1
    refine up_unique hr hr' fun x => ?_
    have hx := h x
    simp only [List.mem_cons] at hx
    constructor
    · intro m
      rcases hx.1 (.inr m) with e | m'
      · subst e; have := ha x m; rw [ltT_irrefl] at this; cases this
      · exact m'
    · intro m
      rcases hx.2 (.inr m) with e | m'
      · subst e; have := hb x m; rw [ltT_irrefl] at this; cases this
      · exact m'

/-- A tag put where it has to stand. -/
def ins (t : Tg) : List Tg → List Tg
  | [] => [t]
  | o :: r => if ltT o t = true then o :: ins t r else if o = t then o :: r else t :: o :: r
def norm (ts : List Tg) : List Tg := ts.foldl (fun out t => ins t out) []

theorem mem_ins {t x : Tg} : ∀ {r : List Tg}, x ∈ ins t r ↔ x = t ∨ x ∈ r
  | [] => by simp [ins]
  | o :: r => by
    unfold ins
    by_cases h : ltT o t = true
    · rw [if_pos h]; simp only [List.mem_cons, mem_ins (r := r)]
      constructor
      · rintro (h1 | h1 | h1)
        · exact .inr (.inl h1)
        · exact .inl h1
        · exact .inr (.inr h1)
      · rintro (h1 | h1 | h1)
        · exact .inr (.inl h1)
        · exact .inl h1
        · exact .inr (.inr h1)
    · rw [if_neg h]
      by_cases k : o = t
      · rw [if_pos k]; subst k; simp only [List.mem_cons]
        constructor
        · exact .inr
        · rintro (h1 | h1)
          · exact .inl h1
          · exact h1
      · rw [if_neg k]; simp only [List.mem_cons]
theorem up_ins {t : Tg} : ∀ {r : List Tg}, Up r → Up (ins t r)
  | [], _ => by unfold ins; exact List.pairwise_singleton _ _
  | o :: r, h => by
    obtain ⟨ho, hr⟩ := up_cons.1 h
    unfold ins
    by_cases hl : ltT o t = true
    · rw [if_pos hl]
      refine up_cons.2 ⟨fun x hx => ?_, up_ins hr⟩
      rcases mem_ins.1 hx with rfl | hx
      · exact hl
      · exact ho x hx
    · rw [if_neg hl]
      by_cases k : o = t
      · rw [if_pos k]; exact h
      · rw [if_neg k]
        have hlt : ltT t o = true := by
          cases c : ltT t o
          · exact absurd (ltT_total (by simpa using hl) c) k
          · rfl
        refine up_cons.2 ⟨fun x hx => ?_, h⟩
        rcases List.mem_cons.1 hx with rfl | hx
        · exact hlt
        · exact ltT_trans hlt (ho x hx)
theorem fold_norm : ∀ (ts r : List Tg), Up r → Up (ts.foldl (fun out t => ins t out) r) ∧ ∀ x, x ∈ ts.foldl (fun out t => ins t out) r ↔ x ∈ ts ∨ x ∈ r
  | [], r, h => ⟨h, fun x => by simp⟩
  | t :: ts, r, h => by
    obtain ⟨h1, h2⟩ := fold_norm ts (ins t r) (up_ins h)
    refine ⟨h1, fun x => ?_⟩
    rw [List.foldl_cons, h2, mem_ins, List.mem_cons]
    constructor
    · rintro (h1 | h1 | h1)
      · exact .inl (.inr h1)
      · exact .inl (.inl h1)
      · exact .inr h1
    · rintro ((h1 | h1) | h1)
      · exact .inr (.inl h1)
      · exact .inl h1
      · exact .inr (.inr h1)
theorem up_norm (ts : List Tg) : Up (norm ts) := (fold_norm ts [] List.Pairwise.nil).1
theorem mem_norm {ts : List Tg} {x : Tg} : x ∈ norm ts ↔ x ∈ ts := by
  have := (fold_norm ts [] List.Pairwise.nil).2 x
  simpa [norm] using this
theorem norm_is {ts r : List Tg} (h : Up r) (hm : ∀ x, x ∈ r ↔ x ∈ ts) : r = norm ts :=
  up_unique h (up_norm ts) fun x => (hm x).trans mem_norm.symm
theorem norm_same {ts us : List Tg} (h : ∀ x, x ∈ ts ↔ x ∈ us) : norm ts = norm us := norm_is (up_norm ts) fun x => mem_norm.trans (h x)
theorem up_iff {ts : List Tg} : Up ts ↔ ts = norm ts := ⟨fun h => norm_is h fun _ => Iff.rfl, fun h => h ▸ up_norm ts⟩
theorem norm_norm (ts : List Tg) : norm (norm ts) = norm ts := (up_iff.1 (up_norm ts)).symm
theorem norm_take (ts : List Tg) (i : Nat) (h : i < ts.length) : ins ts[i] (norm (ts.take i)) = norm (ts.take (i + 1)) := by
  unfold norm
  rw [List.take_add_one, List.getElem?_eq_getElem h, Option.toList_some, List.foldl_append]
  rfl
theorem norm_length (ts : List Tg) : (norm ts).length ≤ ts.length := by
  have : ∀ (ts r : List Tg), (ts.foldl (fun out t => ins t out) r).length ≤ ts.length + r.length := by
    intro ts
    induction ts with
    | nil => intro r; simp
    | cons t ts ih =>
      intro r
      have h := ih (ins t r)
      have hl : ∀ r : List Tg, (ins t r).length ≤ r.length + 1 := by
        intro r
        induction r with
        | nil => simp [ins]
        | cons o r ih => unfold ins; split <;> (try split) <;> simp <;> omega
      have := hl r
      simp only [List.foldl_cons, List.length_cons]
      omega
  simpa [norm] using this ts []

/-- Each tag but the first one has the one before it ahead of itself. -/
def Asc (ts : List Tg) : Prop := ∀ i (h : i + 1 < ts.length), ltT (ts[i]'(by omega)) ts[i + 1] = true
theorem asc_up {ts : List Tg} : Asc ts ↔ Up ts := by
  constructor
  · intro h
    have key : ∀ d i (hj : i + 1 + d < ts.length), ltT (ts[i]'(by omega)) ts[i + 1 + d] = true := by
      intro d
      induction d with
      | zero => intro i hj; exact h i hj
      | succ d ih => intro i hj; exact ltT_trans (ih i (by omega)) (h (i + 1 + d) hj)
    refine List.pairwise_iff_getElem.2 fun i j hi hj hij => ?_
    have := key (j - (i + 1)) i (by omega)
    simpa [show i + 1 + (j - (i + 1)) = j by omega] using this
  · intro h i hi
    exact List.pairwise_iff_getElem.1 h i (i + 1) (by omega) hi (by omega)
end Go.Proofs.Yteffankkelbhiaa
