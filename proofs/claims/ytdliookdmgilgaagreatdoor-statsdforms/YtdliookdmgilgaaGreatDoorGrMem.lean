/-
  Mem, KStr, TMath, TRows. No statement of the seat is proved here.
-/
import Derived.WalkKit
import Derived.WalkSpells
import Derived.WalkLawsBesides
import Derived.BigQuiet
import Derived.Lib.Hide
import Derived.Deep.QuietTactic
import Derived.Test.YtdliookdmgilgaaGreatDoorChecked
import Derived.Laws.Concat
import Derived.Laws.Strings3
import Derived.Sort.Walk0
import Derived.Sort.LotA
import Derived.Maps.AppendAt
/-
  Memory of our own: a block that is known whole, rows of bytes, and what a call leaves as it was. No statement of the seat is proved here.
-/
namespace Go.Proofs.YtdliookdmgilgaaGreatDoor
open Go.RowKit

/-- Block g is just these cells, of element type t, none frozen. -/
def Box (w : World) (g : Nat) (t : TypeId) (cs : List Value) : Prop := w.heap[g]? = some (.cells cs.toArray t (0, 0))

/-- The heap, and the streams, are the same: only the tape has gone on. -/
structure Same (w w' : World) : Prop where
  heap : w'.heap = w.heap
  os : w'.os = w.os
  tape : w'.tape = w.tape
  output : w'.output = w.output

/-- Nothing that was there has changed, but for block p. -/
structure But (p : Nat) (w w' : World) : Prop where
  os : w'.os = w.os
  tape : w'.tape = w.tape
  output : w'.output = w.output
  size : w.heap.size ≤ w'.heap.size
  block : ∀ k, k < w.heap.size → k ≠ p → w'.heap[k]? = w.heap[k]?

section
variable {w w' w'' : World} {g p B : Nat} {t : TypeId} {cs : List Value}

theorem Same.refl (w : World) : Same w w := ⟨rfl, rfl, rfl, rfl⟩
theorem Same.trans (h : Same w w') (k : Same w' w'') : Same w w'' := ⟨k.1.trans h.1, k.2.trans h.2, k.3.trans h.3, k.4.trans h.4⟩
theorem Same.drewN (w : World) (n : Nat) : Same w (w.drewN n) := ⟨rfl, rfl, rfl, rfl⟩
theorem Same.below (h : Same w w') : Below B w w' := ⟨h.os, h.tape, h.output, by rw [h.heap]; exact Nat.le_refl _, fun k _ => by rw [h.heap]⟩
theorem Same.cell (h : Same w w') (a : Addr) : w'.cell? a = w.cell? a := by unfold World.cell?; rw [h.heap]

theorem Box.lt (h : Box w g t cs) : g < w.heap.size := by
  unfold Box at h
  rcases Nat.lt_or_ge g w.heap.size with hlt | hge
  · exact hlt
  · rw [Array.getElem?_eq_none hge] at h; cases h
theorem Box.cell (h : Box w g t cs) (i : Nat) : w.cell? ⟨g, i, none⟩ = cs[i]? := by
  unfold Box at h
  simp [World.cell?, h]
theorem Box.frozen (h : Box w g t cs) (i : Nat) : w.frozen? ⟨g, i, none⟩ = false := by
  unfold Box at h
  simp [World.frozen?, h]
theorem Box.same (h : Box w g t cs) (hs : Same w w') : Box w' g t cs := by unfold Box; rw [hs.heap]; exact h
theorem Box.below (h : Box w g t cs) (hb : Below B w w') (hg : g < B) : Box w' g t cs := (hb.block g hg).trans h
theorem Box.keep (h : Box w g t cs) (hb : Below w.heap.size w w') : Box w' g t cs := (hb.block g h.lt).trans h
theorem Box.but (h : Box w g t cs) (hb : But p w w') (hg : g ≠ p) : Box w' g t cs := (hb.block g h.lt hg).trans h
theorem Box.set (h : Box w g t cs) (i : Nat) (u : Value) : Box (w.setCell ⟨g, i, none⟩ u) g t (cs.set i u) := by
  unfold Box at h ⊢
  simp [World.setCell, Array.getElem?_modify, h]
theorem Box.far (h : Box w g t cs) {q : Addr} (hp : g ≠ q.block) (u : Value) : Box (w.setCell q u) g t cs := (Below.heap_setCell w q u g hp).trans h
theorem Box.new (w : World) (t : TypeId) (cs : List Value) : Box (w.alloc (.cells cs.toArray t)) w.heap.size t cs := by
  unfold Box World.alloc; simp
theorem Box.alloc (h : Box w g t cs) (o : Obj) : Box (w.alloc o) g t cs := (Below.heap_alloc w o g h.lt).trans h
theorem Box.ne {g' : Nat} {t' : TypeId} {cs' : List Value} (h : Box w g t cs) (h' : Box w g' t' cs') (hne : t ≠ t') : g ≠ g' := by
  rintro rfl
  unfold Box at h h'
  rw [h] at h'
  injection h' with h'
  injection h' with _ ht
  exact hne ht

theorem But.refl (p : Nat) (w : World) : But p w w := ⟨rfl, rfl, rfl, Nat.le_refl _, fun _ _ _ => rfl⟩
theorem But.trans (h : But p w w') (k : But p w' w'') : But p w w'' :=
  ⟨k.os.trans h.os, k.tape.trans h.tape, k.output.trans h.output, Nat.le_trans h.size k.size, fun i hi hp => (k.block i (Nat.lt_of_lt_of_le hi h.size) hp).trans (h.block i hi hp)⟩
theorem But.of_below (h : Below w.heap.size w w') : But p w w' := ⟨h.os, h.tape, h.output, h.size, fun k hk _ => h.block k hk⟩
theorem But.of_same (h : Same w w') : But p w w' := .of_below h.below
theorem But.below (h : But p w w') (hp : B ≤ p) (hB : B ≤ w.heap.size) : Below B w w' := ⟨h.os, h.tape, h.output, h.size, fun k hk => h.block k (by omega) (by omega)⟩
theorem But.setCell (h : But p w w') {q : Addr} (hq : q.block = p) (u : Value) : But p w (w'.setCell q u) :=
  h.trans ⟨rfl, rfl, rfl, by simp [World.setCell], fun k _ hk => Below.heap_setCell _ _ _ _ (by omega)⟩
theorem But.set (h : But p w w') (i : Nat) (u : Value) : But p w (w'.setCell ⟨p, i, none⟩ u) := h.setCell rfl u
theorem But.alloc (h : But p w w') (o : Obj) : But p w (w'.alloc o) :=
  h.trans (.of_below ((Below.refl _ _).alloc (Nat.le_refl _) o))
theorem But.drew (h : But p w w') : But p w w'.drew := ⟨h.os, h.tape, h.output, h.size, h.block⟩
theorem below_set (h : Below B w w') {g : Nat} (hg : B ≤ g) (i : Nat) (u : Value) : Below B w (w'.setCell ⟨g, i, none⟩ u) := h.setCell (p := ⟨g, i, none⟩) hg u
theorem size_alloc (w : World) (o : Obj) : (w.alloc o).heap.size = w.heap.size + 1 := by simp
theorem below_then (h : Below w.heap.size w w') (k : Below w'.heap.size w' w'') : Below w.heap.size w w'' := h.trans (k.mono h.size)
end
end Go.Proofs.YtdliookdmgilgaaGreatDoor

/-
  Strings of our own: a string whose bytes are a list. No statement of the seat is proved here.
-/
namespace Go.Proofs.YtdliookdmgilgaaGreatDoor
open Go.RowKit

/-- The string's bytes. -/
def Str (s : ByteArray) (l : List UInt8) : Prop := s.data.toList = l

theorem Str.mk (l : List UInt8) : Str ⟨l.toArray⟩ l := by unfold Str; simp
theorem Str.eq {s : ByteArray} {l : List UInt8} (h : Str s l) : s = ⟨l.toArray⟩ := by
  unfold Str at h
  subst h
  cases s; simp
theorem Str.self (s : ByteArray) : Str s s.data.toList := rfl
theorem Str.size {s : ByteArray} {l : List UInt8} (h : Str s l) : s.size = l.length := by rw [h.eq]; simp [ByteArray.size]
theorem Str.append {s t : ByteArray} {a b : List UInt8} (h : Str s a) (k : Str t b) : Str (s ++ t) (a ++ b) := by
  rw [h.eq, k.eq, ByteArray.mk_append_mk]; exact Str.mk _
theorem Str.cut {s : ByteArray} {l : List UInt8} (h : Str s l) (i j : Nat) : Str (s.extract i j) ((l.drop i).take (j - i)) := by
  rw [h.eq, ByteArray.extract_mk]; exact Str.mk _
theorem Str.toList {s : ByteArray} {l : List UInt8} (h : Str s l) : s.toList = l := by rw [ByteArray.toList_eq]; exact h
theorem Str.at_ {s : ByteArray} {l : List UInt8} (h : Str s l) (i : Nat) (hi : i < s.size) (hl : i < l.length) : s[i] = l[i] := by
  have e := h.eq
  subst e
  simp only [ByteArray.getElem_eq_getElem_data]
  simp

section
variable {s : ByteArray} {l : List UInt8}
/-- s[:j], s[i:], s[i:j]. -/
theorem Str.to_ (h : Str s l) {j : Int} (n : Nat) (hn : j = n) (hj : n ≤ l.length) : ∃ t, Str t (l.take n) ∧ ∀ W, (Instr.slice 9 (.string s) none (some (.int .i64 j)) none).run Tryz.prog W = .ok (.string t) W := by
  subst hn
  have hz := h.size
  refine ⟨s.extract 0 n, by have := h.cut 0 n; simpa using this, fun W => ?_⟩
  rw [run_slice_string_to_if W 9 s .i64 n Tryz.underlying9, if_pos ⟨by omega, by omega⟩]
  rfl
theorem Str.from_ (h : Str s l) {i : Int} (n : Nat) (hn : i = n) (hi : n ≤ l.length) : ∃ t, Str t (l.drop n) ∧ ∀ W, (Instr.slice 9 (.string s) (some (.int .i64 i)) none none).run Tryz.prog W = .ok (.string t) W := by
  subst hn
  have hz := h.size
  refine ⟨s.extract n s.size, by have := h.cut n s.size; rw [hz] at this ⊢; rw [List.take_of_length_le (by simp)] at this; exact this, fun W => ?_⟩
  rw [run_slice_string_from_if W 9 s .i64 n Tryz.underlying9, if_pos ⟨by omega, by omega⟩]
  rfl
theorem Str.part (h : Str s l) {ki kj : IntKind} {i j : Int} (n m : Nat) (hn : i = n) (hm : j = m) (hi : n ≤ m) (hj : m ≤ l.length) : ∃ t, Str t ((l.drop n).take (m - n)) ∧ ∀ W, (Instr.slice 9 (.string s) (some (.int ki i)) (some (.int kj j)) none).run Tryz.prog W = .ok (.string t) W := by
  subst hn hm
  have hz := h.size
  refine ⟨s.extract n m, h.cut n m, fun W => ?_⟩
  rw [run_slice_string W 9 s ki kj n m Tryz.underlying9 (by omega) (by omega) (by omega)]
  rfl
/-- s[i]. -/
theorem Str.index (h : Str s l) {i : Int} (n : Nat) (hn : i = n) (hi : n < l.length) : ∀ W, (Instr.index 9 (.string s) (.int .i64 i)).run Tryz.prog W = .ok (.int .u8 (l[n].toNat : Int)) W := by
  subst hn
  have hz := h.size
  intro W
  rw [run_index_string (h := Tryz.underlying9), dif_pos ⟨by omega, by omega⟩]
  have := h.at_ n (by omega) hi
  simp only [Int.toNat_natCast]
  rw [this]
end
end Go.Proofs.YtdliookdmgilgaaGreatDoor

/-
  Tags as pairs of lists of bytes: which one is ahead, and tags in order, each once. Nothing of the program. No statement of the seat is proved here.
-/
namespace Go.Proofs.YtdliookdmgilgaaGreatDoor

abbrev Tg := List UInt8 × List UInt8

/-- A text is ahead of another one. -/
def ltB (a b : List UInt8) : Bool := Op.bytesLess a b
/-- A tag is ahead of another one. -/
def ltT (a b : Tg) : Bool := ltB a.1 b.1 || (a.1 == b.1 && ltB a.2 b.2)

theorem ltB_eq (a b : List UInt8) : ltB a b = decide (a < b) := bytesLess_eq a b
theorem ltB_irrefl (a : List UInt8) : ltB a a = false := by rw [ltB_eq]; simp [List.lt_irrefl]
theorem ltB_trans {a b c : List UInt8} (h : ltB a b = true) (k : ltB b c = true) : ltB a c = true := by
  rw [ltB_eq, decide_eq_true_eq] at *; exact List.lt_trans h k
theorem ltB_total {a b : List UInt8} (h : ltB a b = false) (k : ltB b a = false) : a = b := by
  rw [ltB_eq, decide_eq_false_iff_not, List.not_lt] at *; exact List.le_antisymm k h

theorem ltT_iff {a b : Tg} : ltT a b = true ↔ ltB a.1 b.1 = true ∨ (a.1 = b.1 ∧ ltB a.2 b.2 = true) := by
  unfold ltT; simp
theorem ltT_irrefl (a : Tg) : ltT a a = false := by unfold ltT; simp [ltB_irrefl]
theorem ltT_trans {a b c : Tg} (h : ltT a b = true) (k : ltT b c = true) : ltT a c = true := by
  rw [ltT_iff] at *
  rcases h with h | ⟨h1, h2⟩ <;> rcases k with k | ⟨k1, k2⟩
  · exact .inl (ltB_trans h k)
  · rw [← k1]; exact .inl h
  · rw [h1]; exact .inl k
  · exact .inr ⟨h1.trans k1, ltB_trans h2 k2⟩
theorem ltT_total {a b : Tg} (h : ltT a b = false) (k : ltT b a = false) : a = b := by
  have h' : ¬ (ltB a.1 b.1 = true ∨ (a.1 = b.1 ∧ ltB a.2 b.2 = true)) := by rw [← ltT_iff, h]; simp
  have k' : ¬ (ltB b.1 a.1 = true ∨ (b.1 = a.1 ∧ ltB b.2 a.2 = true)) := by rw [← ltT_iff, k]; simp
  have e1 : a.1 = b.1 := ltB_total (by cases h0 : ltB a.1 b.1 <;> simp_all) (by cases h0 : ltB b.1 a.1 <;> simp_all)
  have e2 : a.2 = b.2 := ltB_total (by cases h0 : ltB a.2 b.2 <;> simp_all) (by cases h0 : ltB b.2 a.2 <;> simp_all)
  exact Prod.ext e1 e2
theorem ltT_ne {a b : Tg} (h : ltT a b = true) : a ≠ b := by rintro rfl; rw [ltT_irrefl] at h; cases h
theorem ltT_asym {a b : Tg} (h : ltT a b = true) : ltT b a = false := by
  cases k : ltT b a
  · rfl
  · have := ltT_trans h k; rw [ltT_irrefl] at this; cases this

/-- Where one tag stands to another one. -/
def ordT (a b : Tg) : Int := if a = b then 0 else if ltT a b = true then -1 else 1
theorem ordT_lt (a b : Tg) : decide (ordT a b < 0) = ltT a b := by
  unfold ordT
  by_cases h : a = b
  · subst h; rw [if_pos rfl, ltT_irrefl]; rfl
  · rw [if_neg h]
    by_cases k : ltT a b = true
    · rw [if_pos k, k]; rfl
    · rw [if_neg k]; simp at k; rw [k]; rfl

/-- In order, each once. -/
def Up (r : List Tg) : Prop := r.Pairwise fun a b => ltT a b = true

theorem up_cons {a : Tg} {r : List Tg} : Up (a :: r) ↔ (∀ x ∈ r, ltT a x = true) ∧ Up r := List.pairwise_cons

theorem up_unique : ∀ {r r' : List Tg}, Up r → Up r' → (∀ x, x ∈ r ↔ x ∈ r') → r = r'
  | [], [], _, _, _ => rfl
  | [], b :: r', _, _, h => absurd ((h b).2 (by simp)) (by simp)
  | a :: r, [], _, _, h => absurd ((h a).1 (by simp)) (by simp)
  | a :: r, b :: r', h1, h2, h => by
    obtain ⟨ha, hr⟩ := up_cons.1 h1
    obtain ⟨hb, hr'⟩ := up_cons.1 h2
    have e : a = b := by
      rcases List.mem_cons.1 ((h a).1 (by simp)) with e | m
      · exact e
      · rcases List.mem_cons.1 ((h b).2 (by simp)) with e | m'
        · exact e.symm
        · have := ltT_asym (ha b m'); rw [hb a m] at this; cases this
    subst e
    congr 1
    refine up_unique hr hr' fun x => ?_
    have hx := h x
    simp only [List.mem_cons] at hx
    constructor
    · intro m
      rcases hx.1 (.inr m) with e | m'
      · subst e; have := ha x m; rw [ltT_irrefl] at this; cases this
      · exact m'
    · intro m
      rcases hx.2 (.inr m) with e | m'
      · subst e; have := hb x m; rw [ltT_irrefl] at this; cases this
      · exact m'

/-- A tag put where it has to stand. -/
def ins (t : Tg) : List Tg → List Tg
  | [] => [t]
  | o :: r => if ltT o t = true then o :: ins t r else if o = t then o :: r else t :: o :: r
def norm (ts : List Tg) : List Tg := ts.foldl (fun out t => ins t out) []

theorem mem_ins {t x : Tg} : ∀ {r : List Tg}, x ∈ ins t r ↔ x = t ∨ x ∈ r
  | [] => by simp [ins]
  | o :: r => by
    unfold ins
    by_cases h : ltT o t = true
    · rw [if_pos h]; simp only [List.mem_cons, mem_ins (r := r)]
      constructor
      · rintro (h1 | h1 | h1)
        · exact .inr (.inl h1)
        · exact .inl h1
        · exact .inr (.inr h1)
      · rintro (h1 | h1 | h1)
        · exact .inr (.inl h1)
        · exact .inl h1
        · exact .inr (.inr h1)
    · rw [if_neg h]
      by_cases k : o = t
      · rw [if_pos k]; subst k; simp only [List.mem_cons]
        constructor
        · exact .inr
        · rintro (h1 | h1)
          · exact .inl h1
          · exact h1
      · rw [if_neg k]; simp only [List.mem_cons]
theorem up_ins {t : Tg} : ∀ {r : List Tg}, Up r → Up (ins t r)
  | [], _ => by unfold ins; exact List.pairwise_singleton _ _
  | o :: r, h => by
    obtain ⟨ho, hr⟩ := up_cons.1 h
    unfold ins
    by_cases hl : ltT o t = true
    · rw [if_pos hl]
      refine up_cons.2 ⟨fun x hx => ?_, up_ins hr⟩
      rcases mem_ins.1 hx with rfl | hx
      · exact hl
      · exact ho x hx
    · rw [if_neg hl]
      by_cases k : o = t
      · rw [if_pos k]; exact h
      · rw [if_neg k]
        have hlt : ltT t o = true := by
          cases c : ltT t o
          · exact absurd (ltT_total (by simpa using hl) c) k
          · rfl
        refine up_cons.2 ⟨fun x hx => ?_, h⟩
        rcases List.mem_cons.1 hx with rfl | hx
        · exact hlt
        · exact ltT_trans hlt (ho x hx)
theorem fold_norm : ∀ (ts r : List Tg), Up r → Up (ts.foldl (fun out t => ins t out) r) ∧ ∀ x, x ∈ ts.foldl (fun out t => ins t out) r ↔ x ∈ ts ∨ x ∈ r
  | [], r, h => ⟨h, fun x => by simp⟩
  | t :: ts, r, h => by
    obtain ⟨h1, h2⟩ := fold_norm ts (ins t r) (up_ins h)
    refine ⟨h1, fun x => ?_⟩
    rw [List.foldl_cons, h2, mem_ins, List.mem_cons]
    constructor
    · rintro (h1 | h1 | h1)
      · exact .inl (.inr h1)
      · exact .inl (.inl h1)
      · exact .inr h1
    · rintro ((h1 | h1) | h1)
      · exact .inr (.inl h1)
      · exact .inl h1
      · exact .inr (.inr h1)
theorem up_norm (ts : List Tg) : Up (norm ts) := (fold_norm ts [] List.Pairwise.nil).1
theorem mem_norm {ts : List Tg} {x : Tg} : x ∈ norm ts ↔ x ∈ ts := by
  have := (fold_norm ts [] List.Pairwise.nil).2 x
  simpa [norm] using this
theorem norm_is {ts r : List Tg} (h : Up r) (hm : ∀ x, x ∈ r ↔ x ∈ ts) : r = norm ts :=
  up_unique h (up_norm ts) fun x => (hm x).trans mem_norm.symm
theorem norm_same {ts us : List Tg} (h : ∀ x, x ∈ ts ↔ x ∈ us) : norm ts = norm us := norm_is (up_norm ts) fun x => mem_norm.trans (h x)
theorem up_iff {ts : List Tg} : Up ts ↔ ts = norm ts := ⟨fun h => norm_is h fun _ => Iff.rfl, fun h => h ▸ up_norm ts⟩
theorem norm_norm (ts : List Tg) : norm (norm ts) = norm ts := (up_iff.1 (up_norm ts)).symm
theorem norm_take (ts : List Tg) (i : Nat) (h : i < ts.length) : ins ts[i] (norm (ts.take i)) = norm (ts.take (i + 1)) := by
  unfold norm
  rw [List.take_add_one, List.getElem?_eq_getElem h, Option.toList_some, List.foldl_append]
  rfl
theorem norm_length (ts : List Tg) : (norm ts).length ≤ ts.length := by
  have : ∀ (ts r : List Tg), (ts.foldl (fun out t => ins t out) r).length ≤ ts.length + r.length := by
    intro ts
    induction ts with
    | nil => intro r; simp
    | cons t ts ih =>
      intro r
      have h := ih (ins t r)
      have hl : ∀ r : List Tg, (ins t r).length ≤ r.length + 1 := by
        intro r
        induction r with
        | nil => simp [ins]
        | cons o r ih => unfold ins; split <;> (try split) <;> simp <;> omega
      have := hl r
      simp only [List.foldl_cons, List.length_cons]
      omega
  simpa [norm] using this ts []

/-- Each tag but the first one has the one before it ahead of itself. -/
def Asc (ts : List Tg) : Prop := ∀ i (h : i + 1 < ts.length), ltT (ts[i]'(by omega)) ts[i + 1] = true
theorem asc_up {ts : List Tg} : Asc ts ↔ Up ts := by
  constructor
  · intro h
    have key : ∀ d i (hj : i + 1 + d < ts.length), ltT (ts[i]'(by omega)) ts[i + 1 + d] = true := by
      intro d
      induction d with
      | zero => intro i hj; exact h i hj
      | succ d ih => intro i hj; exact ltT_trans (ih i (by omega)) (h (i + 1 + d) hj)
    refine List.pairwise_iff_getElem.2 fun i j hi hj hij => ?_
    have := key (j - (i + 1)) i (by omega)
    simpa [show i + 1 + (j - (i + 1)) = j by omega] using this
  · intro h i hi
    exact List.pairwise_iff_getElem.1 h i (i + 1) (by omega) hi (by omega)
end Go.Proofs.YtdliookdmgilgaaGreatDoor

/-
  Rows of tags: a slice that reads as a list of tags, an append of tags onto a row of our own. No statement of the seat is proved here.
-/
namespace Go.Proofs.YtdliookdmgilgaaGreatDoor
open Go.RowKit

/-- The slice at A holds these values, one behind the other. -/
def Lies (w : World) (A : Option Addr) (vs : List Value) : Prop :=
  ∀ i u, vs[i]? = some u → ∃ b off, A = some ⟨b, off, none⟩ ∧ w.cell? ⟨b, off + i, none⟩ = some u

section
variable {w w' : World} {A : Option Addr} {vs : List Value}
theorem cell_lt {a : Addr} {u : Value} (h : w.cell? a = some u) : a.block < w.heap.size := by
  unfold World.cell? at h
  rcases Nat.lt_or_ge a.block w.heap.size with hlt | hge
  · exact hlt
  · rw [Array.getElem?_eq_none hge] at h; simp at h
theorem Lies.nil : Lies w A [] := fun i u h => by simp at h
theorem Lies.keep (h : Lies w A vs) (hb : Below w.heap.size w w') : Lies w' A vs := fun i u hu => by
  obtain ⟨b, off, e, hc⟩ := h i u hu
  exact ⟨b, off, e, (hb.cell (p := ⟨b, off + i, none⟩) (cell_lt hc)).trans hc⟩
theorem Lies.at_ {i : Nat} (h : Lies w A vs) (hi : i < vs.length) : ∃ b off, A = some ⟨b, off, none⟩ ∧ w.cell? ⟨b, off + i, none⟩ = some vs[i] :=
  h i _ (List.getElem?_eq_getElem hi)
/-- A row of the call's own reads as what it holds. -/
theorem Lies.of_own {base n cap size : Nat} {e : TypeId} (h : w.ownsRow base e size (.slice A n cap) n vs) : Lies w A vs := by
  rcases h.2 with ⟨hv, hn⟩ | ⟨g, cap', cur, hv, hg, hh, hnc, hcm, hcs, htake⟩
  · have : vs = [] := List.eq_nil_of_length_eq_zero (by rw [h.1, hn]; simp)
    subst this
    exact .nil
  · injection hv with hA _ _
    subst hA
    intro i u hu
    refine ⟨g, 0, rfl, ?_⟩
    have : cur[i]? = some u := by
      rw [← htake] at hu
      have := List.getElem?_take (l := cur.toList) (i := n * size) (j := i)
      rw [this] at hu
      split at hu
      · simpa using hu
      · cases hu
    simp [World.cell?, hh, this]
theorem Lies.take (h : Lies w A vs) (k : Nat) : Lies w A (vs.take k) := fun i u hu => by
  rw [List.getElem?_take] at hu
  split at hu
  · exact h i u hu
  · cases hu
end

/-- A tag's two cells. -/
def encT (t : Tg) : List Value := [.string ⟨t.1.toArray⟩, .string ⟨t.2.toArray⟩]
def flat (ts : List Tg) : List Value := ts.flatMap encT
theorem flat_nil : flat [] = [] := rfl
theorem flat_cons (t : Tg) (ts : List Tg) : flat (t :: ts) = .string ⟨t.1.toArray⟩ :: .string ⟨t.2.toArray⟩ :: flat ts := rfl
theorem flat_append (a b : List Tg) : flat (a ++ b) = flat a ++ flat b := by unfold flat; rw [List.flatMap_append]
theorem flat_one (t : Tg) : flat [t] = encT t := rfl
theorem flat_length : ∀ ts : List Tg, (flat ts).length = ts.length * 2
  | [] => rfl
  | t :: ts => by rw [flat_cons, List.length_cons, List.length_cons, flat_length ts, List.length_cons]; omega
theorem flat_get0 : ∀ (ts : List Tg) (i : Nat), (flat ts)[i * 2]? = ts[i]?.map fun t => .string ⟨t.1.toArray⟩
  | [], i => by simp [flat_nil]
  | t :: ts, 0 => rfl
  | t :: ts, i + 1 => by rw [flat_cons, show (i + 1) * 2 = i * 2 + 1 + 1 by omega]; simp only [List.getElem?_cons_succ]; exact flat_get0 ts i
theorem flat_get1 : ∀ (ts : List Tg) (i : Nat), (flat ts)[i * 2 + 1]? = ts[i]?.map fun t => .string ⟨t.2.toArray⟩
  | [], i => by simp [flat_nil]
  | t :: ts, 0 => rfl
  | t :: ts, i + 1 => by rw [flat_cons, show (i + 1) * 2 + 1 = i * 2 + 1 + 1 + 1 by omega]; simp only [List.getElem?_cons_succ]; exact flat_get1 ts i
theorem flat_take : ∀ (ts : List Tg) (k : Nat), flat (ts.take k) = (flat ts).take (k * 2)
  | [], k => by simp [flat_nil]
  | t :: ts, 0 => rfl
  | t :: ts, k + 1 => by rw [List.take_succ_cons, flat_cons, flat_cons, flat_take ts k, show (k + 1) * 2 = k * 2 + 1 + 1 by omega]; rfl
theorem flat_cells : ∀ {ts : List Tg}, ∀ u ∈ flat ts, u.oneCell' = true := by
  intro ts u hu
  obtain ⟨t, _, hu⟩ := List.mem_flatMap.1 hu
  simp [encT] at hu
  rcases hu with rfl | rfl <;> rfl

/-- The slice at A holds these tags. -/
def Tags (w : World) (A : Option Addr) (ts : List Tg) : Prop := Lies w A (flat ts)
section
variable {w w' : World} {A : Option Addr} {ts : List Tg}
theorem Tags.nil : Tags w A [] := Lies.nil
theorem Tags.keep (h : Tags w A ts) (hb : Below w.heap.size w w') : Tags w' A ts := Lies.keep h hb
theorem Tags.at_ {i : Nat} (h : Tags w A ts) (hi : i < ts.length) : ∃ b off, A = some ⟨b, off, none⟩ ∧ w.cell? ⟨b, off + i * 2, none⟩ = some (.string ⟨ts[i].1.toArray⟩) ∧ w.cell? ⟨b, off + i * 2 + 1, none⟩ = some (.string ⟨ts[i].2.toArray⟩) := by
  obtain ⟨b, off, e, h0⟩ := h (i * 2) _ (by rw [flat_get0, List.getElem?_eq_getElem hi]; rfl)
  obtain ⟨b', off', e', h1⟩ := h (i * 2 + 1) _ (by rw [flat_get1, List.getElem?_eq_getElem hi]; rfl)
  rw [e] at e'
  injection e' with e'
  injection e' with e1 e2
  subst e1 e2
  exact ⟨b, off, e, h0, h1⟩
theorem Tags.some_ (h : Tags w A ts) (hi : 0 < ts.length) : ∃ b off, A = some ⟨b, off, none⟩ ∧ b < w.heap.size := by
  obtain ⟨b, off, e, h0, _⟩ := h.at_ hi
  exact ⟨b, off, e, cell_lt h0⟩
/-- The cells of all tags, at a slice whose place is known. -/
theorem Tags.cells {b off : Nat} (h : Tags w (some ⟨b, off, none⟩) ts) {i : Nat} (hi : i < ts.length) : w.cell? ⟨b, off + i * 2, none⟩ = some (.string ⟨ts[i].1.toArray⟩) ∧ w.cell? ⟨b, off + i * 2 + 1, none⟩ = some (.string ⟨ts[i].2.toArray⟩) := by
  obtain ⟨b', off', e, h0, h1⟩ := h.at_ hi
  injection e with e
  injection e with e1 e2
  subst e1 e2
  exact ⟨h0, h1⟩
theorem Tags.of_own {base n cap : Nat} (h : w.ownsRow base 54 2 (.slice A n cap) n (flat ts)) : Tags w A ts := Lies.of_own h
theorem Tags.take (h : Tags w A ts) (k : Nat) : Tags w A (ts.take k) := by unfold Tags; rw [flat_take]; exact Lies.take h _
end

section
variable {w w' : World} {base base' size n p : Nat} {e : TypeId} {v : Value} {xs : List Value}
theorem own_base (h : w.ownsRow base e size v n xs) (hb : base' ≤ base) : w.ownsRow base' e size v n xs := by
  refine ⟨h.1, ?_⟩
  rcases h.2 with h2 | ⟨g, cap, cur, hv, hg, r⟩
  · exact .inl h2
  · exact .inr ⟨g, cap, cur, hv, Nat.le_trans hb hg, r⟩
theorem own_lt {g : Nat} {cur : Array Value} (h : w.heap[g]? = some (.cells cur e (0, 0))) : g < w.heap.size := by
  rcases Nat.lt_or_ge g w.heap.size with hlt | hge
  · exact hlt
  · rw [Array.getElem?_eq_none hge] at h; cases h
theorem own_keep (h : w.ownsRow base e size v n xs) (hb : Below w.heap.size w w') : w'.ownsRow base e size v n xs := by
  refine ⟨h.1, ?_⟩
  rcases h.2 with h2 | ⟨g, cap, cur, hv, hg, hh, r⟩
  · exact .inl h2
  · exact .inr ⟨g, cap, cur, hv, hg, (hb.block g (own_lt hh)).trans hh, r⟩
theorem own_slice (h : w.ownsRow base e size v n xs) : ∃ A cap, v = .slice A n cap ∧ n ≤ cap ∧ cap ≤ maxLen ∧ (A = none → cap = 0 ∧ n = 0) ∧ ∀ x, A = some x → base ≤ x.block ∧ x.block < w.heap.size ∧ x = ⟨x.block, 0, none⟩ := by
  rcases h.2 with ⟨rfl, rfl⟩ | ⟨g, cap, cur, rfl, hg, hh, h1, h2, _⟩
  · exact ⟨none, 0, rfl, Nat.le_refl _, Nat.zero_le _, fun _ => ⟨rfl, rfl⟩, fun x hx => by cases hx⟩
  · exact ⟨_, cap, rfl, h1, h2, (fun hx => by cases hx), (fun x hx => by injection hx with hx; subst hx; exact ⟨hg, own_lt hh, rfl⟩)⟩
end

section
variable (w : World)
theorem info_tag : ∃ i, Tryz.prog.info? 54 = some i ∧ i.zero = some (.agg #[.string ⟨#[]⟩, .string ⟨#[]⟩]) ∧ i.size = 2 ∧ i.bytes = 32 := by
  obtain ⟨i, h1, h2, h3, h4⟩ := info_parts (P := Tryz.prog) (e := 54) (z := .agg #[.string ⟨#[]⟩, .string ⟨#[]⟩]) (size := 2) (bytes := 32) (by kernel_rfl)
  exact ⟨i, h1, h2, h3, h4⟩

set_option maxRecDepth 100000 in
theorem run_append_tags (base : Nat) (ty : TypeId) (v : Value) (n : Nat) (ts : List Tg) (hown : w.ownsRow base 54 2 v n (flat ts))
    (A : Option Addr) (m c : Nat) (us : List Tg) (hl : us.length = m) (hv : Tags w A us) (hfit : n + m ≤ 1000000) (hbase : base ≤ w.heap.size) :
    ∃ v' w', (Builtin.append_ #[23, 23] ty #[v, .slice A m c]).run Tryz.prog w = .ok v' w' ∧ w'.ownsRow base 54 2 v' (n + m) (flat (ts ++ us)) ∧ w.grownBy w' v.ownBlock ∧
      (v'.ownBlock = v.ownBlock ∨ v'.ownBlock = some w.heap.size) := by
  obtain ⟨i, hi, hz, hs1, hb1⟩ := info_tag
  have go : ∀ a : Addr, (∀ j u, (flat us)[j]? = some u → w.cell? (a.add j) = some u) → ∃ v' w', (Builtin.append_ #[23, 23] ty #[v, .slice (some a) m c]).run Tryz.prog w = .ok v' w' ∧ w'.ownsRow base 54 2 v' (n + m) (flat (ts ++ us)) ∧ w.grownBy w' v.ownBlock ∧
      (v'.ownBlock = v.ownBlock ∨ v'.ownBlock = some w.heap.size) := by
    intro a ha
    obtain ⟨v', w', hr, h2, h3, _, h5⟩ := run_append_own_at (P := Tryz.prog) w base 23 ty 54 _ (.agg #[.string ⟨#[]⟩, .string ⟨#[]⟩]) 2 32 Tryz.underlying23 hi hz hs1 hb1 rfl (by omega) v n (flat ts) hown a m c (flat us) (by rw [flat_length]; omega) ha flat_cells (by unfold maxLen; omega) (by omega) hbase
    rw [flat_append]
    exact ⟨v', w', hr, h2, h3, h5⟩
  rcases A with _ | a
  · have h0 : us = [] := by
      rcases us with _ | ⟨u, us⟩
      · rfl
      · obtain ⟨b, off, e, _⟩ := hv 0 _ rfl
        cases e
    subst h0
    have hm : m = 0 := by simpa using hl.symm
    subst hm
    refine ⟨v, w, ?_, by simpa using hown, World.grownBy.refl w _, .inl rfl⟩
    rcases hown.2 with ⟨rfl, rfl⟩ | ⟨g, cap, cur, rfl, _, _, hnc, _⟩
    · simp [Builtin.append_, run_underlying Tryz.underlying23, sizeOf, typeInfo, hi, Builtin.lenOf, Builtin.firstCells]
    · simp [Builtin.append_, run_underlying Tryz.underlying23, sizeOf, typeInfo, hi, Builtin.lenOf, Builtin.firstCells, hnc, storeCells]
  · refine go a fun j u hu => ?_
    obtain ⟨b, off, e, hc⟩ := hv j u hu
    injection e with e
    subst e
    rcases Nat.eq_zero_or_pos j with rfl | hj
    · simpa [Addr.add] using hc
    · simpa [Addr.add, Nat.ne_of_gt hj] using hc

theorem wpList_append_tags {ops : Array Oper} {rest : List Oper} {o : Oper} {a : Act} {Q : Exit → Act → World → Prop} (hgd : o.guard = none) (s x : Operand)
    (ho : o.op = .call { callee := .builtin .append, args := #[s, x], argTypes := #[23, 23] })
    (base : Nat) (v : Value) (n : Nat) (ts : List Tg) (hs : a.eval s = v) (hown : w.ownsRow base 54 2 v n (flat ts))
    (A : Option Addr) (m c : Nat) (us : List Tg) (hx : a.eval x = .slice A m c) (hl : us.length = m) (hv : Tags w A us)
    (hfit : n + m ≤ 1000000) (hbase : base ≤ w.heap.size)
    (h : ∀ v' w', w'.ownsRow base 54 2 v' (n + m) (flat (ts ++ us)) → w.grownBy w' v.ownBlock → (v'.ownBlock = v.ownBlock ∨ v'.ownBlock = some w.heap.size) → wpList Tryz.prog ops Q rest (a.put o.dst v') w') :
    wpList Tryz.prog ops Q (o :: rest) a w := by
  refine wpList_plain hgd fun K hK => ?_
  obtain ⟨v', w', hr, h2, h3, h4⟩ := run_append_tags w base o.type v n ts hown A m c us hl hv hfit hbase
  unfold Oper.wp execOp
  simp only [ho, resolve, invoke, builtin, Sem.run_bind, Sem.run_pure, Result.andThen_ok, List.map_toArray, List.map_cons, List.map_nil, hs, hx, hr]
  exact hK _ _ (h v' w' h2 h3 h4)

/-- The same append as a step of a region that draws its order. -/
theorem step_append_tags {ops : Array Oper} {o : Oper} {a : Act} {K : Act → World → Prop} {Q : Exit → Act → World → Prop} {E : Prop} (hgd : o.guard = none) (s x : Operand)
    (ho : o.op = .call { callee := .builtin .append, args := #[s, x], argTypes := #[23, 23] })
    (base : Nat) (v : Value) (n : Nat) (ts : List Tg) (hs : a.eval s = v) (hown : w.ownsRow base 54 2 v n (flat ts))
    (A : Option Addr) (m c : Nat) (us : List Tg) (hx : a.eval x = .slice A m c) (hl : us.length = m) (hv : Tags w A us)
    (hfit : n + m ≤ 1000000) (hbase : base ≤ w.heap.size)
    (h : ∀ v' w', w'.ownsRow base 54 2 v' (n + m) (flat (ts ++ us)) → w.grownBy w' v.ownBlock → (v'.ownBlock = v.ownBlock ∨ v'.ownBlock = some w.heap.size) → K (a.put o.dst v') w') :
    if Region.wanted o (yielded ops a.tmps) = true then Oper.wp Tryz.prog o a w K Q else E := by
  have hw : Region.wanted o (yielded ops a.tmps) = true := by simp [Region.wanted, hgd]
  rw [if_pos hw]
  obtain ⟨v', w', hr, h2, h3, h4⟩ := run_append_tags w base o.type v n ts hown A m c us hl hv hfit hbase
  unfold Oper.wp execOp
  simp only [ho, resolve, invoke, builtin, Sem.run_bind, Sem.run_pure, Result.andThen_ok, List.map_toArray, List.map_cons, List.map_nil, hs, hx, hr]
  exact h v' w' h2 h3 h4

/-- One tag, laid in a block of its own. -/
theorem tags_one {s t : ByteArray} {k v : List UInt8} (hs : Str s k) (ht : Str t v) : Tags (w.alloc (.cells #[.string s, .string t] 54)) (some ⟨w.heap.size, 0, none⟩) [(k, v)] := by
  rw [hs.eq, ht.eq]
  intro i u hu
  refine ⟨w.heap.size, 0, rfl, ?_⟩
  have := (Box.new w 54 [.string ⟨k.toArray⟩, .string ⟨v.toArray⟩]).cell i
  rw [Nat.zero_add, this]
  exact hu
theorem tags_at {s t : ByteArray} {x : Tg} {n : Nat} (hn : w.heap.size = n) (hs : Str s x.1) (ht : Str t x.2) : Tags (w.alloc (.cells #[.string s, .string t] 54)) (some ⟨n, 0, none⟩) [x] := by
  subst hn; exact tags_one w hs ht
theorem own_empty : (w.alloc (.cells #[] 54)).ownsRow w.heap.size 54 2 (.slice (some ⟨w.heap.size, 0, none⟩) 0 0) 0 (flat []) :=
  ⟨rfl, .inr ⟨w.heap.size, 0, #[], rfl, Nat.le_refl _, Box.new w 54 [], by omega, by unfold maxLen; omega, rfl, rfl⟩⟩
theorem own_nil (base : Nat) : w.ownsRow base 54 2 (.slice none 0 0) 0 (flat []) := ⟨rfl, .inl ⟨rfl, rfl⟩⟩
end
end Go.Proofs.YtdliookdmgilgaaGreatDoor
