/-
  Mem, KStr, TMath, TRows, TLess, Digs, DMath, TGet, TCompact, TNormal, TNormal2, TKeep, DText, DigLess. No statement of the seat is proved here.
-/
import Derived.WalkKit
import Derived.WalkSpells
import Derived.WalkLawsBesides
import Derived.BigQuiet
import Derived.Lib.Hide
import Derived.Deep.QuietTactic
import Derived.Test.YtmaiggoinjldpaaGreatDoorChecked
import Derived.Laws.Concat
import Derived.Laws.Strings3
import Derived.Sort.Walk0
import Derived.Sort.LotA
import Derived.Maps.AppendAt
import Derived.Laws.StructEq
import Derived.Sort.Grow
import Derived.Deep.RegionHeld3
import Derived.Lib.ItoaNum
import Derived.Lib.ItoaLen
import GoSem.Op.String
/-
  Memory of our own: a block that is known whole, rows of bytes, and what a call leaves as it was. No statement of the seat is proved here.
-/
namespace Go.Proofs.YtmaiggoinjldpaaGreatDoor
open Go.RowKit

/-- Block g is just these cells, of element type t, none frozen. -/
def Box (w : World) (g : Nat) (t : TypeId) (cs : List Value) : Prop := w.heap[g]? = some (.cells cs.toArray t (0, 0))

/-- The heap, and the streams, are the same: only the tape has gone on. -/
structure Same (w w' : World) : Prop where
  heap : w'.heap = w.heap
  os : w'.os = w.os
  tape : w'.tape = w.tape
  output : w'.output = w.output

/-- Nothing that was there has changed, but for block p. -/
structure But (p : Nat) (w w' : World) : Prop where
  os : w'.os = w.os
  tape : w'.tape = w.tape
  output : w'.output = w.output
  size : w.heap.size ≤ w'.heap.size
  block : ∀ k, k < w.heap.size → k ≠ p → w'.heap[k]? = w.heap[k]?

section
variable {w w' w'' : World} {g p B : Nat} {t : TypeId} {cs : List Value}

theorem Same.refl (w : World) : Same w w := ⟨rfl, rfl, rfl, rfl⟩
theorem Same.trans (h : Same w w') (k : Same w' w'') : Same w w'' := ⟨k.1.trans h.1, k.2.trans h.2, k.3.trans h.3, k.4.trans h.4⟩
theorem Same.drewN (w : World) (n : Nat) : Same w (w.drewN n) := ⟨rfl, rfl, rfl, rfl⟩
theorem Same.below (h : Same w w') : Below B w w' := ⟨h.os, h.tape, h.output, by rw [h.heap]; exact Nat.le_refl _, fun k _ => by rw [h.heap]⟩
theorem Same.cell (h : Same w w') (a : Addr) : w'.cell? a = w.cell? a := by unfold World.cell?; rw [h.heap]

theorem Box.lt (h : Box w g t cs) : g < w.heap.size := by
  unfold Box at h
  rcases Nat.lt_or_ge g w.heap.size with hlt | hge
  · exact hlt
  · rw [Array.getElem?_eq_none hge] at h; cases h
theorem Box.cell (h : Box w g t cs) (i : Nat) : w.cell? ⟨g, i, none⟩ = cs[i]? := by
  unfold Box at h
  simp [World.cell?, h]
theorem Box.frozen (h : Box w g t cs) (i : Nat) : w.frozen? ⟨g, i, none⟩ = false := by
  unfold Box at h
  simp [World.frozen?, h]
theorem Box.same (h : Box w g t cs) (hs : Same w w') : Box w' g t cs := by unfold Box; rw [hs.heap]; exact h
theorem Box.below (h : Box w g t cs) (hb : Below B w w') (hg : g < B) : Box w' g t cs := (hb.block g hg).trans h
theorem Box.keep (h : Box w g t cs) (hb : Below w.heap.size w w') : Box w' g t cs := (hb.block g h.lt).trans h
theorem Box.but (h : Box w g t cs) (hb : But p w w') (hg : g ≠ p) : Box w' g t cs := (hb.block g h.lt hg).trans h
theorem Box.set (h : Box w g t cs) (i : Nat) (u : Value) : Box (w.setCell ⟨g, i, none⟩ u) g t (cs.set i u) := by
  unfold Box at h ⊢
  simp [World.setCell, Array.getElem?_modify, h]
theorem Box.far (h : Box w g t cs) {q : Addr} (hp : g ≠ q.block) (u : Value) : Box (w.setCell q u) g t cs := (Below.heap_setCell w q u g hp).trans h
theorem Box.new (w : World) (t : TypeId) (cs : List Value) : Box (w.alloc (.cells cs.toArray t)) w.heap.size t cs := by
  unfold Box World.alloc; simp
theorem Box.alloc (h : Box w g t cs) (o : Obj) : Box (w.alloc o) g t cs := (Below.heap_alloc w o g h.lt).trans h
theorem Box.ne {g' : Nat} {t' : TypeId} {cs' : List Value} (h : Box w g t cs) (h' : Box w g' t' cs') (hne : t ≠ t') : g ≠ g' := by
  rintro rfl
  unfold Box at h h'
  rw [h] at h'
  injection h' with h'
  injection h' with _ ht
  exact hne ht

theorem But.refl (p : Nat) (w : World) : But p w w := ⟨rfl, rfl, rfl, Nat.le_refl _, fun _ _ _ => rfl⟩
theorem But.trans (h : But p w w') (k : But p w' w'') : But p w w'' :=
  ⟨k.os.trans h.os, k.tape.trans h.tape, k.output.trans h.output, Nat.le_trans h.size k.size, fun i hi hp => (k.block i (Nat.lt_of_lt_of_le hi h.size) hp).trans (h.block i hi hp)⟩
theorem But.of_below (h : Below w.heap.size w w') : But p w w' := ⟨h.os, h.tape, h.output, h.size, fun k hk _ => h.block k hk⟩
theorem But.of_same (h : Same w w') : But p w w' := .of_below h.below
theorem But.below (h : But p w w') (hp : B ≤ p) (hB : B ≤ w.heap.size) : Below B w w' := ⟨h.os, h.tape, h.output, h.size, fun k hk => h.block k (by omega) (by omega)⟩
theorem But.setCell (h : But p w w') {q : Addr} (hq : q.block = p) (u : Value) : But p w (w'.setCell q u) :=
  h.trans ⟨rfl, rfl, rfl, by simp [World.setCell], fun k _ hk => Below.heap_setCell _ _ _ _ (by omega)⟩
theorem But.set (h : But p w w') (i : Nat) (u : Value) : But p w (w'.setCell ⟨p, i, none⟩ u) := h.setCell rfl u
theorem But.alloc (h : But p w w') (o : Obj) : But p w (w'.alloc o) :=
  h.trans (.of_below ((Below.refl _ _).alloc (Nat.le_refl _) o))
theorem But.drew (h : But p w w') : But p w w'.drew := ⟨h.os, h.tape, h.output, h.size, h.block⟩
theorem below_set (h : Below B w w') {g : Nat} (hg : B ≤ g) (i : Nat) (u : Value) : Below B w (w'.setCell ⟨g, i, none⟩ u) := h.setCell (p := ⟨g, i, none⟩) hg u
theorem size_alloc (w : World) (o : Obj) : (w.alloc o).heap.size = w.heap.size + 1 := by simp
theorem below_then (h : Below w.heap.size w w') (k : Below w'.heap.size w' w'') : Below w.heap.size w w'' := h.trans (k.mono h.size)
end
end Go.Proofs.YtmaiggoinjldpaaGreatDoor

/-
  Strings of our own: a string whose bytes are a list. No statement of the seat is proved here.
-/
namespace Go.Proofs.YtmaiggoinjldpaaGreatDoor
open Go.RowKit

/-- The string's bytes. -/
def Str (s : ByteArray) (l : List UInt8) : Prop := s.data.toList = l

theorem Str.mk (l : List UInt8) : Str ⟨l.toArray⟩ l := by unfold Str; simp
theorem Str.eq {s : ByteArray} {l : List UInt8} (h : Str s l) : s = ⟨l.toArray⟩ := by
  unfold Str at h
  subst h
  cases s; simp
theorem Str.self (s : ByteArray) : Str s s.data.toList := rfl
theorem Str.size {s : ByteArray} {l : List UInt8} (h : Str s l) : s.size = l.length := by rw [h.eq]; simp [ByteArray.size]
theorem Str.append {s t : ByteArray} {a b : List UInt8} (h : Str s a) (k : Str t b) : Str (s ++ t) (a ++ b) := by
  rw [h.eq, k.eq, ByteArray.mk_append_mk]; exact Str.mk _
theorem Str.cut {s : ByteArray} {l : List UInt8} (h : Str s l) (i j : Nat) : Str (s.extract i j) ((l.drop i).take (j - i)) := by
  rw [h.eq, ByteArray.extract_mk]; exact Str.mk _
theorem Str.toList {s : ByteArray} {l : List UInt8} (h : Str s l) : s.toList = l := by rw [ByteArray.toList_eq]; exact h
theorem Str.at_ {s : ByteArray} {l : List UInt8} (h : Str s l) (i : Nat) (hi : i < s.size) (hl : i < l.length) : s[i] = l[i] := by
  have e := h.eq
  subst e
  simp only [ByteArray.getElem_eq_getElem_data]
  simp

section
variable {s : ByteArray} {l : List UInt8}
/-- s[:j], s[i:], s[i:j]. -/
theorem Str.to_ (h : Str s l) {j : Int} (n : Nat) (hn : j = n) (hj : n ≤ l.length) : ∃ t, Str t (l.take n) ∧ ∀ W, (Instr.slice 9 (.string s) none (some (.int .i64 j)) none).run Tryz.prog W = .ok (.string t) W := by
  subst hn
  have hz := h.size
  refine ⟨s.extract 0 n, by have := h.cut 0 n; simpa using this, fun W => ?_⟩
  rw [run_slice_string_to_if W 9 s .i64 n Tryz.underlying9, if_pos ⟨by omega, by omega⟩]
  rfl
theorem Str.from_ (h : Str s l) {i : Int} (n : Nat) (hn : i = n) (hi : n ≤ l.length) : ∃ t, Str t (l.drop n) ∧ ∀ W, (Instr.slice 9 (.string s) (some (.int .i64 i)) none none).run Tryz.prog W = .ok (.string t) W := by
  subst hn
  have hz := h.size
  refine ⟨s.extract n s.size, by have := h.cut n s.size; rw [hz] at this ⊢; rw [List.take_of_length_le (by simp)] at this; exact this, fun W => ?_⟩
  rw [run_slice_string_from_if W 9 s .i64 n Tryz.underlying9, if_pos ⟨by omega, by omega⟩]
  rfl
theorem Str.part (h : Str s l) {ki kj : IntKind} {i j : Int} (n m : Nat) (hn : i = n) (hm : j = m) (hi : n ≤ m) (hj : m ≤ l.length) : ∃ t, Str t ((l.drop n).take (m - n)) ∧ ∀ W, (Instr.slice 9 (.string s) (some (.int ki i)) (some (.int kj j)) none).run Tryz.prog W = .ok (.string t) W := by
  subst hn hm
  have hz := h.size
  refine ⟨s.extract n m, h.cut n m, fun W => ?_⟩
  rw [run_slice_string W 9 s ki kj n m Tryz.underlying9 (by omega) (by omega) (by omega)]
  rfl
/-- s[i]. -/
theorem Str.index (h : Str s l) {i : Int} (n : Nat) (hn : i = n) (hi : n < l.length) : ∀ W, (Instr.index 9 (.string s) (.int .i64 i)).run Tryz.prog W = .ok (.int .u8 (l[n].toNat : Int)) W := by
  subst hn
  have hz := h.size
  intro W
  rw [run_index_string (h := Tryz.underlying9), dif_pos ⟨by omega, by omega⟩]
  have := h.at_ n (by omega) hi
  simp only [Int.toNat_natCast]
  rw [this]
end
end Go.Proofs.YtmaiggoinjldpaaGreatDoor

/-
  Tags as pairs of lists of bytes: which one is ahead, and tags in order, each once. Nothing of the program. No statement of the seat is proved here.
-/
namespace Go.Proofs.YtmaiggoinjldpaaGreatDoor

abbrev Tg := List UInt8 × List UInt8

/-- A text is ahead of another one. -/
def ltB (a b : List UInt8) : Bool := Op.bytesLess a b
/-- A tag is ahead of another one. -/
def ltT (a b : Tg) : Bool := ltB a.1 b.1 || (a.1 == b.1 && ltB a.2 b.2)

theorem ltB_eq (a b : List UInt8) : ltB a b = decide (a < b) := bytesLess_eq a b
theorem ltB_irrefl (a : List UInt8) : ltB a a = false := by rw [ltB_eq]; simp [List.lt_irrefl]
theorem ltB_trans {a b c : List UInt8} (h : ltB a b = true) (k : ltB b c = true) : ltB a c = true := by
  rw [ltB_eq, decide_eq_true_eq] at *; exact List.lt_trans h k
theorem ltB_total {a b : List UInt8} (h : ltB a b = false) (k : ltB b a = false) : a = b := by
  rw [ltB_eq, decide_eq_false_iff_not, List.not_lt] at *; exact List.le_antisymm k h

theorem ltT_iff {a b : Tg} : ltT a b = true ↔ ltB a.1 b.1 = true ∨ (a.1 = b.1 ∧ ltB a.2 b.2 = true) := by
  unfold ltT; simp
theorem ltT_irrefl (a : Tg) : ltT a a = false := by unfold ltT; simp [ltB_irrefl]
theorem ltT_trans {a b c : Tg} (h : ltT a b = true) (k : ltT b c = true) : ltT a c = true := by
  rw [ltT_iff] at *
  rcases h with h | ⟨h1, h2⟩ <;> rcases k with k | ⟨k1, k2⟩
  · exact .inl (ltB_trans h k)
  · rw [← k1]; exact .inl h
  · rw [h1]; exact .inl k
  · exact .inr ⟨h1.trans k1, ltB_trans h2 k2⟩
theorem ltT_total {a b : Tg} (h : ltT a b = false) (k : ltT b a = false) : a = b := by
  have h' : ¬ (ltB a.1 b.1 = true ∨ (a.1 = b.1 ∧ ltB a.2 b.2 = true)) := by rw [← ltT_iff, h]; simp
  have k' : ¬ (ltB b.1 a.1 = true ∨ (b.1 = a.1 ∧ ltB b.2 a.2 = true)) := by rw [← ltT_iff, k]; simp
  have e1 : a.1 = b.1 := ltB_total (by cases h0 : ltB a.1 b.1 <;> simp_all) (by cases h0 : ltB b.1 a.1 <;> simp_all)
  have e2 : a.2 = b.2 := ltB_total (by cases h0 : ltB a.2 b.2 <;> simp_all) (by cases h0 : ltB b.2 a.2 <;> simp_all)
  exact Prod.ext e1 e2
theorem ltT_ne {a b : Tg} (h : ltT a b = true) : a ≠ b := by rintro rfl; rw [ltT_irrefl] at h; cases h
theorem ltT_asym {a b : Tg} (h : ltT a b = true) : ltT b a = false := by
  cases k : ltT b a
  · rfl
  · have := ltT_trans h k; rw [ltT_irrefl] at this; cases this

/-- Where one tag stands to another one. -/
def ordT (a b : Tg) : Int := if a = b then 0 else if ltT a b = true then -1 else 1
theorem ordT_lt (a b : Tg) : decide (ordT a b < 0) = ltT a b := by
  unfold ordT
  by_cases h : a = b
  · subst h; rw [if_pos rfl, ltT_irrefl]; rfl
  · rw [if_neg h]
    by_cases k : ltT a b = true
    · rw [if_pos k, k]; rfl
    · rw [if_neg k]; simp at k; rw [k]; rfl

/-- In order, each once. -/
def Up (r : List Tg) : Prop := r.Pairwise fun a b => ltT a b = true

theorem up_cons {a : Tg} {r : List Tg} : Up (a :: r) ↔ (∀ x ∈ r, ltT a x = true) ∧ Up r := List.pairwise_cons

theorem up_unique : ∀ {r r' : List Tg}, Up r → Up r' → (∀ x, x ∈ r ↔ x ∈ r') → r = r'
  | [], [], _, _, _ => rfl
  | [], b :: r', _, _, h => absurd ((h b).2 (by simp)) (by simp)
  | a :: r, [], _, _, h => absurd ((h a).1 (by simp)) (by simp)
  | a :: r, b :: r', h1, h2, h => by
    obtain ⟨ha, hr⟩ := up_cons.1 h1
    obtain ⟨hb, hr'⟩ := up_cons.1 h2
    have e : a = b := by
      rcases List.mem_cons.1 ((h a).1 (by simp)) with e | m
      · exact e
      · rcases List.mem_cons.1 ((h b).2 (by simp)) with e | m'
        · exact e.symm
        · have := ltT_asym (ha b m'); rw [hb a m] at this; cases this
    subst e
    congr 1
    refine up_unique hr hr' fun x => ?_
    have hx := h x
    simp only [List.mem_cons] at hx
    constructor
    · intro m
      rcases hx.1 (.inr m) with e | m'
      · subst e; have := ha x m; rw [ltT_irrefl] at this; cases this
      · exact m'
    · intro m
      rcases hx.2 (.inr m) with e | m'
      · subst e; have := hb x m; rw [ltT_irrefl] at this; cases this
      · exact m'

/-- A tag put where it has to stand. -/
def ins (t : Tg) : List Tg → List Tg
  | [] => [t]
  | o :: r => if ltT o t = true then o :: ins t r else if o = t then o :: r else t :: o :: r
def norm (ts : List Tg) : List Tg := ts.foldl (fun out t => ins t out) []

theorem mem_ins {t x : Tg} : ∀ {r : List Tg}, x ∈ ins t r ↔ x = t ∨ x ∈ r
  | [] => by simp [ins]
  | o :: r => by
    unfold ins
    by_cases h : ltT o t = true
    · rw [if_pos h]; simp only [List.mem_cons, mem_ins (r := r)]
      constructor
      · rintro (h1 | h1 | h1)
        · exact .inr (.inl h1)
        · exact .inl h1
        · exact .inr (.inr h1)
      · rintro (h1 | h1 | h1)
        · exact .inr (.inl h1)
        · exact .inl h1
        · exact .inr (.inr h1)
    · rw [if_neg h]
      by_cases k : o = t
      · rw [if_pos k]; subst k; simp only [List.mem_cons]
        constructor
        · exact .inr
        · rintro (h1 | h1)
          · exact .inl h1
          · exact h1
      · rw [if_neg k]; simp only [List.mem_cons]
theorem up_ins {t : Tg} : ∀ {r : List Tg}, Up r → Up (ins t r)
  | [], _ => by unfold ins; exact List.pairwise_singleton _ _
  | o :: r, h => by
    obtain ⟨ho, hr⟩ := up_cons.1 h
    unfold ins
    by_cases hl : ltT o t = true
    · rw [if_pos hl]
      refine up_cons.2 ⟨fun x hx => ?_, up_ins hr⟩
      rcases mem_ins.1 hx with rfl | hx
      · exact hl
      · exact ho x hx
    · rw [if_neg hl]
      by_cases k : o = t
      · rw [if_pos k]; exact h
      · rw [if_neg k]
        have hlt : ltT t o = true := by
          cases c : ltT t o
          · exact absurd (ltT_total (by simpa using hl) c) k
          · rfl
        refine up_cons.2 ⟨fun x hx => ?_, h⟩
        rcases List.mem_cons.1 hx with rfl | hx
        · exact hlt
        · exact ltT_trans hlt (ho x hx)
theorem fold_norm : ∀ (ts r : List Tg), Up r → Up (ts.foldl (fun out t => ins t out) r) ∧ ∀ x, x ∈ ts.foldl (fun out t => ins t out) r ↔ x ∈ ts ∨ x ∈ r
  | [], r, h => ⟨h, fun x => by simp⟩
  | t :: ts, r, h => by
    obtain ⟨h1, h2⟩ := fold_norm ts (ins t r) (up_ins h)
    refine ⟨h1, fun x => ?_⟩
    rw [List.foldl_cons, h2, mem_ins, List.mem_cons]
    constructor
    · rintro (h1 | h1 | h1)
      · exact .inl (.inr h1)
      · exact .inl (.inl h1)
      · exact .inr h1
    · rintro ((h1 | h1) | h1)
      · exact .inr (.inl h1)
      · exact .inl h1
      · exact .inr (.inr h1)
theorem up_norm (ts : List Tg) : Up (norm ts) := (fold_norm ts [] List.Pairwise.nil).1
theorem mem_norm {ts : List Tg} {x : Tg} : x ∈ norm ts ↔ x ∈ ts := by
  have := (fold_norm ts [] List.Pairwise.nil).2 x
  simpa [norm] using this
theorem norm_is {ts r : List Tg} (h : Up r) (hm : ∀ x, x ∈ r ↔ x ∈ ts) : r = norm ts :=
  up_unique h (up_norm ts) fun x => (hm x).trans mem_norm.symm
theorem norm_same {ts us : List Tg} (h : ∀ x, x ∈ ts ↔ x ∈ us) : norm ts = norm us := norm_is (up_norm ts) fun x => mem_norm.trans (h x)
theorem up_iff {ts : List Tg} : Up ts ↔ ts = norm ts := ⟨fun h => norm_is h fun _ => Iff.rfl, fun h => h ▸ up_norm ts⟩
theorem norm_norm (ts : List Tg) : norm (norm ts) = norm ts := (up_iff.1 (up_norm ts)).symm
theorem norm_take (ts : List Tg) (i : Nat) (h : i < ts.length) : ins ts[i] (norm (ts.take i)) = norm (ts.take (i + 1)) := by
  unfold norm
  rw [List.take_add_one, List.getElem?_eq_getElem h, Option.toList_some, List.foldl_append]
  rfl
theorem norm_length (ts : List Tg) : (norm ts).length ≤ ts.length := by
  have : ∀ (ts r : List Tg), (ts.foldl (fun out t => ins t out) r).length ≤ ts.length + r.length := by
    intro ts
    induction ts with
    | nil => intro r; simp
    | cons t ts ih =>
      intro r
      have h := ih (ins t r)
      have hl : ∀ r : List Tg, (ins t r).length ≤ r.length + 1 := by
        intro r
        induction r with
        | nil => simp [ins]
        | cons o r ih => unfold ins; split <;> (try split) <;> simp <;> omega
      have := hl r
      simp only [List.foldl_cons, List.length_cons]
      omega
  simpa [norm] using this ts []

/-- Each tag but the first one has the one before it ahead of itself. -/
def Asc (ts : List Tg) : Prop := ∀ i (h : i + 1 < ts.length), ltT (ts[i]'(by omega)) ts[i + 1] = true
theorem asc_up {ts : List Tg} : Asc ts ↔ Up ts := by
  constructor
  · intro h
    have key : ∀ d i (hj : i + 1 + d < ts.length), ltT (ts[i]'(by omega)) ts[i + 1 + d] = true := by
      intro d
      induction d with
      | zero => intro i hj; exact h i hj
      | succ d ih => intro i hj; exact ltT_trans (ih i (by omega)) (h (i + 1 + d) hj)
    refine List.pairwise_iff_getElem.2 fun i j hi hj hij => ?_
    have := key (j - (i + 1)) i (by omega)
    simpa [show i + 1 + (j - (i + 1)) = j by omega] using this
  · intro h i hi
    exact List.pairwise_iff_getElem.1 h i (i + 1) (by omega) hi (by omega)
end Go.Proofs.YtmaiggoinjldpaaGreatDoor

/-
  Rows of tags: a slice that reads as a list of tags, an append of tags onto a row of our own. No statement of the seat is proved here.
-/
namespace Go.Proofs.YtmaiggoinjldpaaGreatDoor
open Go.RowKit

/-- The slice at A holds these values, one behind the other. -/
def Lies (w : World) (A : Option Addr) (vs : List Value) : Prop :=
  ∀ i u, vs[i]? = some u → ∃ b off, A = some ⟨b, off, none⟩ ∧ w.cell? ⟨b, off + i, none⟩ = some u

section
variable {w w' : World} {A : Option Addr} {vs : List Value}
theorem cell_lt {a : Addr} {u : Value} (h : w.cell? a = some u) : a.block < w.heap.size := by
  unfold World.cell? at h
  rcases Nat.lt_or_ge a.block w.heap.size with hlt | hge
  · exact hlt
  · rw [Array.getElem?_eq_none hge] at h; simp at h
theorem Lies.nil : Lies w A [] := fun i u h => by simp at h
theorem Lies.keep (h : Lies w A vs) (hb : Below w.heap.size w w') : Lies w' A vs := fun i u hu => by
  obtain ⟨b, off, e, hc⟩ := h i u hu
  exact ⟨b, off, e, (hb.cell (p := ⟨b, off + i, none⟩) (cell_lt hc)).trans hc⟩
theorem Lies.at_ {i : Nat} (h : Lies w A vs) (hi : i < vs.length) : ∃ b off, A = some ⟨b, off, none⟩ ∧ w.cell? ⟨b, off + i, none⟩ = some vs[i] :=
  h i _ (List.getElem?_eq_getElem hi)
/-- A row of the call's own reads as what it holds. -/
theorem Lies.of_own {base n cap size : Nat} {e : TypeId} (h : w.ownsRow base e size (.slice A n cap) n vs) : Lies w A vs := by
  rcases h.2 with ⟨hv, hn⟩ | ⟨g, cap', cur, hv, hg, hh, hnc, hcm, hcs, htake⟩
  · have : vs = [] := List.eq_nil_of_length_eq_zero (by rw [h.1, hn]; simp)
    subst this
    exact .nil
  · injection hv with hA _ _
    subst hA
    intro i u hu
    refine ⟨g, 0, rfl, ?_⟩
    have : cur[i]? = some u := by
      rw [← htake] at hu
      have := List.getElem?_take (l := cur.toList) (i := n * size) (j := i)
      rw [this] at hu
      split at hu
      · simpa using hu
      · cases hu
    simp [World.cell?, hh, this]
theorem Lies.take (h : Lies w A vs) (k : Nat) : Lies w A (vs.take k) := fun i u hu => by
  rw [List.getElem?_take] at hu
  split at hu
  · exact h i u hu
  · cases hu
end

/-- A tag's two cells. -/
def encT (t : Tg) : List Value := [.string ⟨t.1.toArray⟩, .string ⟨t.2.toArray⟩]
def flat (ts : List Tg) : List Value := ts.flatMap encT
theorem flat_nil : flat [] = [] := rfl
theorem flat_cons (t : Tg) (ts : List Tg) : flat (t :: ts) = .string ⟨t.1.toArray⟩ :: .string ⟨t.2.toArray⟩ :: flat ts := rfl
theorem flat_append (a b : List Tg) : flat (a ++ b) = flat a ++ flat b := by unfold flat; rw [List.flatMap_append]
theorem flat_one (t : Tg) : flat [t] = encT t := rfl
theorem flat_length : ∀ ts : List Tg, (flat ts).length = ts.length * 2
  | [] => rfl
  | t :: ts => by rw [flat_cons, List.length_cons, List.length_cons, flat_length ts, List.length_cons]; omega
theorem flat_get0 : ∀ (ts : List Tg) (i : Nat), (flat ts)[i * 2]? = ts[i]?.map fun t => .string ⟨t.1.toArray⟩
  | [], i => by simp [flat_nil]
  | t :: ts, 0 => rfl
  | t :: ts, i + 1 => by rw [flat_cons, show (i + 1) * 2 = i * 2 + 1 + 1 by omega]; simp only [List.getElem?_cons_succ]; exact flat_get0 ts i
theorem flat_get1 : ∀ (ts : List Tg) (i : Nat), (flat ts)[i * 2 + 1]? = ts[i]?.map fun t => .string ⟨t.2.toArray⟩
  | [], i => by simp [flat_nil]
  | t :: ts, 0 => rfl
  | t :: ts, i + 1 => by rw [flat_cons, show (i + 1) * 2 + 1 = i * 2 + 1 + 1 + 1 by omega]; simp only [List.getElem?_cons_succ]; exact flat_get1 ts i
theorem flat_take : ∀ (ts : List Tg) (k : Nat), flat (ts.take k) = (flat ts).take (k * 2)
  | [], k => by simp [flat_nil]
  | t :: ts, 0 => rfl
  | t :: ts, k + 1 => by rw [List.take_succ_cons, flat_cons, flat_cons, flat_take ts k, show (k + 1) * 2 = k * 2 + 1 + 1 by omega]; rfl
theorem flat_cells : ∀ {ts : List Tg}, ∀ u ∈ flat ts, u.oneCell' = true := by
  intro ts u hu
  obtain ⟨t, _, hu⟩ := List.mem_flatMap.1 hu
  simp [encT] at hu
  rcases hu with rfl | rfl <;> rfl

/-- The slice at A holds these tags. -/
def Tags (w : World) (A : Option Addr) (ts : List Tg) : Prop := Lies w A (flat ts)
section
variable {w w' : World} {A : Option Addr} {ts : List Tg}
theorem Tags.nil : Tags w A [] := Lies.nil
theorem Tags.keep (h : Tags w A ts) (hb : Below w.heap.size w w') : Tags w' A ts := Lies.keep h hb
theorem Tags.at_ {i : Nat} (h : Tags w A ts) (hi : i < ts.length) : ∃ b off, A = some ⟨b, off, none⟩ ∧ w.cell? ⟨b, off + i * 2, none⟩ = some (.string ⟨ts[i].1.toArray⟩) ∧ w.cell? ⟨b, off + i * 2 + 1, none⟩ = some (.string ⟨ts[i].2.toArray⟩) := by
  obtain ⟨b, off, e, h0⟩ := h (i * 2) _ (by rw [flat_get0, List.getElem?_eq_getElem hi]; rfl)
  obtain ⟨b', off', e', h1⟩ := h (i * 2 + 1) _ (by rw [flat_get1, List.getElem?_eq_getElem hi]; rfl)
  rw [e] at e'
  injection e' with e'
  injection e' with e1 e2
  subst e1 e2
  exact ⟨b, off, e, h0, h1⟩
theorem Tags.some_ (h : Tags w A ts) (hi : 0 < ts.length) : ∃ b off, A = some ⟨b, off, none⟩ ∧ b < w.heap.size := by
  obtain ⟨b, off, e, h0, _⟩ := h.at_ hi
  exact ⟨b, off, e, cell_lt h0⟩
/-- The cells of all tags, at a slice whose place is known. -/
theorem Tags.cells {b off : Nat} (h : Tags w (some ⟨b, off, none⟩) ts) {i : Nat} (hi : i < ts.length) : w.cell? ⟨b, off + i * 2, none⟩ = some (.string ⟨ts[i].1.toArray⟩) ∧ w.cell? ⟨b, off + i * 2 + 1, none⟩ = some (.string ⟨ts[i].2.toArray⟩) := by
  obtain ⟨b', off', e, h0, h1⟩ := h.at_ hi
  injection e with e
  injection e with e1 e2
  subst e1 e2
  exact ⟨h0, h1⟩
theorem Tags.of_own {base n cap : Nat} (h : w.ownsRow base 34 2 (.slice A n cap) n (flat ts)) : Tags w A ts := Lies.of_own h
theorem Tags.take (h : Tags w A ts) (k : Nat) : Tags w A (ts.take k) := by unfold Tags; rw [flat_take]; exact Lies.take h _
end

section
variable {w w' : World} {base base' size n p : Nat} {e : TypeId} {v : Value} {xs : List Value}
theorem own_base (h : w.ownsRow base e size v n xs) (hb : base' ≤ base) : w.ownsRow base' e size v n xs := by
  refine ⟨h.1, ?_⟩
  rcases h.2 with h2 | ⟨g, cap, cur, hv, hg, r⟩
  · exact .inl h2
  · exact .inr ⟨g, cap, cur, hv, Nat.le_trans hb hg, r⟩
theorem own_lt {g : Nat} {cur : Array Value} (h : w.heap[g]? = some (.cells cur e (0, 0))) : g < w.heap.size := by
  rcases Nat.lt_or_ge g w.heap.size with hlt | hge
  · exact hlt
  · rw [Array.getElem?_eq_none hge] at h; cases h
theorem own_keep (h : w.ownsRow base e size v n xs) (hb : Below w.heap.size w w') : w'.ownsRow base e size v n xs := by
  refine ⟨h.1, ?_⟩
  rcases h.2 with h2 | ⟨g, cap, cur, hv, hg, hh, r⟩
  · exact .inl h2
  · exact .inr ⟨g, cap, cur, hv, hg, (hb.block g (own_lt hh)).trans hh, r⟩
theorem own_slice (h : w.ownsRow base e size v n xs) : ∃ A cap, v = .slice A n cap ∧ n ≤ cap ∧ cap ≤ maxLen ∧ (A = none → cap = 0 ∧ n = 0) ∧ ∀ x, A = some x → base ≤ x.block ∧ x.block < w.heap.size ∧ x = ⟨x.block, 0, none⟩ := by
  rcases h.2 with ⟨rfl, rfl⟩ | ⟨g, cap, cur, rfl, hg, hh, h1, h2, _⟩
  · exact ⟨none, 0, rfl, Nat.le_refl _, Nat.zero_le _, fun _ => ⟨rfl, rfl⟩, fun x hx => by cases hx⟩
  · exact ⟨_, cap, rfl, h1, h2, (fun hx => by cases hx), (fun x hx => by injection hx with hx; subst hx; exact ⟨hg, own_lt hh, rfl⟩)⟩
end

section
variable (w : World)
theorem info_tag : ∃ i, Tryz.prog.info? 34 = some i ∧ i.zero = some (.agg #[.string ⟨#[]⟩, .string ⟨#[]⟩]) ∧ i.size = 2 ∧ i.bytes = 32 := by
  obtain ⟨i, h1, h2, h3, h4⟩ := info_parts (P := Tryz.prog) (e := 34) (z := .agg #[.string ⟨#[]⟩, .string ⟨#[]⟩]) (size := 2) (bytes := 32) (by kernel_rfl)
  exact ⟨i, h1, h2, h3, h4⟩

set_option maxRecDepth 100000 in
theorem run_append_tags (base : Nat) (ty : TypeId) (v : Value) (n : Nat) (ts : List Tg) (hown : w.ownsRow base 34 2 v n (flat ts))
    (A : Option Addr) (m c : Nat) (us : List Tg) (hl : us.length = m) (hv : Tags w A us) (hfit : n + m ≤ 1000000) (hbase : base ≤ w.heap.size) :
    ∃ v' w', (Builtin.append_ #[23, 23] ty #[v, .slice A m c]).run Tryz.prog w = .ok v' w' ∧ w'.ownsRow base 34 2 v' (n + m) (flat (ts ++ us)) ∧ w.grownBy w' v.ownBlock ∧
      (v'.ownBlock = v.ownBlock ∨ v'.ownBlock = some w.heap.size) := by
  obtain ⟨i, hi, hz, hs1, hb1⟩ := info_tag
  have go : ∀ a : Addr, (∀ j u, (flat us)[j]? = some u → w.cell? (a.add j) = some u) → ∃ v' w', (Builtin.append_ #[23, 23] ty #[v, .slice (some a) m c]).run Tryz.prog w = .ok v' w' ∧ w'.ownsRow base 34 2 v' (n + m) (flat (ts ++ us)) ∧ w.grownBy w' v.ownBlock ∧
      (v'.ownBlock = v.ownBlock ∨ v'.ownBlock = some w.heap.size) := by
    intro a ha
    obtain ⟨v', w', hr, h2, h3, _, h5⟩ := run_append_own_at (P := Tryz.prog) w base 23 ty 34 _ (.agg #[.string ⟨#[]⟩, .string ⟨#[]⟩]) 2 32 Tryz.underlying23 hi hz hs1 hb1 rfl (by omega) v n (flat ts) hown a m c (flat us) (by rw [flat_length]; omega) ha flat_cells (by unfold maxLen; omega) (by omega) hbase
    rw [flat_append]
    exact ⟨v', w', hr, h2, h3, h5⟩
  rcases A with _ | a
  · have h0 : us = [] := by
      rcases us with _ | ⟨u, us⟩
      · rfl
      · obtain ⟨b, off, e, _⟩ := hv 0 _ rfl
        cases e
    subst h0
    have hm : m = 0 := by simpa using hl.symm
    subst hm
    refine ⟨v, w, ?_, by simpa using hown, World.grownBy.refl w _, .inl rfl⟩
    rcases hown.2 with ⟨rfl, rfl⟩ | ⟨g, cap, cur, rfl, _, _, hnc, _⟩
    · simp [Builtin.append_, run_underlying Tryz.underlying23, sizeOf, typeInfo, hi, Builtin.lenOf, Builtin.firstCells]
    · simp [Builtin.append_, run_underlying Tryz.underlying23, sizeOf, typeInfo, hi, Builtin.lenOf, Builtin.firstCells, hnc, storeCells]
  · refine go a fun j u hu => ?_
    obtain ⟨b, off, e, hc⟩ := hv j u hu
    injection e with e
    subst e
    rcases Nat.eq_zero_or_pos j with rfl | hj
    · simpa [Addr.add] using hc
    · simpa [Addr.add, Nat.ne_of_gt hj] using hc

theorem wpList_append_tags {ops : Array Oper} {rest : List Oper} {o : Oper} {a : Act} {Q : Exit → Act → World → Prop} (hgd : o.guard = none) (s x : Operand)
    (ho : o.op = .call { callee := .builtin .append, args := #[s, x], argTypes := #[23, 23] })
    (base : Nat) (v : Value) (n : Nat) (ts : List Tg) (hs : a.eval s = v) (hown : w.ownsRow base 34 2 v n (flat ts))
    (A : Option Addr) (m c : Nat) (us : List Tg) (hx : a.eval x = .slice A m c) (hl : us.length = m) (hv : Tags w A us)
    (hfit : n + m ≤ 1000000) (hbase : base ≤ w.heap.size)
    (h : ∀ v' w', w'.ownsRow base 34 2 v' (n + m) (flat (ts ++ us)) → w.grownBy w' v.ownBlock → (v'.ownBlock = v.ownBlock ∨ v'.ownBlock = some w.heap.size) → wpList Tryz.prog ops Q rest (a.put o.dst v') w') :
    wpList Tryz.prog ops Q (o :: rest) a w := by
  refine wpList_plain hgd fun K hK => ?_
  obtain ⟨v', w', hr, h2, h3, h4⟩ := run_append_tags w base o.type v n ts hown A m c us hl hv hfit hbase
  unfold Oper.wp execOp
  simp only [ho, resolve, invoke, builtin, Sem.run_bind, Sem.run_pure, Result.andThen_ok, List.map_toArray, List.map_cons, List.map_nil, hs, hx, hr]
  exact hK _ _ (h v' w' h2 h3 h4)

/-- The same append as a step of a region that draws its order. -/
theorem step_append_tags {ops : Array Oper} {o : Oper} {a : Act} {K : Act → World → Prop} {Q : Exit → Act → World → Prop} {E : Prop} (hgd : o.guard = none) (s x : Operand)
    (ho : o.op = .call { callee := .builtin .append, args := #[s, x], argTypes := #[23, 23] })
    (base : Nat) (v : Value) (n : Nat) (ts : List Tg) (hs : a.eval s = v) (hown : w.ownsRow base 34 2 v n (flat ts))
    (A : Option Addr) (m c : Nat) (us : List Tg) (hx : a.eval x = .slice A m c) (hl : us.length = m) (hv : Tags w A us)
    (hfit : n + m ≤ 1000000) (hbase : base ≤ w.heap.size)
    (h : ∀ v' w', w'.ownsRow base 34 2 v' (n + m) (flat (ts ++ us)) → w.grownBy w' v.ownBlock → (v'.ownBlock = v.ownBlock ∨ v'.ownBlock = some w.heap.size) → K (a.put o.dst v') w') :
    if Region.wanted o (yielded ops a.tmps) = true then Oper.wp Tryz.prog o a w K Q else E := by
  have hw : Region.wanted o (yielded ops a.tmps) = true := by simp [Region.wanted, hgd]
  rw [if_pos hw]
  obtain ⟨v', w', hr, h2, h3, h4⟩ := run_append_tags w base o.type v n ts hown A m c us hl hv hfit hbase
  unfold Oper.wp execOp
  simp only [ho, resolve, invoke, builtin, Sem.run_bind, Sem.run_pure, Result.andThen_ok, List.map_toArray, List.map_cons, List.map_nil, hs, hx, hr]
  exact h v' w' h2 h3 h4

/-- One tag, laid in a block of its own. -/
theorem tags_one {s t : ByteArray} {k v : List UInt8} (hs : Str s k) (ht : Str t v) : Tags (w.alloc (.cells #[.string s, .string t] 34)) (some ⟨w.heap.size, 0, none⟩) [(k, v)] := by
  rw [hs.eq, ht.eq]
  intro i u hu
  refine ⟨w.heap.size, 0, rfl, ?_⟩
  have := (Box.new w 34 [.string ⟨k.toArray⟩, .string ⟨v.toArray⟩]).cell i
  rw [Nat.zero_add, this]
  exact hu
theorem tags_at {s t : ByteArray} {x : Tg} {n : Nat} (hn : w.heap.size = n) (hs : Str s x.1) (ht : Str t x.2) : Tags (w.alloc (.cells #[.string s, .string t] 34)) (some ⟨n, 0, none⟩) [x] := by
  subst hn; exact tags_one w hs ht
theorem own_empty : (w.alloc (.cells #[] 34)).ownsRow w.heap.size 34 2 (.slice (some ⟨w.heap.size, 0, none⟩) 0 0) 0 (flat []) :=
  ⟨rfl, .inr ⟨w.heap.size, 0, #[], rfl, Nat.le_refl _, Box.new w 34 [], by omega, by unfold maxLen; omega, rfl, rfl⟩⟩
theorem own_nil (base : Nat) : w.ownsRow base 34 2 (.slice none 0 0) 0 (flat []) := ⟨rfl, .inl ⟨rfl, rfl⟩⟩
end
end Go.Proofs.YtmaiggoinjldpaaGreatDoor

/-
  Package tag: Less and order, and how two tags are compared. No statement of the seat is proved here.
-/
namespace Go.Proofs.YtmaiggoinjldpaaGreatDoor
open Go.RowKit Go.Sort

theorem str_less {a b : ByteArray} {k l : List UInt8} (h : Str a k) (g : Str b l) : Op.bytesLess a.toList b.toList = ltB k l := by rw [h.toList, g.toList]; rfl
theorem str_eq {a b : ByteArray} {k l : List UInt8} (h : Str a k) (g : Str b l) : (a.toList == b.toList) = (k == l) := by rw [h.toList, g.toList]

section
variable {a b c d : ByteArray} {x y : Tg}
theorem teq_is (ha : Str a x.1) (hb : Str b x.2) (hc : Str c y.1) (hd : Str d y.2) : (if (a.toList == c.toList) = true then (if (b.toList == d.toList) = true then true else false) else false) = decide (x = y) := by
  rw [ha.toList, hb.toList, hc.toList, hd.toList]
  obtain ⟨x1, x2⟩ := x
  obtain ⟨y1, y2⟩ := y
  by_cases h1 : x1 = y1 <;> by_cases h2 : x2 = y2 <;> simp [h1, h2]
theorem teq_in (ha : Str a x.1) (hb : Str b x.2) (hc : Str c y.1) (hd : Str d y.2) (w : World) : (Op.equalIn 10000 34 (.agg #[.string a, .string b]) (.agg #[.string c, .string d])).run Tryz.prog w = .ok (decide (x = y)) w := by
  have u9 := Tryz.underlying9
  have a9 := Tryz.isAgg9
  have z9 := Tryz.sizeOf9
  have hS : Tryz.prog.underlying 34 = some (.struct (Tryz.prog.fieldsOf 34)) := by kernel_rfl
  have hp : Tryz.prog.stoodInHeld 34 = false := by kernel_rfl
  rw [show (10000 : Nat) = 9999 + 1 from rfl, run_equalIn_agg w 9999 34 _ _ hS hp]
  simp only [Program.fieldsOf, Tryz.underlying34]
  go_simp
  rw [← teq_is ha hb hc hd]
  by_cases h1 : a.toList = c.toList <;> by_cases h2 : b.toList = d.toList <;> simp [h1, h2]
theorem teq_run (ha : Str a x.1) (hb : Str b x.2) (hc : Str c y.1) (hd : Str d y.2) {q : Bool} (hq : decide (x = y) = q) (w : World) : (binOp .eql 34 (.agg #[.string a, .string b]) (.agg #[.string c, .string d])).run Tryz.prog w = .ok (.bool q) w := by
  rw [run_eql_struct, teq_in ha hb hc hd, hq]; rfl
theorem tne_run (ha : Str a x.1) (hb : Str b x.2) (hc : Str c y.1) (hd : Str d y.2) {q : Bool} (hq : decide (x = y) = q) (w : World) : (binOp .neq 34 (.agg #[.string a, .string b]) (.agg #[.string c, .string d])).run Tryz.prog w = .ok (.bool (!q)) w := by
  rw [run_neq_struct, teq_in ha hb hc hd, hq]; rfl
theorem tguard (op : BinOp) (p q : Operand) (xs ys : Array Value) (w : World) : (eqGuard op 34 p q (.agg xs) (.agg ys)).run Tryz.prog w = .ok () w := run_eqGuard_agg w op _ p q xs ys (by kernel_rfl)
end

/-- Only blocks were laid, and draws made. -/
def Grown (w w' : World) : Prop := ∃ q os, w' = grow (w.drewN q) os
section
variable {w w1 w2 : World}
theorem Grown.refl (w : World) : Grown w w := ⟨0, #[], by simp; rfl⟩
theorem Grown.drewN (h : Grown w w1) (n : Nat) : Grown w (w1.drewN n) := by
  obtain ⟨q, os, rfl⟩ := h
  exact ⟨q + n, os, by show grow ((w.drewN q).drewN n) os = _; rw [World.drewN_drewN]⟩
theorem Grown.alloc (h : Grown w w1) (o : Obj) : Grown w (w1.alloc o) := by
  obtain ⟨q, os, rfl⟩ := h
  exact ⟨q, os ++ #[o], by rw [alloc_eq_grow, grow_grow]⟩
theorem Grown.trans (h : Grown w w1) (k : Grown w1 w2) : Grown w w2 := by
  obtain ⟨q, os, rfl⟩ := h
  obtain ⟨p, os', rfl⟩ := k
  exact ⟨q + p, os ++ os', by show grow (grow ((w.drewN q).drewN p) os) os' = _; rw [grow_grow, World.drewN_drewN]⟩
theorem Grown.below (h : Grown w w1) : Below w.heap.size w w1 := by
  obtain ⟨q, os, rfl⟩ := h
  exact ⟨rfl, rfl, rfl, by simp [grow, World.drewN], fun k hk => by rw [heap_grow_old _ _ (by exact hk)]; rfl⟩
end

/-- Where Less stands: both tags lie. -/
structure LAt (w : World) (s t u v : ByteArray) (w' : World) : Prop where
  grown : Grown w w'
  one : Box w' w.heap.size 34 [.string s, .string t]
  two : Box w' (w.heap.size + 1) 34 [.string u, .string v]
section
variable {w w1 w2 : World} {s t u v : ByteArray}
theorem LAt.next (h : LAt w s t u v w1) (k : Grown w1 w2) : LAt w s t u v w2 := ⟨h.grown.trans k, h.one.keep k.below, h.two.keep k.below⟩
theorem LAt.start (w : World) (s t u v : ByteArray) : LAt w s t u v ((w.alloc (.cells #[.string s, .string t] 34)).alloc (.cells #[.string u, .string v] 34)) :=
  ⟨((Grown.refl w).alloc _).alloc _, (Box.new w 34 [_, _]).alloc _, by have := Box.new (w.alloc (.cells #[.string s, .string t] 34)) 34 [.string u, .string v]; rwa [size_alloc] at this⟩
theorem LAt.cells (h : LAt w s t u v w1) : w1.cell? ⟨w.heap.size, 0, none⟩ = some (.string s) ∧ w1.cell? ⟨w.heap.size, 1, none⟩ = some (.string t) ∧ w1.cell? ⟨w.heap.size + 1, 0, none⟩ = some (.string u) ∧ w1.cell? ⟨w.heap.size + 1, 1, none⟩ = some (.string v) ∧ LAt w s t u v w1 :=
  ⟨h.one.cell 0, h.one.cell 1, h.two.cell 0, h.two.cell 1, h⟩
theorem LAt.of {P1 P2 P3 P4 : Prop} (h : P1 ∧ P2 ∧ P3 ∧ P4 ∧ LAt w s t u v w1) : LAt w s t u v w1 := h.2.2.2.2
theorem LAt.drew (h : LAt w s t u v w1) : LAt w s t u v w1.drew := h.next ((Grown.refl w1).drewN 1)
end

end Go.Proofs.YtmaiggoinjldpaaGreatDoor

/-
  Digits and their number, as plain functions. Nothing of the program.
-/
namespace Go.Proofs.YtmaiggoinjldpaaGreatDoor

def Two64 : Nat := 18446744073709551616
theorem two64_ten : Two64 < 10 ^ 20 := by decide
theorem ten_two64 : 10 ^ 19 < Two64 := by decide

def Dig (b : UInt8) : Prop := 48 ≤ b.toNat ∧ b.toNat ≤ 57
def Digs (l : List UInt8) : Prop := ∀ b ∈ l, Dig b
/-- The number of digits, behind a number. -/
def valF (v : Nat) (l : List UInt8) : Nat := l.foldl (fun v b => 10 * v + (b.toNat - 48)) v
def val (l : List UInt8) : Nat := valF 0 l
theorem valF_nil (v : Nat) : valF v [] = v := by unfold valF; exact List.foldl_nil
theorem valF_cons (v : Nat) (b : UInt8) (r : List UInt8) : valF v (b :: r) = valF (10 * v + (b.toNat - 48)) r := by unfold valF; exact List.foldl_cons

theorem valF_eq (v : Nat) (l : List UInt8) : valF v l = v * 10 ^ l.length + val l := by
  induction l generalizing v with
  | nil => simp [valF, val]
  | cons b r ih =>
    have e1 := ih (10 * v + (b.toNat - 48))
    have e2 := ih (10 * 0 + (b.toNat - 48))
    have e3 : 10 * v * 10 ^ r.length = v * 10 ^ (r.length + 1) := by rw [Nat.pow_succ, Nat.mul_comm 10 v, Nat.mul_assoc, Nat.mul_comm 10]
    rw [Nat.add_mul, e3] at e1
    rw [Nat.mul_zero, Nat.zero_add] at e2
    rw [val, valF_cons, valF_cons, Nat.mul_zero, Nat.zero_add, e1, e2, List.length_cons, Nat.add_assoc]
theorem valF_append (v : Nat) (a b : List UInt8) : valF v (a ++ b) = valF (valF v a) b := by
  unfold valF; exact List.foldl_append
theorem val_append (a b : List UInt8) : val (a ++ b) = val a * 10 ^ b.length + val b := by rw [val, valF_append, valF_eq]; unfold val; exact rfl
theorem val_snoc (a : List UInt8) (b : UInt8) : val (a ++ [b]) = 10 * val a + (b.toNat - 48) := by rw [val, valF_append, valF_cons, valF_nil]; unfold val; exact rfl
theorem val_cons (b : UInt8) (r : List UInt8) : val (b :: r) = (b.toNat - 48) * 10 ^ r.length + val r := by
  rw [val, valF_cons, valF_eq]; simp
theorem val_zeros (k : Nat) : val (List.replicate k 48) = 0 := by
  induction k with
  | zero => rfl
  | succ k ih => rw [List.replicate_succ, val_cons, ih]; simp
theorem val_zeros_ahead (k : Nat) (l : List UInt8) : val (List.replicate k 48 ++ l) = val l := by rw [val_append, val_zeros]; simp
theorem val_zeros_behind (k : Nat) (l : List UInt8) : val (l ++ List.replicate k 48) = val l * 10 ^ k := by rw [val_append, val_zeros]; simp
theorem val_lt {l : List UInt8} (h : Digs l) : val l < 10 ^ l.length := by
  induction l with
  | nil => decide
  | cons b r ih =>
    have hb := h b (by simp)
    have hr := ih fun x hx => h x (by simp [hx])
    have : (b.toNat - 48) * 10 ^ r.length ≤ 9 * 10 ^ r.length := Nat.mul_le_mul_right _ (by unfold Dig at hb; omega)
    rw [val_cons, List.length_cons, Nat.pow_succ]; omega
theorem Digs.append {a b : List UInt8} (h : Digs a) (k : Digs b) : Digs (a ++ b) := fun x hx => by rcases List.mem_append.1 hx with m | m; exact h x m; exact k x m
theorem Digs.left {a b : List UInt8} (h : Digs (a ++ b)) : Digs a := fun x hx => h x (by simp [hx])
theorem Digs.right {a b : List UInt8} (h : Digs (a ++ b)) : Digs b := fun x hx => h x (by simp [hx])
theorem digs_zeros (k : Nat) : Digs (List.replicate k 48) := fun x hx => by rw [(List.mem_replicate.1 hx).2]; unfold Dig; decide
theorem digs_nil : Digs [] := fun x hx => by cases hx

theorem dig_of (n : Nat) (h : n < 10) : (UInt8.ofNat (48 + n)).toNat = 48 + n := by
  rw [UInt8.toNat_ofNat']; omega

theorem decDigits_big {u : Nat} (h : ¬ u < 10) : Lib.decDigits u = Lib.decDigits (u / 10) ++ [UInt8.ofNat (48 + u % 10)] := by rw [Lib.decDigits, dif_neg h]
theorem val_decDigits (u : Nat) : val (Lib.decDigits u) = u ∧ Digs (Lib.decDigits u) := by
  induction u using Nat.strongRecOn with
  | ind u ih =>
    by_cases h : u < 10
    · rw [Lib.decDigits_one h]
      refine ⟨?_, fun x hx => ?_⟩
      · rw [val_cons, dig_of u h]; simp [val, valF]
      · rw [List.mem_singleton.1 hx]; unfold Dig; rw [dig_of u h]; omega
    · obtain ⟨h1, h2⟩ := ih (u / 10) (by omega)
      rw [decDigits_big h]
      refine ⟨?_, h2.append fun x hx => ?_⟩
      · rw [val_snoc, h1, dig_of _ (by omega)]; omega
      · rw [List.mem_singleton.1 hx]; unfold Dig; rw [dig_of _ (by omega)]; omega
theorem decDigits_ne (u : Nat) : Lib.decDigits u ≠ [] := by
  intro h
  have := Lib.decDigits_length u
  have h2 := Lib.nDigits_pos u
  rw [h] at this; simp at this; omega
/-- The first digit of a number that is not 0 is not 0. -/
theorem decDigits_head (u : Nat) (h0 : u ≠ 0) : ∃ b r, Lib.decDigits u = b :: r ∧ b.toNat ≠ 48 := by
  induction u using Nat.strongRecOn with
  | ind u ih =>
    by_cases h : u < 10
    · exact ⟨_, [], Lib.decDigits_one h, by rw [dig_of u h]; omega⟩
    · obtain ⟨b, r, h1, h2⟩ := ih (u / 10) (by omega) (by omega)
      exact ⟨b, r ++ [UInt8.ofNat (48 + u % 10)], by rw [decDigits_big h, h1]; rfl, h2⟩
theorem decDigits_len20 {u : Nat} (h : u < Two64) : (Lib.decDigits u).length ≤ 20 := by rw [Lib.decDigits_length]; exact Lib.nDigits_le20 u h

/-- Digits without a 0 ahead are those of their number. -/
theorem val_ge {b : UInt8} {r : List UInt8} (hb : Dig b) (h0 : b.toNat ≠ 48) : 10 ^ r.length ≤ val (b :: r) := by
  have : 1 * 10 ^ r.length ≤ (b.toNat - 48) * 10 ^ r.length := Nat.mul_le_mul_right _ (by unfold Dig at hb; omega)
  rw [val_cons]; omega
theorem val_inj : ∀ {a b : List UInt8}, Digs a → Digs b → a.length = b.length → val a = val b → a = b
  | [], [], _, _, _, _ => rfl
  | x :: a, y :: b, ha, hb, hl, hv => by
    have hx := ha x (by simp)
    have hy := hb y (by simp)
    have ha' : Digs a := fun z hz => ha z (by simp [hz])
    have hb' : Digs b := fun z hz => hb z (by simp [hz])
    have hl' : a.length = b.length := by simpa using hl
    rw [val_cons, val_cons, hl'] at hv
    have l1 := val_lt ha'
    have l2 := val_lt hb'
    rw [hl'] at l1
    have key : x.toNat - 48 = y.toNat - 48 ∧ val a = val b := by
      have hq := congrArg (· / 10 ^ b.length) hv
      have hp : 0 < 10 ^ b.length := Nat.pos_of_ne_zero (by simp)
      simp only [Nat.mul_comm _ (10 ^ b.length), Nat.mul_add_div hp, Nat.div_eq_of_lt l1, Nat.div_eq_of_lt l2, Nat.add_zero] at hq
      rw [hq] at hv
      exact ⟨hq, by omega⟩
    obtain rfl : x = y := UInt8.toNat_inj.1 (by unfold Dig at hx hy; omega)
    rw [val_inj ha' hb' hl' key.2]
end Go.Proofs.YtmaiggoinjldpaaGreatDoor

/-
  What a number's one form is, which number a text is, and how numbers are in order, as plain functions. Nothing of the program.
-/
namespace Go.Proofs.YtmaiggoinjldpaaGreatDoor.Dc

/-- The last zeros are taken off, as long as the power is below 18. -/
def strip (c : Nat) (e : Int) : Nat × Int :=
  if h : 0 < c ∧ e < 18 ∧ c % 10 = 0 then strip (c / 10) (e + 1) else (c, e)
termination_by c
decreasing_by omega

/-- The one form of c times ten to the e, if there is one. -/
def norm (c : Nat) (e : Int) : Option (Nat × Int) :=
  if c = 0 then some (0, 0)
  else if (strip c e).2 < -18 then none
  else if 18 ≤ (strip c e).2 then
    (if (strip c e).1 * 10 ^ ((strip c e).2 - 18).toNat < Two64 then some ((strip c e).1 * 10 ^ ((strip c e).2 - 18).toNat, 18) else none)
  else if (strip c e).1 < Two64 then some (strip c e) else none

theorem strip_go {c : Nat} {e : Int} (h0 : 0 < c) (he : e < 18) (hm : c % 10 = 0) : strip c e = strip (c / 10) (e + 1) := by
  rw [strip, dif_pos ⟨h0, he, hm⟩]
theorem strip_stay {c : Nat} {e : Int} (h : ¬ (0 < c ∧ e < 18 ∧ c % 10 = 0)) : strip c e = (c, e) := by rw [strip, dif_neg h]

theorem strip_spec (c : Nat) (e : Int) (h : 0 < c) : ∃ k : Nat, (strip c e).2 = e + k ∧ (strip c e).1 * 10 ^ k = c ∧ 0 < (strip c e).1 ∧ (k = 0 ∨ e + k ≤ 18) ∧ ((strip c e).1 % 10 ≠ 0 ∨ 18 ≤ (strip c e).2) := by
  induction c using Nat.strongRecOn generalizing e with
  | ind c ih =>
    by_cases hc : 0 < c ∧ e < 18 ∧ c % 10 = 0
    · obtain ⟨k, h2, h1, h0, hk, hs⟩ := ih (c / 10) (by omega) (e + 1) (by omega)
      rw [strip_go hc.1 hc.2.1 hc.2.2]
      refine ⟨k + 1, by omega, ?_, h0, by omega, hs⟩
      rw [Nat.pow_succ, ← Nat.mul_assoc, h1]; omega
    · rw [strip_stay hc]
      exact ⟨0, by simp, by simp, h, Or.inl rfl, by
        rcases Nat.eq_zero_or_pos (c % 10) with hz | hz
        · exact Or.inr (by show (18 : Int) ≤ e; omega)
        · exact Or.inl (by show c % 10 ≠ 0; omega)⟩

theorem norm_ten (c : Nat) (e : Int) : norm (c * 10) e = norm c (e + 1) := by
  rcases Nat.eq_zero_or_pos c with rfl | hc
  · simp [norm]
  by_cases he : e < 18
  · have : strip (c * 10) e = strip c (e + 1) := by rw [strip_go (by omega) he (by omega)]; congr 1; omega
    unfold norm
    rw [this, if_neg (show ¬ c * 10 = 0 by omega), if_neg (show ¬ c = 0 by omega)]
  · have h1 : strip (c * 10) e = (c * 10, e) := strip_stay (by omega)
    have h2 : strip c (e + 1) = (c, e + 1) := strip_stay (by omega)
    have h3 : c * 10 * 10 ^ (e - 18).toNat = c * 10 ^ (e + 1 - 18).toNat := by
      rw [show (e + 1 - 18).toNat = (e - 18).toNat + 1 by omega, Nat.pow_succ, Nat.mul_assoc, Nat.mul_comm 10]
    unfold norm
    rw [h1, h2, if_neg (show ¬ c * 10 = 0 by omega), if_neg (show ¬ c = 0 by omega)]
    simp only []
    rw [if_neg (show ¬ e < -18 by omega), if_pos (show (18 : Int) ≤ e by omega), if_neg (show ¬ e + 1 < -18 by omega), if_pos (show (18 : Int) ≤ e + 1 by omega), h3]

theorem norm_pow (c k : Nat) (e : Int) : norm (c * 10 ^ k) e = norm c (e + k) := by
  induction k generalizing e with
  | zero => simp
  | succ k ih => rw [Nat.pow_succ, ← Nat.mul_assoc, norm_ten, ih]; congr 1; omega

theorem norm_big {c : Nat} (h : c % 10 ≠ 0) (hb : Two64 ≤ c) (e : Int) : norm c e = none := by
  have hs : strip c e = (c, e) := strip_stay (by omega)
  have hp : 1 ≤ 10 ^ (e - 18).toNat := Nat.pos_of_ne_zero (by simp)
  have hm : c ≤ c * 10 ^ (e - 18).toNat := Nat.le_mul_of_pos_right _ hp
  unfold norm
  rw [hs, if_neg (show ¬ c = 0 by rintro rfl; exact h rfl)]
  simp only []
  split
  · rfl
  · split
    · rw [if_neg (by omega)]
    · rw [if_neg (by omega)]

/-- A number is in its one form. -/
def One (c : Nat) (e : Int) : Prop := (c = 0 ∧ e = 0) ∨ (c ≠ 0 ∧ -18 ≤ e ∧ e ≤ 18 ∧ (c % 10 ≠ 0 ∨ e = 18) ∧ c < Two64)

theorem norm_one {c c' : Nat} {e e' : Int} (h : norm c e = some (c', e')) : One c' e' := by
  unfold norm at h
  by_cases h0 : c = 0
  · rw [if_pos h0] at h; simp at h; exact Or.inl ⟨h.1.symm, h.2.symm⟩
  rw [if_neg h0] at h
  obtain ⟨k, h2, h1, hp, hk, hs⟩ := strip_spec c e (by omega)
  by_cases hlo : (strip c e).2 < -18
  · rw [if_pos hlo] at h; cases h
  rw [if_neg hlo] at h
  by_cases hhi : 18 ≤ (strip c e).2
  · rw [if_pos hhi] at h
    split at h
    · rename_i hf
      injection h with h
      have e1 := congrArg Prod.fst h
      have e2 := congrArg Prod.snd h
      simp only [] at e1 e2
      subst e1 e2
      exact Or.inr ⟨Nat.ne_of_gt (Nat.mul_pos hp (Nat.pos_of_ne_zero (by simp))), by omega, by omega, Or.inr rfl, hf⟩
    · cases h
  · rw [if_neg hhi] at h
    split at h
    · rename_i hf
      injection h with h
      rw [h] at hs hp hf hlo hhi
      simp only [] at hs hp hf hlo hhi
      exact Or.inr ⟨by omega, by omega, by omega, by omega, hf⟩
    · cases h

theorem norm_fix {c : Nat} {e : Int} (h : One c e) : norm c e = some (c, e) := by
  rcases h with ⟨rfl, rfl⟩ | ⟨h0, hl, hh, hm, hb⟩
  · simp [norm]
  · have hs : strip c e = (c, e) := strip_stay (by omega)
    unfold norm
    rw [if_neg h0, hs]
    simp only []
    rw [if_neg (by omega)]
    by_cases h18 : 18 ≤ e
    · obtain rfl : e = 18 := by omega
      rw [if_pos (by omega)]; simp [hb]
    · rw [if_neg h18, if_pos hb]

/-- What is in range always has one form. -/
theorem norm_some {c : Nat} {e : Int} (hb : c < Two64) (hl : -18 ≤ e) (hh : e ≤ 18) : ∃ p, norm c e = some p := by
  rcases Nat.eq_zero_or_pos c with rfl | h0
  · exact ⟨(0, 0), by simp [norm]⟩
  obtain ⟨k, h2, h1, hp, hk, hs⟩ := strip_spec c e h0
  have hle : (strip c e).1 ≤ c := by
    have : (strip c e).1 * 1 ≤ (strip c e).1 * 10 ^ k := Nat.mul_le_mul_left _ (Nat.pos_of_ne_zero (by simp))
    omega
  unfold norm
  rw [if_neg (by omega), if_neg (by omega)]
  by_cases h18 : 18 ≤ (strip c e).2
  · rw [if_pos h18, show (strip c e).2 - 18 = 0 by omega]
    simp only [Int.toNat_zero, Nat.pow_zero, Nat.mul_one]
    rw [if_pos (by omega)]; exact ⟨_, rfl⟩
  · rw [if_neg h18, if_pos (by omega)]; exact ⟨_, rfl⟩

/-- A form is the same number. -/
theorem norm_same {c c' : Nat} {e e' : Int} (h : norm c e = some (c', e')) (he : e ≤ 18) (h0 : c ≠ 0) : e ≤ e' ∧ c = c' * 10 ^ (e' - e).toNat := by
  obtain ⟨k, h2, h1, hp, hk, hs⟩ := strip_spec c e (by omega)
  unfold norm at h
  rw [if_neg h0] at h
  split at h
  · cases h
  split at h
  · have h18 : (strip c e).2 = 18 := by omega
    split at h
    · rw [h18] at h h2
      injection h with h
      have e1 := congrArg Prod.fst h
      have e2 := congrArg Prod.snd h
      simp only [Int.sub_self, Int.toNat_zero, Nat.pow_zero, Nat.mul_one] at e1 e2
      subst e1 e2
      exact ⟨by omega, by rw [show ((18 : Int) - e).toNat = k by omega]; exact h1.symm⟩
    · cases h
  · split at h
    · injection h with h
      rw [h] at h2 h1
      simp only [] at h2 h1
      exact ⟨by omega, by rw [show (e' - e).toNat = k by omega]; exact h1.symm⟩
    · cases h

theorem norm_zero (e : Int) : norm 0 e = some (0, 0) := by simp [norm]
theorem norm_pos {c c' : Nat} {e e' : Int} (h : norm c e = some (c', e')) (h0 : c ≠ 0) : c' ≠ 0 := by
  unfold norm at h
  rw [if_neg h0] at h
  obtain ⟨k, h2, h1, hp, hk, hs⟩ := strip_spec c e (by omega)
  split at h
  · cases h
  split at h
  · split at h
    · injection h with h
      have e1 := congrArg Prod.fst h
      simp only [] at e1
      rw [← e1]
      exact Nat.ne_of_gt (Nat.mul_pos hp (Nat.pos_of_ne_zero (by simp)))
    · cases h
  · split at h
    · injection h with h
      rw [h] at hp; exact Nat.ne_of_gt hp
    · cases h

/-! The Dec. -/
structure D where
  neg : Bool
  c : Nat
  e : Int
deriving DecidableEq

def D0 : D := ⟨false, 0, 0⟩
/-- It can be held. -/
structure D.Fits (d : D) : Prop where
  c : d.c < Two64
  lo : -9223372036854775808 ≤ d.e
  hi : d.e ≤ 9223372036854775807

def mkD (neg : Bool) (p : Nat × Int) : D := ⟨if p.1 = 0 then false else neg, p.1, p.2⟩
def normal (d : D) : Option D := (norm d.c d.e).map (mkD d.neg)
/-- Check's number. -/
def check (d : D) : Int := if d.c ≠ 0 ∧ (d.e < -18 ∨ 18 < d.e) then 10 else if normal d = some d then 0 else 21

theorem check_cases (d : D) : check d = 0 ∨ check d = 10 ∨ check d = 21 := by
  unfold check; split
  · exact Or.inr (Or.inl rfl)
  · split
    · exact Or.inl rfl
    · exact Or.inr (Or.inr rfl)

theorem D.ext' {a b : D} (h1 : a.neg = b.neg) (h2 : a.c = b.c) (h3 : a.e = b.e) : a = b := by cases a; cases b; simp_all

/-- A Dec is in its one form. -/
def D.One (d : D) : Prop := Go.Proofs.YtmaiggoinjldpaaGreatDoor.Dc.One d.c d.e ∧ (d.c = 0 → d.neg = false)

theorem normal_one {d n : D} (h : normal d = some n) : n.One := by
  unfold normal at h
  cases hn : norm d.c d.e with
  | none => rw [hn] at h; cases h
  | some p =>
    rw [hn] at h
    simp only [Option.map_some, Option.some.injEq] at h
    subst h
    exact ⟨norm_one hn, fun h0 => by simp only [mkD] at h0 ⊢; rw [if_pos h0]⟩
theorem normal_fix {d : D} (h : d.One) : normal d = some d := by
  unfold normal
  rw [norm_fix h.1]
  simp only [Option.map_some, mkD]
  congr 1
  cases d with
  | mk n c e => simp only [D.mk.injEq, and_true]; split; exact (h.2 (by assumption)).symm; rfl
theorem check_ok {d : D} : check d = 0 ↔ d.One := by
  constructor
  · intro h
    unfold check at h
    split at h
    · omega
    · split at h
      · rename_i hn; exact normal_one hn
      · omega
  · intro h
    unfold check
    rw [if_neg ?_, if_pos (normal_fix h)]
    rcases h.1 with ⟨h0, _⟩ | ⟨h0, h1, h2, _⟩
    · simp [h0]
    · omega
theorem D0_one : D0.One := ⟨Or.inl ⟨rfl, rfl⟩, fun _ => rfl⟩
theorem D.One.fits {d : D} (h : d.One) : d.Fits := by
  rcases h.1 with ⟨h0, h1⟩ | ⟨h0, h1, h2, h3, h4⟩
  · exact ⟨by rw [h0]; decide, by omega, by omega⟩
  · exact ⟨h4, by omega, by omega⟩
theorem normal_zero {d : D} (h : d.c = 0) : normal d = some D0 := by
  unfold normal; rw [h, norm_zero]; rfl
end Go.Proofs.YtmaiggoinjldpaaGreatDoor.Dc

/-
  A tag of a slice. No statement of the seat is proved here.
-/
namespace Go.Proofs.YtmaiggoinjldpaaGreatDoor
open Go.RowKit

theorem Tags.get {w : World} {A : Option Addr} {ts : List Tg} {i : Nat} (h : Tags w A ts) (hi : i < ts.length) : ∃ b off s t, A = some ⟨b, off, none⟩ ∧ w.cell? ⟨b, off + i * 2, none⟩ = some (.string s) ∧ w.cell? ⟨b, off + i * 2 + 1, none⟩ = some (.string t) ∧ Str s ts[i].1 ∧ Str t ts[i].2 := by
  obtain ⟨b, off, e, h0, h1⟩ := h.at_ hi
  exact ⟨b, off, _, _, e, h0, h1, Str.mk _, Str.mk _⟩
end Go.Proofs.YtmaiggoinjldpaaGreatDoor

/-
  slices.Compact at tags. No statement of the seat is proved here.
-/
namespace Go.Proofs.YtmaiggoinjldpaaGreatDoor
open Go.RowKit

/-- Block g is a row of tags, with room for cap of them. -/
def RowT (w : World) (g cap : Nat) (ts : List Tg) : Prop :=
  ∃ cur, w.heap[g]? = some (.cells cur 34 (0, 0)) ∧ cur.size = cap * 2 ∧ cur.toList.take (ts.length * 2) = flat ts ∧ ts.length ≤ cap

section
variable {w w' : World} {g cap : Nat} {ts : List Tg}
theorem RowT.lt (h : RowT w g cap ts) : g < w.heap.size := by obtain ⟨cur, hh, _⟩ := h; exact own_lt hh
theorem RowT.tags (h : RowT w g cap ts) : Tags w (some ⟨g, 0, none⟩) ts := by
  obtain ⟨cur, hh, _, ht, _⟩ := h
  intro i u hu
  refine ⟨g, 0, rfl, ?_⟩
  rw [← ht, List.getElem?_take] at hu
  split at hu
  · simp only [World.cell?, hh, Nat.zero_add]; simpa using hu
  · cases hu
theorem RowT.get (h : RowT w g cap ts) {i : Nat} (hi : i < ts.length) : ∃ s t, w.cell? ⟨g, i * 2, none⟩ = some (.string s) ∧ w.cell? ⟨g, i * 2 + 1, none⟩ = some (.string t) ∧ Str s ts[i].1 ∧ Str t ts[i].2 := by
  obtain ⟨h0, h1⟩ := h.tags.cells hi
  rw [Nat.zero_add] at h0 h1
  exact ⟨_, _, h0, h1, Str.mk _, Str.mk _⟩
theorem RowT.frozen (h : RowT w g cap ts) (i : Nat) : w.frozen? ⟨g, i, none⟩ = false := by
  obtain ⟨cur, hh, _⟩ := h
  simp [World.frozen?, hh]
theorem RowT.some_ (h : RowT w g cap ts) {i : Nat} (hi : i < cap * 2) : (w.cell? ⟨g, i, none⟩).isSome = true := by
  obtain ⟨cur, hh, hs, _⟩ := h
  simp only [World.cell?, hh]
  simp [hs, hi]
theorem RowT.same (h : RowT w g cap ts) (hs : Same w w') : RowT w' g cap ts := by
  obtain ⟨cur, hh, r⟩ := h
  exact ⟨cur, by rw [hs.heap]; exact hh, r⟩
theorem flat_set : ∀ (ts : List Tg) (i : Nat) (x : Tg), ((flat ts).set (i * 2) (.string ⟨x.1.toArray⟩)).set (i * 2 + 1) (.string ⟨x.2.toArray⟩) = flat (ts.set i x)
  | [], i, x => by simp [flat_nil]
  | t :: ts, 0, x => rfl
  | t :: ts, i + 1, x => by
    rw [flat_cons, show (i + 1) * 2 = i * 2 + 1 + 1 by omega, List.set_cons_succ, List.set_cons_succ, List.set_cons_succ, List.set_cons_succ, flat_set ts i x]
    rfl
theorem RowT.set (h : RowT w g cap ts) {i : Nat} {s t : ByteArray} {x : Tg} (hs : Str s x.1) (ht : Str t x.2) : RowT ((w.setCell ⟨g, i * 2, none⟩ (.string s)).setCell ⟨g, i * 2 + 1, none⟩ (.string t)) g cap (ts.set i x) := by
  rw [hs.eq, ht.eq]
  obtain ⟨cur, hh, h1, h2, h3⟩ := h
  refine ⟨(cur.setIfInBounds (i * 2) (.string ⟨x.1.toArray⟩)).setIfInBounds (i * 2 + 1) (.string ⟨x.2.toArray⟩), ?_, by simpa using h1, ?_, by simpa using h3⟩
  · simp [World.setCell, Array.getElem?_modify, hh]
  · rw [Array.toList_setIfInBounds, Array.toList_setIfInBounds, List.length_set, List.take_set, List.take_set, h2, flat_set]
end

theorem setCells_but (g : Nat) : ∀ (zs : List Value) (o : Nat) (w : World), But g w (w.setCells g o zs)
  | [], _, w => But.refl g w
  | z :: zs, o, w => ((But.refl g w).set o z).trans (setCells_but g zs (o + 1) _)
theorem cell_set_other {w : World} {g o i : Nat} (h : i ≠ o) (z : Value) : (w.setCell ⟨g, o, none⟩ z).cell? ⟨g, i, none⟩ = w.cell? ⟨g, i, none⟩ := by
  unfold World.setCell World.cell?
  simp only [Array.getElem?_modify, if_true]
  cases w.heap[g]? with
  | none => rfl
  | some ob => cases ob <;> simp [Ne.symm h]
theorem setCells_low (g : Nat) : ∀ (zs : List Value) (o : Nat) (w : World) (i : Nat), i < o → (w.setCells g o zs).cell? ⟨g, i, none⟩ = w.cell? ⟨g, i, none⟩
  | [], _, w, i, _ => rfl
  | z :: zs, o, w, i, h => by
    rw [World.setCells, setCells_low g zs (o + 1) _ i (by omega), cell_set_other (by omega)]
theorem run_clear2 (w : World) (b o n c : Nat) (hn : 0 < n) (hc : ∀ j, j < n * 2 → (w.cell? ⟨b, o + j, none⟩).isSome = true) (hf : ∀ j, j < n * 2 → w.frozen? ⟨b, o + j, none⟩ = false) :
    ∃ zs : List Value, ∀ ty, (Builtin.clear_ #[23] ty #[.slice (some ⟨b, o, none⟩) n c]).run Tryz.prog w = .ok (.tuple #[]) (w.setCells b o zs) := by
  refine ⟨(Builtin.zeroCells (Value.agg #[.string ⟨#[]⟩, .string ⟨#[]⟩]).cells n).toList, ?_⟩
  have hlen : (Builtin.zeroCells (Value.agg #[.string ⟨#[]⟩, .string ⟨#[]⟩]).cells n).toList.length = n * 2 := by simp [Builtin.zeroCells, Value.cells]
  have hone : ∀ v ∈ (Builtin.zeroCells (Value.agg #[.string ⟨#[]⟩, .string ⟨#[]⟩]).cells n).toList, v.oneCell' = true := by
    intro v hv
    simp [Builtin.zeroCells, Value.cells] at hv
    obtain ⟨i, _, rfl⟩ := hv
    rcases Nat.mod_two_eq_zero_or_one i with h | h <;> simp [h, Value.oneCell']
  have hst := run_storeCells_cells (P := Tryz.prog) b o _ 0 w (by rw [hlen]; simpa using hc) (by rw [hlen]; simpa using hf) hone
  simp only [Nat.add_zero] at hst
  have hv := Tryz.zeroValue34
  obtain ⟨m, rfl⟩ : ∃ m, n = m + 1 := ⟨n - 1, by omega⟩
  intro ty
  simp [Builtin.clear_, run_underlying Tryz.underlying23, hv, hst]

theorem at_list {d : Array Tg} {i : Nat} (h : i < d.toList.length) : d[i]! = d.toList[i] := by
  have h' : i < d.size := by simpa using h
  rw [getElem!_pos d i h']; simp

theorem tags_setCells {w : World} {g o : Nat} {ts : List Tg} (h : Tags w (some ⟨g, 0, none⟩) ts) (ho : ts.length * 2 ≤ o) (zs : List Value) : Tags (w.setCells g o zs) (some ⟨g, 0, none⟩) ts := by
  intro i u hu
  obtain ⟨b, off, e, hc⟩ := h i u hu
  injection e with e
  injection e with e1 e2
  subst e1 e2
  have hi : i < (flat ts).length := (List.getElem?_eq_some_iff.1 hu).1
  rw [flat_length] at hi
  exact ⟨g, 0, rfl, by rw [setCells_low g zs o w _ (by omega)]; exact hc⟩
end Go.Proofs.YtmaiggoinjldpaaGreatDoor

/-
  Package tag: Normal. No statement of the seat is proved here.
-/
namespace Go.Proofs.YtmaiggoinjldpaaGreatDoor
open Go.RowKit
end Go.Proofs.YtmaiggoinjldpaaGreatDoor

/-
  Package tag: Normal and Is. No statement of the seat is proved here.
-/
namespace Go.Proofs.YtmaiggoinjldpaaGreatDoor
open Go.RowKit

theorem tags_nil_of {w : World} {ts : List Tg} (h : Tags w none ts) : ts = [] := by
  rcases ts with _ | ⟨t, ts⟩
  · rfl
  · obtain ⟨b, off, e, _⟩ := h 0 _ rfl
    cases e

theorem own_rowT {w : World} {base g n cap : Nat} {ts : List Tg} (h : w.ownsRow base 34 2 (.slice (some ⟨g, 0, none⟩) n cap) n (flat ts)) (hn : ts.length = n) : RowT w g cap ts ∧ base ≤ g := by
  rcases h.2 with ⟨e, _⟩ | ⟨g', cap', cur, e, hg, hh, h1, h2, h3, h4⟩
  · cases e
  · injection e with e1 _ e3
    injection e1 with e1
    injection e1 with e1
    subst e1 e3
    exact ⟨⟨cur, hh, h3, by rw [hn]; exact h4, by omega⟩, hg⟩

/-- What Normal tells. -/
def NormP (w : World) (r : List Tg) (e : Ending) (w' : World) : Prop := (∃ A cap, e = .returned (.slice A r.length cap) ∧ Tags w' A r) ∧ Below w.heap.size w w'
/-- A slice that lies in new memory, if it lies anywhere. -/
def Fresh (lo : Nat) (A : Option Addr) : Prop := ∀ a, A = some a → lo ≤ a.block
theorem Fresh.low {lo lo' : Nat} {A : Option Addr} (h : Fresh lo A) (hl : lo' ≤ lo) : Fresh lo' A := fun a ha => Nat.le_trans hl (h a ha)
theorem Fresh.none_ (lo : Nat) : Fresh lo none := fun a h => by cases h
theorem Fresh.own {w : World} {base size n cap : Nat} {el : TypeId} {A : Option Addr} {xs : List Value} (h : w.ownsRow base el size (.slice A n cap) n xs) : Fresh base A := fun a ha => by
  rcases h.2 with ⟨h1, _⟩ | ⟨g, c, cur, hv, hg, _⟩
  · injection h1 with h1; rw [h1] at ha; cases ha
  · injection hv with hv; rw [hv] at ha; injection ha with ha; subst ha; exact hg
/-- The same, in new memory. -/
def NormF (w : World) (r : List Tg) (e : Ending) (w' : World) : Prop := (∃ A cap, e = .returned (.slice A r.length cap) ∧ Tags w' A r ∧ Fresh w.heap.size A) ∧ Below w.heap.size w w'
theorem NormF.p {w w' : World} {r : List Tg} {e : Ending} (h : NormF w r e w') : NormP w r e w' := by obtain ⟨⟨A, cap, h1, h2, _⟩, hb⟩ := h; exact ⟨⟨A, cap, h1, h2⟩, hb⟩

/-- These cells lie so, and nothing old has changed. -/
structure Cs (w0 : World) (L : List (Addr × Value)) (w : World) : Prop where
  kept : Below w0.heap.size w0 w
  has : ∀ x ∈ L, w.cell? x.1 = some x.2
section
variable {w0 w w' : World} {L : List (Addr × Value)}
theorem Cs.next (h : Cs w0 L w) (k : Below w.heap.size w w') : Cs w0 L w' := ⟨below_then h.kept k, fun x hx => (k.cell (cell_lt (h.has x hx))).trans (h.has x hx)⟩
theorem Cs.drew (h : Cs w0 L w) : Cs w0 L w.drew := h.next (Same.below (Same.drewN w 1))
theorem Cs.four {a b c d : Addr} {p q r s : Value} (h : Cs w0 [(a, p), (b, q), (c, r), (d, s)] w) : w.cell? a = some p ∧ w.cell? b = some q ∧ w.cell? c = some r ∧ w.cell? d = some s ∧ Cs w0 [(a, p), (b, q), (c, r), (d, s)] w :=
  ⟨h.has (a, p) (by simp), h.has (b, q) (by simp), h.has (c, r) (by simp), h.has (d, s) (by simp), h⟩
theorem Cs.of4 {P1 P2 P3 P4 : Prop} (h : P1 ∧ P2 ∧ P3 ∧ P4 ∧ Cs w0 L w) : Cs w0 L w := h.2.2.2.2
theorem Cs.mk4 {a b c d : Addr} {p q r s : Value} (h : Below w0.heap.size w0 w) (h1 : w.cell? a = some p) (h2 : w.cell? b = some q) (h3 : w.cell? c = some r) (h4 : w.cell? d = some s) : Cs w0 [(a, p), (b, q), (c, r), (d, s)] w :=
  ⟨h, fun x hx => by simp at hx; rcases hx with rfl | rfl | rfl | rfl <;> assumption⟩
end

end Go.Proofs.YtmaiggoinjldpaaGreatDoor

/-
  What lies so while a law goes on: cells, and rows of tags. No statement of the seat is proved here.
-/
namespace Go.Proofs.YtmaiggoinjldpaaGreatDoor
open Go.RowKit

/-- These cells, and these rows of tags, lie so, and nothing old has changed. -/
structure Kp (w0 : World) (L : List (Addr × Value)) (R : List (Option Addr × List Tg)) (w : World) : Prop where
  kept : Below w0.heap.size w0 w
  has : ∀ x ∈ L, w.cell? x.1 = some x.2
  rows : ∀ x ∈ R, Tags w x.1 x.2
section
variable {w0 w w' : World} {L : List (Addr × Value)} {R : List (Option Addr × List Tg)}
theorem Kp.start (w : World) : Kp w [] [] w := ⟨Below.refl _ _, by simp, by simp⟩
theorem Kp.next (h : Kp w0 L R w) (k : Below w.heap.size w w') : Kp w0 L R w' := ⟨below_then h.kept k, fun x hx => (k.cell (cell_lt (h.has x hx))).trans (h.has x hx), fun x hx => (h.rows x hx).keep k⟩
theorem Kp.drew (h : Kp w0 L R w) : Kp w0 L R w.drew := h.next (Same.below (Same.drewN w 1))
theorem Kp.alloc (h : Kp w0 L R w) (o : Obj) : Kp w0 L R (w.alloc o) := h.next ((Below.refl _ _).alloc (Nat.le_refl _) o)
theorem Kp.push (h : Kp w0 L R w) (t : TypeId) (a b : Value) : Kp w0 ((⟨w.heap.size, 0, none⟩, a) :: (⟨w.heap.size, 1, none⟩, b) :: L) R (w.alloc (.cells #[a, b] t)) := by
  have h' := h.alloc (.cells #[a, b] t)
  refine ⟨h'.kept, fun x hx => ?_, h'.rows⟩
  have hb := Box.new w t [a, b]
  rcases List.mem_cons.1 hx with rfl | hx
  · exact hb.cell 0
  · rcases List.mem_cons.1 hx with rfl | hx
    · exact hb.cell 1
    · exact h'.has x hx
theorem Kp.row (h : Kp w0 L R w) {A : Option Addr} {ts : List Tg} (ha : Tags w A ts) : Kp w0 L ((A, ts) :: R) w := ⟨h.kept, h.has, fun x hx => by
  rcases List.mem_cons.1 hx with rfl | hx
  · exact ha
  · exact h.rows x hx⟩
theorem Kp.cell {a : Addr} {v : Value} (h : Kp w0 L R w) (hm : (a, v) ∈ L) : w.cell? a = some v := h.has (a, v) hm
theorem Kp.tags {A : Option Addr} {ts : List Tg} (h : Kp w0 L R w) (hm : (A, ts) ∈ R) : Tags w A ts := h.rows (A, ts) hm
end

theorem tags_lit {w : World} {n : Nat} (hn : w.heap.size = n) (ts : List Tg) : Tags (w.alloc (.cells (flat ts).toArray 34)) (some ⟨n, 0, none⟩) ts := by
  subst hn
  intro i u hu
  exact ⟨w.heap.size, 0, rfl, by rw [Nat.zero_add, (Box.new w 34 (flat ts)).cell i]; exact hu⟩

theorem Tags.drew {w : World} {A : Option Addr} {ts : List Tg} (h : Tags w A ts) : Tags w.drew A ts := h.keep (Same.below (Same.drewN w 1))
theorem Tags.alloc {w : World} {A : Option Addr} {ts : List Tg} (h : Tags w A ts) (o : Obj) : Tags (w.alloc o) A ts := h.keep ((Below.refl _ _).alloc (Nat.le_refl _) o)
end Go.Proofs.YtmaiggoinjldpaaGreatDoor

/-
  How a text is gone through, and the text of a number, as plain functions. Nothing of the program.
-/
namespace Go.Proofs.YtmaiggoinjldpaaGreatDoor.Dc

/-! A text is gone through. -/
inductive Scan where
  | bad (code : Int) (at_ : Nat)
  | ok (below : Bool) (v p : Nat)

def scan (n : Nat) (below point wanted : Bool) (v p : Nat) : List UInt8 → Scan
  | [] => if wanted then .bad 11 n else .ok below v p
  | b :: r =>
    if 48 ≤ b.toNat ∧ b.toNat ≤ 57 then scan (n + 1) below point false (10 * v + (b.toNat - 48)) (if point then p + 1 else p) r
    else if b.toNat = 46 ∧ wanted = false ∧ point = false then scan (n + 1) below true true v p r
    else if b.toNat = 45 ∧ n = 0 then scan (n + 1) true point wanted v p r
    else .bad 14 n

def told : Scan → D × Int × Int
  | .bad code n => (D0, code, n)
  | .ok below v p => match norm v (-(p : Int)) with
    | none => (D0, 10, 0)
    | some q => (mkD below q, 0, 0)
def parse (l : List UInt8) : D × Int × Int := told (scan 0 false false true 0 0 l)

theorem scan_digs {l : List UInt8} (h : Digs l) (hne : l ≠ []) (n : Nat) (below point wanted : Bool) (v p : Nat) (r : List UInt8) :
    scan n below point wanted v p (l ++ r) = scan (n + l.length) below point false (valF v l) (if point then p + l.length else p) r := by
  induction l generalizing n wanted v p with
  | nil => exact absurd rfl hne
  | cons b t ih =>
    have hb := h b (by simp)
    have ht : Digs t := fun x hx => h x (by simp [hx])
    rw [List.cons_append, scan, if_pos (show 48 ≤ b.toNat ∧ b.toNat ≤ 57 from hb)]
    by_cases h0 : t = []
    · subst h0; cases point <;> simp [valF]
    · rw [ih ht h0, List.length_cons, valF_cons]
      cases point <;> simp <;> congr 1 <;> omega

/-- The text of a number. -/
def pointed (row : List UInt8) (k : Nat) : List UInt8 :=
  (List.replicate (k + 1 - row.length) 48 ++ row).take ((List.replicate (k + 1 - row.length) 48 ++ row).length - k) ++ [46] ++ (List.replicate (k + 1 - row.length) 48 ++ row).drop ((List.replicate (k + 1 - row.length) 48 ++ row).length - k)
def sized (c : Nat) (e : Int) : List UInt8 := if e < 0 then pointed (Lib.decDigits c) (-e).toNat else Lib.decDigits c ++ List.replicate e.toNat 48
def text (d : D) : List UInt8 := (if d.neg then [45] else []) ++ sized d.c d.e

/-- Digits, and, or not, a point and digits. -/
theorem scan_whole {l : List UInt8} (h : Digs l) (hne : l ≠ []) (n : Nat) (below : Bool) : scan n below false true 0 0 l = .ok below (val l) 0 := by
  have := scan_digs h hne n below false true 0 0 []
  rw [List.append_nil] at this
  rw [this]; simp [scan, val]
theorem scan_point {a b : List UInt8} (ha : Digs a) (hna : a ≠ []) (hb : Digs b) (hnb : b ≠ []) (n : Nat) (below : Bool) :
    scan n below false true 0 0 (a ++ [46] ++ b) = .ok below (val (a ++ b)) b.length := by
  rw [List.append_assoc, scan_digs ha hna]
  simp only [List.cons_append, List.nil_append, scan]
  rw [if_neg (by decide), if_pos (by simp)]
  have := scan_digs hb hnb (n + a.length + 1) below true true (valF 0 a) 0 []
  rw [List.append_nil] at this
  simp only [Bool.false_eq_true, ite_false]
  rw [this]; simp [scan, val, valF_append]

/-- How sized numbers are gone through, with zeros ahead and behind. -/
theorem sized_split (c : Nat) (e : Int) : (0 ≤ e → Digs (sized c e) ∧ sized c e ≠ [] ∧ val (sized c e) = c * 10 ^ e.toNat) ∧
    (e < 0 → ∃ a b, sized c e = a ++ [46] ++ b ∧ Digs a ∧ a ≠ [] ∧ Digs b ∧ b.length = (-e).toNat ∧ val (a ++ b) = c) := by
  obtain ⟨hv, hd⟩ := val_decDigits c
  constructor
  · intro he
    unfold sized
    rw [if_neg (by omega)]
    refine ⟨hd.append (digs_zeros _), fun h => decDigits_ne c (List.append_eq_nil_iff.1 h).1, by rw [val_zeros_behind, hv]⟩
  · intro he
    obtain ⟨k, hk⟩ : ∃ k : Nat, (-e).toNat = k := ⟨_, rfl⟩
    unfold sized pointed
    rw [if_pos he, hk]
    obtain ⟨row, hrow⟩ : ∃ row, List.replicate (k + 1 - (Lib.decDigits c).length) 48 ++ Lib.decDigits c = row := ⟨_, rfl⟩
    have hlen : k + 1 ≤ row.length := by rw [← hrow]; simp; omega
    have hval : val row = c := by rw [← hrow, val_zeros_ahead, hv]
    have hdig : Digs row := by rw [← hrow]; exact (digs_zeros _).append hd
    rw [hrow]
    refine ⟨row.take (row.length - k), row.drop (row.length - k), rfl, ?_, ?_, ?_, ?_, ?_⟩
    · intro x hx; exact hdig x (List.mem_of_mem_take hx)
    · intro h; have := congrArg List.length h; simp at this; omega
    · intro x hx; exact hdig x (List.mem_of_mem_drop hx)
    · simp; omega
    · rw [List.take_append_drop, hval]
end Go.Proofs.YtmaiggoinjldpaaGreatDoor.Dc

/-
  Digits of one length are in the order of their numbers. Nothing of the program.
-/
namespace Go.Proofs.YtmaiggoinjldpaaGreatDoor

theorem less_val : ∀ {a b : List UInt8}, Digs a → Digs b → a.length = b.length → Op.bytesLess a b = decide (val a < val b)
  | [], [], _, _, _ => by simp [Op.bytesLess]
  | x :: a, y :: b, ha, hb, hl => by
    have hx := ha x (by simp)
    have hy := hb y (by simp)
    have ha' : Digs a := fun z hz => ha z (by simp [hz])
    have hb' : Digs b := fun z hz => hb z (by simp [hz])
    have hl' : a.length = b.length := by simpa using hl
    have l1 := val_lt ha'
    have l2 := val_lt hb'
    rw [hl'] at l1
    unfold Dig at hx hy
    have hp : 0 < 10 ^ b.length := Nat.pos_of_ne_zero (by simp)
    rw [Op.bytesLess, less_val ha' hb' hl', val_cons, val_cons, hl']
    generalize 10 ^ b.length = p at *
    rcases Nat.lt_trichotomy x.toNat y.toNat with h | h | h
    · have h1 : decide (x < y) = true := by simpa [UInt8.lt_iff_toNat_lt] using h
      have h2 : (x.toNat - 48 + 1) * p ≤ (y.toNat - 48) * p := Nat.mul_le_mul_right _ (by omega)
      rw [Nat.add_mul, Nat.one_mul] at h2
      rw [h1]
      simp
      omega
    · obtain rfl : x = y := UInt8.toNat_inj.1 h
      simp
    · have h1 : decide (x < y) = false := by simp [UInt8.lt_iff_toNat_lt]; omega
      have h3 : (x == y) = false := by
        have : x ≠ y := fun e => by rw [e] at h; omega
        simp [this]
      have h2 : (y.toNat - 48 + 1) * p ≤ (x.toNat - 48) * p := Nat.mul_le_mul_right _ (by omega)
      rw [Nat.add_mul, Nat.one_mul] at h2
      rw [h1, h3]
      simp
      omega
end Go.Proofs.YtmaiggoinjldpaaGreatDoor
