/-
  Digs, Mem, KStr, TMath, TRows, DMath, TGet, DText, DigLess, DRefMath, DMath2, Tab. No statement of the seat is proved here.
-/
import Derived.Lib.ItoaNum
import Derived.Lib.ItoaLen
import Derived.WalkKit
import Derived.WalkSpells
import Derived.WalkLawsBesides
import Derived.BigQuiet
import Derived.Lib.Hide
import Derived.Deep.QuietTactic
import Derived.Test.YtmaiggoinjldpaaDoorChecked
import Derived.Laws.Concat
import Derived.Laws.Strings3
import Derived.Sort.Walk0
import Derived.Sort.LotA
import Derived.Maps.AppendAt
import GoSem.Op.String
import Derived.Lib.ItoaMem
/-
  Digits and their number, as plain functions. Nothing of the program.
-/
namespace Go.Proofs.YtmaiggoinjldpaaDoor

def Two64 : Nat := 18446744073709551616
theorem two64_ten : Two64 < 10 ^ 20 := by decide
theorem ten_two64 : 10 ^ 19 < Two64 := by decide

def Dig (b : UInt8) : Prop := 48 ≤ b.toNat ∧ b.toNat ≤ 57
def Digs (l : List UInt8) : Prop := ∀ b ∈ l, Dig b
/-- The number of digits, behind a number. -/
def valF (v : Nat) (l : List UInt8) : Nat := l.foldl (fun v b => 10 * v + (b.toNat - 48)) v
def val (l : List UInt8) : Nat := valF 0 l
theorem valF_nil (v : Nat) : valF v [] = v := by unfold valF; exact List.foldl_nil
theorem valF_cons (v : Nat) (b : UInt8) (r : List UInt8) : valF v (b :: r) = valF (10 * v + (b.toNat - 48)) r := by unfold valF; exact List.foldl_cons

theorem valF_eq (v : Nat) (l : List UInt8) : valF v l = v * 10 ^ l.length + val l := by
  induction l generalizing v with
  | nil => simp [valF, val]
  | cons b r ih =>
    have e1 := ih (10 * v + (b.toNat - 48))
    have e2 := ih (10 * 0 + (b.toNat - 48))
    have e3 : 10 * v * 10 ^ r.length = v * 10 ^ (r.length + 1) := by rw [Nat.pow_succ, Nat.mul_comm 10 v, Nat.mul_assoc, Nat.mul_comm 10]
    rw [Nat.add_mul, e3] at e1
    rw [Nat.mul_zero, Nat.zero_add] at e2
    rw [val, valF_cons, valF_cons, Nat.mul_zero, Nat.zero_add, e1, e2, List.length_cons, Nat.add_assoc]
theorem valF_append (v : Nat) (a b : List UInt8) : valF v (a ++ b) = valF (valF v a) b := by
  unfold valF; exact List.foldl_append
theorem val_append (a b : List UInt8) : val (a ++ b) = val a * 10 ^ b.length + val b := by rw [val, valF_append, valF_eq]; unfold val; exact rfl
theorem val_snoc (a : List UInt8) (b : UInt8) : val (a ++ [b]) = 10 * val a + (b.toNat - 48) := by rw [val, valF_append, valF_cons, valF_nil]; unfold val; exact rfl
theorem val_cons (b : UInt8) (r : List UInt8) : val (b :: r) = (b.toNat - 48) * 10 ^ r.length + val r := by
  rw [val, valF_cons, valF_eq]; simp
theorem val_zeros (k : Nat) : val (List.replicate k 48) = 0 := by
  induction k with
  | zero => rfl
  | succ k ih => rw [List.replicate_succ, val_cons, ih]; simp
theorem val_zeros_ahead (k : Nat) (l : List UInt8) : val (List.replicate k 48 ++ l) = val l := by rw [val_append, val_zeros]; simp
theorem val_zeros_behind (k : Nat) (l : List UInt8) : val (l ++ List.replicate k 48) = val l * 10 ^ k := by rw [val_append, val_zeros]; simp
theorem val_lt {l : List UInt8} (h : Digs l) : val l < 10 ^ l.length := by
  induction l with
  | nil => decide
  | cons b r ih =>
    have hb := h b (by simp)
    have hr := ih fun x hx => h x (by simp [hx])
    have : (b.toNat - 48) * 10 ^ r.length ≤ 9 * 10 ^ r.length := Nat.mul_le_mul_right _ (by unfold Dig at hb; omega)
    rw [val_cons, List.length_cons, Nat.pow_succ]; omega
theorem Digs.append {a b : List UInt8} (h : Digs a) (k : Digs b) : Digs (a ++ b) := fun x hx => by rcases List.mem_append.1 hx with m | m; exact h x m; exact k x m
theorem Digs.left {a b : List UInt8} (h : Digs (a ++ b)) : Digs a := fun x hx => h x (by simp [hx])
theorem Digs.right {a b : List UInt8} (h : Digs (a ++ b)) : Digs b := fun x hx => h x (by simp [hx])
theorem digs_zeros (k : Nat) : Digs (List.replicate k 48) := fun x hx => by rw [(List.mem_replicate.1 hx).2]; unfold Dig; decide
theorem digs_nil : Digs [] := fun x hx => by cases hx

theorem dig_of (n : Nat) (h : n < 10) : (UInt8.ofNat (48 + n)).toNat = 48 + n := by
  rw [UInt8.toNat_ofNat']; omega

theorem decDigits_big {u : Nat} (h : ¬ u < 10) : Lib.decDigits u = Lib.decDigits (u / 10) ++ [UInt8.ofNat (48 + u % 10)] := by rw [Lib.decDigits, dif_neg h]
theorem val_decDigits (u : Nat) : val (Lib.decDigits u) = u ∧ Digs (Lib.decDigits u) := by
  induction u using Nat.strongRecOn with
  | ind u ih =>
    by_cases h : u < 10
    · rw [Lib.decDigits_one h]
      refine ⟨?_, fun x hx => ?_⟩
      · rw [val_cons, dig_of u h]; simp [val, valF]
      · rw [List.mem_singleton.1 hx]; unfold Dig; rw [dig_of u h]; omega
    · obtain ⟨h1, h2⟩ := ih (u / 10) (by omega)
      rw [decDigits_big h]
      refine ⟨?_, h2.append fun x hx => ?_⟩
      · rw [val_snoc, h1, dig_of _ (by omega)]; omega
      · rw [List.mem_singleton.1 hx]; unfold Dig; rw [dig_of _ (by omega)]; omega
theorem decDigits_ne (u : Nat) : Lib.decDigits u ≠ [] := by
  intro h
  have := Lib.decDigits_length u
  have h2 := Lib.nDigits_pos u
  rw [h] at this; simp at this; omega
/-- The first digit of a number that is not 0 is not 0. -/
theorem decDigits_head (u : Nat) (h0 : u ≠ 0) : ∃ b r, Lib.decDigits u = b :: r ∧ b.toNat ≠ 48 := by
  induction u using Nat.strongRecOn with
  | ind u ih =>
    by_cases h : u < 10
    · exact ⟨_, [], Lib.decDigits_one h, by rw [dig_of u h]; omega⟩
    · obtain ⟨b, r, h1, h2⟩ := ih (u / 10) (by omega) (by omega)
      exact ⟨b, r ++ [UInt8.ofNat (48 + u % 10)], by rw [decDigits_big h, h1]; rfl, h2⟩
theorem decDigits_len20 {u : Nat} (h : u < Two64) : (Lib.decDigits u).length ≤ 20 := by rw [Lib.decDigits_length]; exact Lib.nDigits_le20 u h

/-- Digits without a 0 ahead are those of their number. -/
theorem val_ge {b : UInt8} {r : List UInt8} (hb : Dig b) (h0 : b.toNat ≠ 48) : 10 ^ r.length ≤ val (b :: r) := by
  have : 1 * 10 ^ r.length ≤ (b.toNat - 48) * 10 ^ r.length := Nat.mul_le_mul_right _ (by unfold Dig at hb; omega)
  rw [val_cons]; omega
theorem val_inj : ∀ {a b : List UInt8}, Digs a → Digs b → a.length = b.length → val a = val b → a = b
  | [], [], _, _, _, _ => rfl
  | x :: a, y :: b, ha, hb, hl, hv => by
    have hx := ha x (by simp)
    have hy := hb y (by simp)
    have ha' : Digs a := fun z hz => ha z (by simp [hz])
    have hb' : Digs b := fun z hz => hb z (by simp [hz])
    have hl' : a.length = b.length := by simpa using hl
    rw [val_cons, val_cons, hl'] at hv
    have l1 := val_lt ha'
    have l2 := val_lt hb'
    rw [hl'] at l1
    have key : x.toNat - 48 = y.toNat - 48 ∧ val a = val b := by
      have hq := congrArg (· / 10 ^ b.length) hv
      have hp : 0 < 10 ^ b.length := Nat.pos_of_ne_zero (by simp)
      simp only [Nat.mul_comm _ (10 ^ b.length), Nat.mul_add_div hp, Nat.div_eq_of_lt l1, Nat.div_eq_of_lt l2, Nat.add_zero] at hq
      rw [hq] at hv
      exact ⟨hq, by omega⟩
    obtain rfl : x = y := UInt8.toNat_inj.1 (by unfold Dig at hx hy; omega)
    rw [val_inj ha' hb' hl' key.2]
end Go.Proofs.YtmaiggoinjldpaaDoor

/-
  Memory of our own: a block that is known whole, rows of bytes, and what a call leaves as it was. No statement of the seat is proved here.
-/
namespace Go.Proofs.YtmaiggoinjldpaaDoor
open Go.RowKit

/-- Block g is just these cells, of element type t, none frozen. -/
def Box (w : World) (g : Nat) (t : TypeId) (cs : List Value) : Prop := w.heap[g]? = some (.cells cs.toArray t (0, 0))

/-- The heap, and the streams, are the same: only the tape has gone on. -/
structure Same (w w' : World) : Prop where
  heap : w'.heap = w.heap
  os : w'.os = w.os
  tape : w'.tape = w.tape
  output : w'.output = w.output

/-- Nothing that was there has changed, but for block p. -/
structure But (p : Nat) (w w' : World) : Prop where
  os : w'.os = w.os
  tape : w'.tape = w.tape
  output : w'.output = w.output
  size : w.heap.size ≤ w'.heap.size
  block : ∀ k, k < w.heap.size → k ≠ p → w'.heap[k]? = w.heap[k]?

section
variable {w w' w'' : World} {g p B : Nat} {t : TypeId} {cs : List Value}

theorem Same.refl (w : World) : Same w w := ⟨rfl, rfl, rfl, rfl⟩
theorem Same.trans (h : Same w w') (k : Same w' w'') : Same w w'' := ⟨k.1.trans h.1, k.2.trans h.2, k.3.trans h.3, k.4.trans h.4⟩
theorem Same.drewN (w : World) (n : Nat) : Same w (w.drewN n) := ⟨rfl, rfl, rfl, rfl⟩
theorem Same.below (h : Same w w') : Below B w w' := ⟨h.os, h.tape, h.output, by rw [h.heap]; exact Nat.le_refl _, fun k _ => by rw [h.heap]⟩
theorem Same.cell (h : Same w w') (a : Addr) : w'.cell? a = w.cell? a := by unfold World.cell?; rw [h.heap]

theorem Box.lt (h : Box w g t cs) : g < w.heap.size := by
  unfold Box at h
  rcases Nat.lt_or_ge g w.heap.size with hlt | hge
  · exact hlt
  · rw [Array.getElem?_eq_none hge] at h; cases h
theorem Box.cell (h : Box w g t cs) (i : Nat) : w.cell? ⟨g, i, none⟩ = cs[i]? := by
  unfold Box at h
  simp [World.cell?, h]
theorem Box.frozen (h : Box w g t cs) (i : Nat) : w.frozen? ⟨g, i, none⟩ = false := by
  unfold Box at h
  simp [World.frozen?, h]
theorem Box.same (h : Box w g t cs) (hs : Same w w') : Box w' g t cs := by unfold Box; rw [hs.heap]; exact h
theorem Box.below (h : Box w g t cs) (hb : Below B w w') (hg : g < B) : Box w' g t cs := (hb.block g hg).trans h
theorem Box.keep (h : Box w g t cs) (hb : Below w.heap.size w w') : Box w' g t cs := (hb.block g h.lt).trans h
theorem Box.but (h : Box w g t cs) (hb : But p w w') (hg : g ≠ p) : Box w' g t cs := (hb.block g h.lt hg).trans h
theorem Box.set (h : Box w g t cs) (i : Nat) (u : Value) : Box (w.setCell ⟨g, i, none⟩ u) g t (cs.set i u) := by
  unfold Box at h ⊢
  simp [World.setCell, Array.getElem?_modify, h]
theorem Box.far (h : Box w g t cs) {q : Addr} (hp : g ≠ q.block) (u : Value) : Box (w.setCell q u) g t cs := (Below.heap_setCell w q u g hp).trans h
theorem Box.new (w : World) (t : TypeId) (cs : List Value) : Box (w.alloc (.cells cs.toArray t)) w.heap.size t cs := by
  unfold Box World.alloc; simp
theorem Box.alloc (h : Box w g t cs) (o : Obj) : Box (w.alloc o) g t cs := (Below.heap_alloc w o g h.lt).trans h
theorem Box.ne {g' : Nat} {t' : TypeId} {cs' : List Value} (h : Box w g t cs) (h' : Box w g' t' cs') (hne : t ≠ t') : g ≠ g' := by
  rintro rfl
  unfold Box at h h'
  rw [h] at h'
  injection h' with h'
  injection h' with _ ht
  exact hne ht

theorem But.refl (p : Nat) (w : World) : But p w w := ⟨rfl, rfl, rfl, Nat.le_refl _, fun _ _ _ => rfl⟩
theorem But.trans (h : But p w w') (k : But p w' w'') : But p w w'' :=
  ⟨k.os.trans h.os, k.tape.trans h.tape, k.output.trans h.output, Nat.le_trans h.size k.size, fun i hi hp => (k.block i (Nat.lt_of_lt_of_le hi h.size) hp).trans (h.block i hi hp)⟩
theorem But.of_below (h : Below w.heap.size w w') : But p w w' := ⟨h.os, h.tape, h.output, h.size, fun k hk _ => h.block k hk⟩
theorem But.of_same (h : Same w w') : But p w w' := .of_below h.below
theorem But.below (h : But p w w') (hp : B ≤ p) (hB : B ≤ w.heap.size) : Below B w w' := ⟨h.os, h.tape, h.output, h.size, fun k hk => h.block k (by omega) (by omega)⟩
theorem But.setCell (h : But p w w') {q : Addr} (hq : q.block = p) (u : Value) : But p w (w'.setCell q u) :=
  h.trans ⟨rfl, rfl, rfl, by simp [World.setCell], fun k _ hk => Below.heap_setCell _ _ _ _ (by omega)⟩
theorem But.set (h : But p w w') (i : Nat) (u : Value) : But p w (w'.setCell ⟨p, i, none⟩ u) := h.setCell rfl u
theorem But.alloc (h : But p w w') (o : Obj) : But p w (w'.alloc o) :=
  h.trans (.of_below ((Below.refl _ _).alloc (Nat.le_refl _) o))
theorem But.drew (h : But p w w') : But p w w'.drew := ⟨h.os, h.tape, h.output, h.size, h.block⟩
theorem below_set (h : Below B w w') {g : Nat} (hg : B ≤ g) (i : Nat) (u : Value) : Below B w (w'.setCell ⟨g, i, none⟩ u) := h.setCell (p := ⟨g, i, none⟩) hg u
theorem size_alloc (w : World) (o : Obj) : (w.alloc o).heap.size = w.heap.size + 1 := by simp
theorem below_then (h : Below w.heap.size w w') (k : Below w'.heap.size w' w'') : Below w.heap.size w w'' := h.trans (k.mono h.size)
end
end Go.Proofs.YtmaiggoinjldpaaDoor

/-
  Strings of our own: a string whose bytes are a list. No statement of the seat is proved here.
-/
namespace Go.Proofs.YtmaiggoinjldpaaDoor
open Go.RowKit

/-- The string's bytes. -/
def Str (s : ByteArray) (l : List UInt8) : Prop := s.data.toList = l

theorem Str.mk (l : List UInt8) : Str ⟨l.toArray⟩ l := by unfold Str; simp
theorem Str.eq {s : ByteArray} {l : List UInt8} (h : Str s l) : s = ⟨l.toArray⟩ := by
  unfold Str at h
  subst h
  cases s; simp
theorem Str.self (s : ByteArray) : Str s s.data.toList := rfl
theorem Str.size {s : ByteArray} {l : List UInt8} (h : Str s l) : s.size = l.length := by rw [h.eq]; simp [ByteArray.size]
theorem Str.append {s t : ByteArray} {a b : List UInt8} (h : Str s a) (k : Str t b) : Str (s ++ t) (a ++ b) := by
  rw [h.eq, k.eq, ByteArray.mk_append_mk]; exact Str.mk _
theorem Str.cut {s : ByteArray} {l : List UInt8} (h : Str s l) (i j : Nat) : Str (s.extract i j) ((l.drop i).take (j - i)) := by
  rw [h.eq, ByteArray.extract_mk]; exact Str.mk _
theorem Str.toList {s : ByteArray} {l : List UInt8} (h : Str s l) : s.toList = l := by rw [ByteArray.toList_eq]; exact h
theorem Str.at_ {s : ByteArray} {l : List UInt8} (h : Str s l) (i : Nat) (hi : i < s.size) (hl : i < l.length) : s[i] = l[i] := by
  have e := h.eq
  subst e
  simp only [ByteArray.getElem_eq_getElem_data]
  simp

section
variable {s : ByteArray} {l : List UInt8}
/-- s[:j], s[i:], s[i:j]. -/
theorem Str.to_ (h : Str s l) {j : Int} (n : Nat) (hn : j = n) (hj : n ≤ l.length) : ∃ t, Str t (l.take n) ∧ ∀ W, (Instr.slice 9 (.string s) none (some (.int .i64 j)) none).run Tryd.prog W = .ok (.string t) W := by
  subst hn
  have hz := h.size
  refine ⟨s.extract 0 n, by have := h.cut 0 n; simpa using this, fun W => ?_⟩
  rw [run_slice_string_to_if W 9 s .i64 n Tryd.underlying9, if_pos ⟨by omega, by omega⟩]
  rfl
theorem Str.from_ (h : Str s l) {i : Int} (n : Nat) (hn : i = n) (hi : n ≤ l.length) : ∃ t, Str t (l.drop n) ∧ ∀ W, (Instr.slice 9 (.string s) (some (.int .i64 i)) none none).run Tryd.prog W = .ok (.string t) W := by
  subst hn
  have hz := h.size
  refine ⟨s.extract n s.size, by have := h.cut n s.size; rw [hz] at this ⊢; rw [List.take_of_length_le (by simp)] at this; exact this, fun W => ?_⟩
  rw [run_slice_string_from_if W 9 s .i64 n Tryd.underlying9, if_pos ⟨by omega, by omega⟩]
  rfl
theorem Str.part (h : Str s l) {ki kj : IntKind} {i j : Int} (n m : Nat) (hn : i = n) (hm : j = m) (hi : n ≤ m) (hj : m ≤ l.length) : ∃ t, Str t ((l.drop n).take (m - n)) ∧ ∀ W, (Instr.slice 9 (.string s) (some (.int ki i)) (some (.int kj j)) none).run Tryd.prog W = .ok (.string t) W := by
  subst hn hm
  have hz := h.size
  refine ⟨s.extract n m, h.cut n m, fun W => ?_⟩
  rw [run_slice_string W 9 s ki kj n m Tryd.underlying9 (by omega) (by omega) (by omega)]
  rfl
/-- s[i]. -/
theorem Str.index (h : Str s l) {i : Int} (n : Nat) (hn : i = n) (hi : n < l.length) : ∀ W, (Instr.index 9 (.string s) (.int .i64 i)).run Tryd.prog W = .ok (.int .u8 (l[n].toNat : Int)) W := by
  subst hn
  have hz := h.size
  intro W
  rw [run_index_string (h := Tryd.underlying9), dif_pos ⟨by omega, by omega⟩]
  have := h.at_ n (by omega) hi
  simp only [Int.toNat_natCast]
  rw [this]
end
end Go.Proofs.YtmaiggoinjldpaaDoor

/-
  Tags as pairs of lists of bytes: which one is ahead, and tags in order, each once. Nothing of the program. No statement of the seat is proved here.
-/
namespace Go.Proofs.YtmaiggoinjldpaaDoor

abbrev Tg := List UInt8 × List UInt8

/-- A text is ahead of another one. -/
def ltB (a b : List UInt8) : Bool := Op.bytesLess a b
/-- A tag is ahead of another one. -/
def ltT (a b : Tg) : Bool := ltB a.1 b.1 || (a.1 == b.1 && ltB a.2 b.2)

theorem ltB_eq (a b : List UInt8) : ltB a b = decide (a < b) := bytesLess_eq a b
theorem ltB_irrefl (a : List UInt8) : ltB a a = false := by rw [ltB_eq]; simp [List.lt_irrefl]
theorem ltB_trans {a b c : List UInt8} (h : ltB a b = true) (k : ltB b c = true) : ltB a c = true := by
  rw [ltB_eq, decide_eq_true_eq] at *; exact List.lt_trans h k
theorem ltB_total {a b : List UInt8} (h : ltB a b = false) (k : ltB b a = false) : a = b := by
  rw [ltB_eq, decide_eq_false_iff_not, List.not_lt] at *; exact List.le_antisymm k h

theorem ltT_iff {a b : Tg} : ltT a b = true ↔ ltB a.1 b.1 = true ∨ (a.1 = b.1 ∧ ltB a.2 b.2 = true) := by
  unfold ltT; simp
theorem ltT_irrefl (a : Tg) : ltT a a = false := by unfold ltT; simp [ltB_irrefl]
theorem ltT_trans {a b c : Tg} (h : ltT a b = true) (k : ltT b c = true) : ltT a c = true := by
  rw [ltT_iff] at *
  rcases h with h | ⟨h1, h2⟩ <;> rcases k with k | ⟨k1, k2⟩
  · exact .inl (ltB_trans h k)
  · rw [← k1]; exact .inl h
  · rw [h1]; exact .inl k
  · exact .inr ⟨h1.trans k1, ltB_trans h2 k2⟩
theorem ltT_total {a b : Tg} (h : ltT a b = false) (k : ltT b a = false) : a = b := by
  have h' : ¬ (ltB a.1 b.1 = true ∨ (a.1 = b.1 ∧ ltB a.2 b.2 = true)) := by rw [← ltT_iff, h]; simp
  have k' : ¬ (ltB b.1 a.1 = true ∨ (b.1 = a.1 ∧ ltB b.2 a.2 = true)) := by rw [← ltT_iff, k]; simp
  have e1 : a.1 = b.1 := ltB_total (by cases h0 : ltB a.1 b.1 <;> simp_all) (by cases h0 : ltB b.1 a.1 <;> simp_all)
  have e2 : a.2 = b.2 := ltB_total (by cases h0 : ltB a.2 b.2 <;> simp_all) (by cases h0 : ltB b.2 a.2 <;> simp_all)
  exact Prod.ext e1 e2
theorem ltT_ne {a b : Tg} (h : ltT a b = true) : a ≠ b := by rintro rfl; rw [ltT_irrefl] at h; cases h
theorem ltT_asym {a b : Tg} (h : ltT a b = true) : ltT b a = false := by
  cases k : ltT b a
  · rfl
  · have := ltT_trans h k; rw [ltT_irrefl] at this; cases this

/-- Where one tag stands to another one. -/
def ordT (a b : Tg) : Int := if a = b then 0 else if ltT a b = true then -1 else 1
theorem ordT_lt (a b : Tg) : decide (ordT a b < 0) = ltT a b := by
  unfold ordT
  by_cases h : a = b
  · subst h; rw [if_pos rfl, ltT_irrefl]; rfl
  · rw [if_neg h]
    by_cases k : ltT a b = true
    · rw [if_pos k, k]; rfl
    · rw [if_neg k]; simp at k; rw [k]; rfl

/-- In order, each once. -/
def Up (r : List Tg) : Prop := r.Pairwise fun a b => ltT a b = true

theorem up_cons {a : Tg} {r : List Tg} : Up (a :: r) ↔ (∀ x ∈ r, ltT a x = true) ∧ Up r := List.pairwise_cons

theorem up_unique : ∀ {r r' : List Tg}, Up r → Up r' → (∀ x, x ∈ r ↔ x ∈ r') → r = r'
  | [], [], _, _, _ => rfl
  | [], b :: r', _, _, h => absurd ((h b).2 (by simp)) (by simp)
  | a :: r, [], _, _, h => absurd ((h a).1 (by simp)) (by simp)
  | a :: r, b :: r', h1, h2, h => by
    obtain ⟨ha, hr⟩ := up_cons.1 h1
    obtain ⟨hb, hr'⟩ := up_cons.1 h2
    have e : a = b := by
      rcases List.mem_cons.1 ((h a).1 (by simp)) with e | m
      · exact e
      · rcases List.mem_cons.1 ((h b).2 (by simp)) with e | m'
        · exact e.symm
        · have := ltT_asym (ha b m'); rw [hb a m] at this; cases this
    subst e
    congr 1
    refine up_unique hr hr' fun x => ?_
    have hx := h x
    simp only [List.mem_cons] at hx
    constructor
    · intro m
      rcases hx.1 (.inr m) with e | m'
      · subst e; have := ha x m; rw [ltT_irrefl] at this; cases this
      · exact m'
    · intro m
      rcases hx.2 (.inr m) with e | m'
      · subst e; have := hb x m; rw [ltT_irrefl] at this; cases this
      · exact m'

/-- A tag put where it has to stand. -/
def ins (t : Tg) : List Tg → List Tg
  | [] => [t]
  | o :: r => if ltT o t = true then o :: ins t r else if o = t then o :: r else t :: o :: r
def norm (ts : List Tg) : List Tg := ts.foldl (fun out t => ins t out) []

theorem mem_ins {t x : Tg} : ∀ {r : List Tg}, x ∈ ins t r ↔ x = t ∨ x ∈ r
  | [] => by simp [ins]
  | o :: r => by
    unfold ins
    by_cases h : ltT o t = true
    · rw [if_pos h]; simp only [List.mem_cons, mem_ins (r := r)]
      constructor
      · rintro (h1 | h1 | h1)
        · exact .inr (.inl h1)
        · exact .inl h1
        · exact .inr (.inr h1)
      · rintro (h1 | h1 | h1)
        · exact .inr (.inl h1)
        · exact .inl h1
        · exact .inr (.inr h1)
    · rw [if_neg h]
      by_cases k : o = t
      · rw [if_pos k]; subst k; simp only [List.mem_cons]
        constructor
        · exact .inr
        · rintro (h1 | h1)
          · exact .inl h1
          · exact h1
      · rw [if_neg k]; simp only [List.mem_cons]
theorem up_ins {t : Tg} : ∀ {r : List Tg}, Up r → Up (ins t r)
  | [], _ => by unfold ins; exact List.pairwise_singleton _ _
  | o :: r, h => by
    obtain ⟨ho, hr⟩ := up_cons.1 h
    unfold ins
    by_cases hl : ltT o t = true
    · rw [if_pos hl]
      refine up_cons.2 ⟨fun x hx => ?_, up_ins hr⟩
      rcases mem_ins.1 hx with rfl | hx
      · exact hl
      · exact ho x hx
    · rw [if_neg hl]
      by_cases k : o = t
      · rw [if_pos k]; exact h
      · rw [if_neg k]
        have hlt : ltT t o = true := by
          cases c : ltT t o
          · exact absurd (ltT_total (by simpa using hl) c) k
          · rfl
        refine up_cons.2 ⟨fun x hx => ?_, h⟩
        rcases List.mem_cons.1 hx with rfl | hx
        · exact hlt
        · exact ltT_trans hlt (ho x hx)
theorem fold_norm : ∀ (ts r : List Tg), Up r → Up (ts.foldl (fun out t => ins t out) r) ∧ ∀ x, x ∈ ts.foldl (fun out t => ins t out) r ↔ x ∈ ts ∨ x ∈ r
  | [], r, h => ⟨h, fun x => by simp⟩
  | t :: ts, r, h => by
    obtain ⟨h1, h2⟩ := fold_norm ts (ins t r) (up_ins h)
    refine ⟨h1, fun x => ?_⟩
    rw [List.foldl_cons, h2, mem_ins, List.mem_cons]
    constructor
    · rintro (h1 | h1 | h1)
      · exact .inl (.inr h1)
      · exact .inl (.inl h1)
      · exact .inr h1
    · rintro ((h1 | h1) | h1)
      · exact .inr (.inl h1)
      · exact .inl h1
      · exact .inr (.inr h1)
theorem up_norm (ts : List Tg) : Up (norm ts) := (fold_norm ts [] List.Pairwise.nil).1
theorem mem_norm {ts : List Tg} {x : Tg} : x ∈ norm ts ↔ x ∈ ts := by
  have := (fold_norm ts [] List.Pairwise.nil).2 x
  simpa [norm] using this
theorem norm_is {ts r : List Tg} (h : Up r) (hm : ∀ x, x ∈ r ↔ x ∈ ts) : r = norm ts :=
  up_unique h (up_norm ts) fun x => (hm x).trans mem_norm.symm
theorem norm_same {ts us : List Tg} (h : ∀ x, x ∈ ts ↔ x ∈ us) : norm ts = norm us := norm_is (up_norm ts) fun x => mem_norm.trans (h x)
theorem up_iff {ts : List Tg} : Up ts ↔ ts = norm ts := ⟨fun h => norm_is h fun _ => Iff.rfl, fun h => h ▸ up_norm ts⟩
theorem norm_norm (ts : List Tg) : norm (norm ts) = norm ts := (up_iff.1 (up_norm ts)).symm
theorem norm_take (ts : List Tg) (i : Nat) (h : i < ts.length) : ins ts[i] (norm (ts.take i)) = norm (ts.take (i + 1)) := by
  unfold norm
  rw [List.take_add_one, List.getElem?_eq_getElem h, Option.toList_some, List.foldl_append]
  rfl
theorem norm_length (ts : List Tg) : (norm ts).length ≤ ts.length := by
  have : ∀ (ts r : List Tg), (ts.foldl (fun out t => ins t out) r).length ≤ ts.length + r.length := by
    intro ts
    induction ts with
    | nil => intro r; simp
    | cons t ts ih =>
      intro r
      have h := ih (ins t r)
      have hl : ∀ r : List Tg, (ins t r).length ≤ r.length + 1 := by
        intro r
        induction r with
        | nil => simp [ins]
        | cons o r ih => unfold ins; split <;> (try split) <;> simp <;> omega
      have := hl r
      simp only [List.foldl_cons, List.length_cons]
      omega
  simpa [norm] using this ts []

/-- Each tag but the first one has the one before it ahead of itself. -/
def Asc (ts : List Tg) : Prop := ∀ i (h : i + 1 < ts.length), ltT (ts[i]'(by omega)) ts[i + 1] = true
theorem asc_up {ts : List Tg} : Asc ts ↔ Up ts := by
  constructor
  · intro h
    have key : ∀ d i (hj : i + 1 + d < ts.length), ltT (ts[i]'(by omega)) ts[i + 1 + d] = true := by
      intro d
      induction d with
      | zero => intro i hj; exact h i hj
      | succ d ih => intro i hj; exact ltT_trans (ih i (by omega)) (h (i + 1 + d) hj)
    refine List.pairwise_iff_getElem.2 fun i j hi hj hij => ?_
    have := key (j - (i + 1)) i (by omega)
    simpa [show i + 1 + (j - (i + 1)) = j by omega] using this
  · intro h i hi
    exact List.pairwise_iff_getElem.1 h i (i + 1) (by omega) hi (by omega)
end Go.Proofs.YtmaiggoinjldpaaDoor

/-
  Rows of tags: a slice that reads as a list of tags, an append of tags onto a row of our own. No statement of the seat is proved here.
-/
namespace Go.Proofs.YtmaiggoinjldpaaDoor
open Go.RowKit

/-- The slice at A holds these values, one behind the other. -/
def Lies (w : World) (A : Option Addr) (vs : List Value) : Prop :=
  ∀ i u, vs[i]? = some u → ∃ b off, A = some ⟨b, off, none⟩ ∧ w.cell? ⟨b, off + i, none⟩ = some u

section
variable {w w' : World} {A : Option Addr} {vs : List Value}
theorem cell_lt {a : Addr} {u : Value} (h : w.cell? a = some u) : a.block < w.heap.size := by
  unfold World.cell? at h
  rcases Nat.lt_or_ge a.block w.heap.size with hlt | hge
  · exact hlt
  · rw [Array.getElem?_eq_none hge] at h; simp at h
theorem Lies.nil : Lies w A [] := fun i u h => by simp at h
theorem Lies.keep (h : Lies w A vs) (hb : Below w.heap.size w w') : Lies w' A vs := fun i u hu => by
  obtain ⟨b, off, e, hc⟩ := h i u hu
  exact ⟨b, off, e, (hb.cell (p := ⟨b, off + i, none⟩) (cell_lt hc)).trans hc⟩
theorem Lies.at_ {i : Nat} (h : Lies w A vs) (hi : i < vs.length) : ∃ b off, A = some ⟨b, off, none⟩ ∧ w.cell? ⟨b, off + i, none⟩ = some vs[i] :=
  h i _ (List.getElem?_eq_getElem hi)
/-- A row of the call's own reads as what it holds. -/
theorem Lies.of_own {base n cap size : Nat} {e : TypeId} (h : w.ownsRow base e size (.slice A n cap) n vs) : Lies w A vs := by
  rcases h.2 with ⟨hv, hn⟩ | ⟨g, cap', cur, hv, hg, hh, hnc, hcm, hcs, htake⟩
  · have : vs = [] := List.eq_nil_of_length_eq_zero (by rw [h.1, hn]; simp)
    subst this
    exact .nil
  · injection hv with hA _ _
    subst hA
    intro i u hu
    refine ⟨g, 0, rfl, ?_⟩
    have : cur[i]? = some u := by
      rw [← htake] at hu
      have := List.getElem?_take (l := cur.toList) (i := n * size) (j := i)
      rw [this] at hu
      split at hu
      · simpa using hu
      · cases hu
    simp [World.cell?, hh, this]
theorem Lies.take (h : Lies w A vs) (k : Nat) : Lies w A (vs.take k) := fun i u hu => by
  rw [List.getElem?_take] at hu
  split at hu
  · exact h i u hu
  · cases hu
end

/-- A tag's two cells. -/
def encT (t : Tg) : List Value := [.string ⟨t.1.toArray⟩, .string ⟨t.2.toArray⟩]
def flat (ts : List Tg) : List Value := ts.flatMap encT
theorem flat_nil : flat [] = [] := rfl
theorem flat_cons (t : Tg) (ts : List Tg) : flat (t :: ts) = .string ⟨t.1.toArray⟩ :: .string ⟨t.2.toArray⟩ :: flat ts := rfl
theorem flat_append (a b : List Tg) : flat (a ++ b) = flat a ++ flat b := by unfold flat; rw [List.flatMap_append]
theorem flat_one (t : Tg) : flat [t] = encT t := rfl
theorem flat_length : ∀ ts : List Tg, (flat ts).length = ts.length * 2
  | [] => rfl
  | t :: ts => by rw [flat_cons, List.length_cons, List.length_cons, flat_length ts, List.length_cons]; omega
theorem flat_get0 : ∀ (ts : List Tg) (i : Nat), (flat ts)[i * 2]? = ts[i]?.map fun t => .string ⟨t.1.toArray⟩
  | [], i => by simp [flat_nil]
  | t :: ts, 0 => rfl
  | t :: ts, i + 1 => by rw [flat_cons, show (i + 1) * 2 = i * 2 + 1 + 1 by omega]; simp only [List.getElem?_cons_succ]; exact flat_get0 ts i
theorem flat_get1 : ∀ (ts : List Tg) (i : Nat), (flat ts)[i * 2 + 1]? = ts[i]?.map fun t => .string ⟨t.2.toArray⟩
  | [], i => by simp [flat_nil]
  | t :: ts, 0 => rfl
  | t :: ts, i + 1 => by rw [flat_cons, show (i + 1) * 2 + 1 = i * 2 + 1 + 1 + 1 by omega]; simp only [List.getElem?_cons_succ]; exact flat_get1 ts i
theorem flat_take : ∀ (ts : List Tg) (k : Nat), flat (ts.take k) = (flat ts).take (k * 2)
  | [], k => by simp [flat_nil]
  | t :: ts, 0 => rfl
  | t :: ts, k + 1 => by rw [List.take_succ_cons, flat_cons, flat_cons, flat_take ts k, show (k + 1) * 2 = k * 2 + 1 + 1 by omega]; rfl
theorem flat_cells : ∀ {ts : List Tg}, ∀ u ∈ flat ts, u.oneCell' = true := by
  intro ts u hu
  obtain ⟨t, _, hu⟩ := List.mem_flatMap.1 hu
  simp [encT] at hu
  rcases hu with rfl | rfl <;> rfl

/-- The slice at A holds these tags. -/
def Tags (w : World) (A : Option Addr) (ts : List Tg) : Prop := Lies w A (flat ts)
section
variable {w w' : World} {A : Option Addr} {ts : List Tg}
theorem Tags.nil : Tags w A [] := Lies.nil
theorem Tags.keep (h : Tags w A ts) (hb : Below w.heap.size w w') : Tags w' A ts := Lies.keep h hb
theorem Tags.at_ {i : Nat} (h : Tags w A ts) (hi : i < ts.length) : ∃ b off, A = some ⟨b, off, none⟩ ∧ w.cell? ⟨b, off + i * 2, none⟩ = some (.string ⟨ts[i].1.toArray⟩) ∧ w.cell? ⟨b, off + i * 2 + 1, none⟩ = some (.string ⟨ts[i].2.toArray⟩) := by
  obtain ⟨b, off, e, h0⟩ := h (i * 2) _ (by rw [flat_get0, List.getElem?_eq_getElem hi]; rfl)
  obtain ⟨b', off', e', h1⟩ := h (i * 2 + 1) _ (by rw [flat_get1, List.getElem?_eq_getElem hi]; rfl)
  rw [e] at e'
  injection e' with e'
  injection e' with e1 e2
  subst e1 e2
  exact ⟨b, off, e, h0, h1⟩
theorem Tags.some_ (h : Tags w A ts) (hi : 0 < ts.length) : ∃ b off, A = some ⟨b, off, none⟩ ∧ b < w.heap.size := by
  obtain ⟨b, off, e, h0, _⟩ := h.at_ hi
  exact ⟨b, off, e, cell_lt h0⟩
/-- The cells of all tags, at a slice whose place is known. -/
theorem Tags.cells {b off : Nat} (h : Tags w (some ⟨b, off, none⟩) ts) {i : Nat} (hi : i < ts.length) : w.cell? ⟨b, off + i * 2, none⟩ = some (.string ⟨ts[i].1.toArray⟩) ∧ w.cell? ⟨b, off + i * 2 + 1, none⟩ = some (.string ⟨ts[i].2.toArray⟩) := by
  obtain ⟨b', off', e, h0, h1⟩ := h.at_ hi
  injection e with e
  injection e with e1 e2
  subst e1 e2
  exact ⟨h0, h1⟩
theorem Tags.of_own {base n cap : Nat} (h : w.ownsRow base 57 2 (.slice A n cap) n (flat ts)) : Tags w A ts := Lies.of_own h
theorem Tags.take (h : Tags w A ts) (k : Nat) : Tags w A (ts.take k) := by unfold Tags; rw [flat_take]; exact Lies.take h _
end

section
variable {w w' : World} {base base' size n p : Nat} {e : TypeId} {v : Value} {xs : List Value}
theorem own_base (h : w.ownsRow base e size v n xs) (hb : base' ≤ base) : w.ownsRow base' e size v n xs := by
  refine ⟨h.1, ?_⟩
  rcases h.2 with h2 | ⟨g, cap, cur, hv, hg, r⟩
  · exact .inl h2
  · exact .inr ⟨g, cap, cur, hv, Nat.le_trans hb hg, r⟩
theorem own_lt {g : Nat} {cur : Array Value} (h : w.heap[g]? = some (.cells cur e (0, 0))) : g < w.heap.size := by
  rcases Nat.lt_or_ge g w.heap.size with hlt | hge
  · exact hlt
  · rw [Array.getElem?_eq_none hge] at h; cases h
theorem own_keep (h : w.ownsRow base e size v n xs) (hb : Below w.heap.size w w') : w'.ownsRow base e size v n xs := by
  refine ⟨h.1, ?_⟩
  rcases h.2 with h2 | ⟨g, cap, cur, hv, hg, hh, r⟩
  · exact .inl h2
  · exact .inr ⟨g, cap, cur, hv, hg, (hb.block g (own_lt hh)).trans hh, r⟩
theorem own_slice (h : w.ownsRow base e size v n xs) : ∃ A cap, v = .slice A n cap ∧ n ≤ cap ∧ cap ≤ maxLen ∧ (A = none → cap = 0 ∧ n = 0) ∧ ∀ x, A = some x → base ≤ x.block ∧ x.block < w.heap.size ∧ x = ⟨x.block, 0, none⟩ := by
  rcases h.2 with ⟨rfl, rfl⟩ | ⟨g, cap, cur, rfl, hg, hh, h1, h2, _⟩
  · exact ⟨none, 0, rfl, Nat.le_refl _, Nat.zero_le _, fun _ => ⟨rfl, rfl⟩, fun x hx => by cases hx⟩
  · exact ⟨_, cap, rfl, h1, h2, (fun hx => by cases hx), (fun x hx => by injection hx with hx; subst hx; exact ⟨hg, own_lt hh, rfl⟩)⟩
end

section
variable (w : World)
theorem info_tag : ∃ i, Tryd.prog.info? 57 = some i ∧ i.zero = some (.agg #[.string ⟨#[]⟩, .string ⟨#[]⟩]) ∧ i.size = 2 ∧ i.bytes = 32 := by
  obtain ⟨i, h1, h2, h3, h4⟩ := info_parts (P := Tryd.prog) (e := 57) (z := .agg #[.string ⟨#[]⟩, .string ⟨#[]⟩]) (size := 2) (bytes := 32) (by kernel_rfl)
  exact ⟨i, h1, h2, h3, h4⟩

set_option maxRecDepth 100000 in
theorem run_append_tags (base : Nat) (ty : TypeId) (v : Value) (n : Nat) (ts : List Tg) (hown : w.ownsRow base 57 2 v n (flat ts))
    (A : Option Addr) (m c : Nat) (us : List Tg) (hl : us.length = m) (hv : Tags w A us) (hfit : n + m ≤ 1000000) (hbase : base ≤ w.heap.size) :
    ∃ v' w', (Builtin.append_ #[24, 24] ty #[v, .slice A m c]).run Tryd.prog w = .ok v' w' ∧ w'.ownsRow base 57 2 v' (n + m) (flat (ts ++ us)) ∧ w.grownBy w' v.ownBlock ∧
      (v'.ownBlock = v.ownBlock ∨ v'.ownBlock = some w.heap.size) := by
  obtain ⟨i, hi, hz, hs1, hb1⟩ := info_tag
  have go : ∀ a : Addr, (∀ j u, (flat us)[j]? = some u → w.cell? (a.add j) = some u) → ∃ v' w', (Builtin.append_ #[24, 24] ty #[v, .slice (some a) m c]).run Tryd.prog w = .ok v' w' ∧ w'.ownsRow base 57 2 v' (n + m) (flat (ts ++ us)) ∧ w.grownBy w' v.ownBlock ∧
      (v'.ownBlock = v.ownBlock ∨ v'.ownBlock = some w.heap.size) := by
    intro a ha
    obtain ⟨v', w', hr, h2, h3, _, h5⟩ := run_append_own_at (P := Tryd.prog) w base 24 ty 57 _ (.agg #[.string ⟨#[]⟩, .string ⟨#[]⟩]) 2 32 Tryd.underlying24 hi hz hs1 hb1 rfl (by omega) v n (flat ts) hown a m c (flat us) (by rw [flat_length]; omega) ha flat_cells (by unfold maxLen; omega) (by omega) hbase
    rw [flat_append]
    exact ⟨v', w', hr, h2, h3, h5⟩
  rcases A with _ | a
  · have h0 : us = [] := by
      rcases us with _ | ⟨u, us⟩
      · rfl
      · obtain ⟨b, off, e, _⟩ := hv 0 _ rfl
        cases e
    subst h0
    have hm : m = 0 := by simpa using hl.symm
    subst hm
    refine ⟨v, w, ?_, by simpa using hown, World.grownBy.refl w _, .inl rfl⟩
    rcases hown.2 with ⟨rfl, rfl⟩ | ⟨g, cap, cur, rfl, _, _, hnc, _⟩
    · simp [Builtin.append_, run_underlying Tryd.underlying24, sizeOf, typeInfo, hi, Builtin.lenOf, Builtin.firstCells]
    · simp [Builtin.append_, run_underlying Tryd.underlying24, sizeOf, typeInfo, hi, Builtin.lenOf, Builtin.firstCells, hnc, storeCells]
  · refine go a fun j u hu => ?_
    obtain ⟨b, off, e, hc⟩ := hv j u hu
    injection e with e
    subst e
    rcases Nat.eq_zero_or_pos j with rfl | hj
    · simpa [Addr.add] using hc
    · simpa [Addr.add, Nat.ne_of_gt hj] using hc

theorem wpList_append_tags {ops : Array Oper} {rest : List Oper} {o : Oper} {a : Act} {Q : Exit → Act → World → Prop} (hgd : o.guard = none) (s x : Operand)
    (ho : o.op = .call { callee := .builtin .append, args := #[s, x], argTypes := #[24, 24] })
    (base : Nat) (v : Value) (n : Nat) (ts : List Tg) (hs : a.eval s = v) (hown : w.ownsRow base 57 2 v n (flat ts))
    (A : Option Addr) (m c : Nat) (us : List Tg) (hx : a.eval x = .slice A m c) (hl : us.length = m) (hv : Tags w A us)
    (hfit : n + m ≤ 1000000) (hbase : base ≤ w.heap.size)
    (h : ∀ v' w', w'.ownsRow base 57 2 v' (n + m) (flat (ts ++ us)) → w.grownBy w' v.ownBlock → (v'.ownBlock = v.ownBlock ∨ v'.ownBlock = some w.heap.size) → wpList Tryd.prog ops Q rest (a.put o.dst v') w') :
    wpList Tryd.prog ops Q (o :: rest) a w := by
  refine wpList_plain hgd fun K hK => ?_
  obtain ⟨v', w', hr, h2, h3, h4⟩ := run_append_tags w base o.type v n ts hown A m c us hl hv hfit hbase
  unfold Oper.wp execOp
  simp only [ho, resolve, invoke, builtin, Sem.run_bind, Sem.run_pure, Result.andThen_ok, List.map_toArray, List.map_cons, List.map_nil, hs, hx, hr]
  exact hK _ _ (h v' w' h2 h3 h4)

/-- The same append as a step of a region that draws its order. -/
theorem step_append_tags {ops : Array Oper} {o : Oper} {a : Act} {K : Act → World → Prop} {Q : Exit → Act → World → Prop} {E : Prop} (hgd : o.guard = none) (s x : Operand)
    (ho : o.op = .call { callee := .builtin .append, args := #[s, x], argTypes := #[24, 24] })
    (base : Nat) (v : Value) (n : Nat) (ts : List Tg) (hs : a.eval s = v) (hown : w.ownsRow base 57 2 v n (flat ts))
    (A : Option Addr) (m c : Nat) (us : List Tg) (hx : a.eval x = .slice A m c) (hl : us.length = m) (hv : Tags w A us)
    (hfit : n + m ≤ 1000000) (hbase : base ≤ w.heap.size)
    (h : ∀ v' w', w'.ownsRow base 57 2 v' (n + m) (flat (ts ++ us)) → w.grownBy w' v.ownBlock → (v'.ownBlock = v.ownBlock ∨ v'.ownBlock = some w.heap.size) → K (a.put o.dst v') w') :
    if Region.wanted o (yielded ops a.tmps) = true then Oper.wp Tryd.prog o a w K Q else E := by
  have hw : Region.wanted o (yielded ops a.tmps) = true := by simp [Region.wanted, hgd]
  rw [if_pos hw]
  obtain ⟨v', w', hr, h2, h3, h4⟩ := run_append_tags w base o.type v n ts hown A m c us hl hv hfit hbase
  unfold Oper.wp execOp
  simp only [ho, resolve, invoke, builtin, Sem.run_bind, Sem.run_pure, Result.andThen_ok, List.map_toArray, List.map_cons, List.map_nil, hs, hx, hr]
  exact h v' w' h2 h3 h4

/-- One tag, laid in a block of its own. -/
theorem tags_one {s t : ByteArray} {k v : List UInt8} (hs : Str s k) (ht : Str t v) : Tags (w.alloc (.cells #[.string s, .string t] 57)) (some ⟨w.heap.size, 0, none⟩) [(k, v)] := by
  rw [hs.eq, ht.eq]
  intro i u hu
  refine ⟨w.heap.size, 0, rfl, ?_⟩
  have := (Box.new w 57 [.string ⟨k.toArray⟩, .string ⟨v.toArray⟩]).cell i
  rw [Nat.zero_add, this]
  exact hu
theorem tags_at {s t : ByteArray} {x : Tg} {n : Nat} (hn : w.heap.size = n) (hs : Str s x.1) (ht : Str t x.2) : Tags (w.alloc (.cells #[.string s, .string t] 57)) (some ⟨n, 0, none⟩) [x] := by
  subst hn; exact tags_one w hs ht
theorem own_empty : (w.alloc (.cells #[] 57)).ownsRow w.heap.size 57 2 (.slice (some ⟨w.heap.size, 0, none⟩) 0 0) 0 (flat []) :=
  ⟨rfl, .inr ⟨w.heap.size, 0, #[], rfl, Nat.le_refl _, Box.new w 57 [], by omega, by unfold maxLen; omega, rfl, rfl⟩⟩
theorem own_nil (base : Nat) : w.ownsRow base 57 2 (.slice none 0 0) 0 (flat []) := ⟨rfl, .inl ⟨rfl, rfl⟩⟩
end
end Go.Proofs.YtmaiggoinjldpaaDoor

/-
  What a number's one form is, which number a text is, and how numbers are in order, as plain functions. Nothing of the program.
-/
namespace Go.Proofs.YtmaiggoinjldpaaDoor.Dc

/-- The last zeros are taken off, as long as the power is below 18. -/
def strip (c : Nat) (e : Int) : Nat × Int :=
  if h : 0 < c ∧ e < 18 ∧ c % 10 = 0 then strip (c / 10) (e + 1) else (c, e)
termination_by c
decreasing_by omega

/-- The one form of c times ten to the e, if there is one. -/
def norm (c : Nat) (e : Int) : Option (Nat × Int) :=
  if c = 0 then some (0, 0)
  else if (strip c e).2 < -18 then none
  else if 18 ≤ (strip c e).2 then
    (if (strip c e).1 * 10 ^ ((strip c e).2 - 18).toNat < Two64 then some ((strip c e).1 * 10 ^ ((strip c e).2 - 18).toNat, 18) else none)
  else if (strip c e).1 < Two64 then some (strip c e) else none

theorem strip_go {c : Nat} {e : Int} (h0 : 0 < c) (he : e < 18) (hm : c % 10 = 0) : strip c e = strip (c / 10) (e + 1) := by
  rw [strip, dif_pos ⟨h0, he, hm⟩]
theorem strip_stay {c : Nat} {e : Int} (h : ¬ (0 < c ∧ e < 18 ∧ c % 10 = 0)) : strip c e = (c, e) := by rw [strip, dif_neg h]

theorem strip_spec (c : Nat) (e : Int) (h : 0 < c) : ∃ k : Nat, (strip c e).2 = e + k ∧ (strip c e).1 * 10 ^ k = c ∧ 0 < (strip c e).1 ∧ (k = 0 ∨ e + k ≤ 18) ∧ ((strip c e).1 % 10 ≠ 0 ∨ 18 ≤ (strip c e).2) := by
  induction c using Nat.strongRecOn generalizing e with
  | ind c ih =>
    by_cases hc : 0 < c ∧ e < 18 ∧ c % 10 = 0
    · obtain ⟨k, h2, h1, h0, hk, hs⟩ := ih (c / 10) (by omega) (e + 1) (by omega)
      rw [strip_go hc.1 hc.2.1 hc.2.2]
      refine ⟨k + 1, by omega, ?_, h0, by omega, hs⟩
      rw [Nat.pow_succ, ← Nat.mul_assoc, h1]; omega
    · rw [strip_stay hc]
      exact ⟨0, by simp, by simp, h, Or.inl rfl, by
        rcases Nat.eq_zero_or_pos (c % 10) with hz | hz
        · exact Or.inr (by show (18 : Int) ≤ e; omega)
        · exact Or.inl (by show c % 10 ≠ 0; omega)⟩

theorem norm_ten (c : Nat) (e : Int) : norm (c * 10) e = norm c (e + 1) := by
  rcases Nat.eq_zero_or_pos c with rfl | hc
  · simp [norm]
  by_cases he : e < 18
  · have : strip (c * 10) e = strip c (e + 1) := by rw [strip_go (by omega) he (by omega)]; congr 1; omega
    unfold norm
    rw [this, if_neg (show ¬ c * 10 = 0 by omega), if_neg (show ¬ c = 0 by omega)]
  · have h1 : strip (c * 10) e = (c * 10, e) := strip_stay (by omega)
    have h2 : strip c (e + 1) = (c, e + 1) := strip_stay (by omega)
    have h3 : c * 10 * 10 ^ (e - 18).toNat = c * 10 ^ (e + 1 - 18).toNat := by
      rw [show (e + 1 - 18).toNat = (e - 18).toNat + 1 by omega, Nat.pow_succ, Nat.mul_assoc, Nat.mul_comm 10]
    unfold norm
    rw [h1, h2, if_neg (show ¬ c * 10 = 0 by omega), if_neg (show ¬ c = 0 by omega)]
    simp only []
    rw [if_neg (show ¬ e < -18 by omega), if_pos (show (18 : Int) ≤ e by omega), if_neg (show ¬ e + 1 < -18 by omega), if_pos (show (18 : Int) ≤ e + 1 by omega), h3]

theorem norm_pow (c k : Nat) (e : Int) : norm (c * 10 ^ k) e = norm c (e + k) := by
  induction k generalizing e with
  | zero => simp
  | succ k ih => rw [Nat.pow_succ, ← Nat.mul_assoc, norm_ten, ih]; congr 1; omega

theorem norm_big {c : Nat} (h : c % 10 ≠ 0) (hb : Two64 ≤ c) (e : Int) : norm c e = none := by
  have hs : strip c e = (c, e) := strip_stay (by omega)
  have hp : 1 ≤ 10 ^ (e - 18).toNat := Nat.pos_of_ne_zero (by simp)
  have hm : c ≤ c * 10 ^ (e - 18).toNat := Nat.le_mul_of_pos_right _ hp
  unfold norm
  rw [hs, if_neg (show ¬ c = 0 by rintro rfl; exact h rfl)]
  simp only []
  split
  · rfl
  · split
    · rw [if_neg (by omega)]
    · rw [if_neg (by omega)]

/-- A number is in its one form. -/
def One (c : Nat) (e : Int) : Prop := (c = 0 ∧ e = 0) ∨ (c ≠ 0 ∧ -18 ≤ e ∧ e ≤ 18 ∧ (c % 10 ≠ 0 ∨ e = 18) ∧ c < Two64)

theorem norm_one {c c' : Nat} {e e' : Int} (h : norm c e = some (c', e')) : One c' e' := by
  unfold norm at h
  by_cases h0 : c = 0
  · rw [if_pos h0] at h; simp at h; exact Or.inl ⟨h.1.symm, h.2.symm⟩
  rw [if_neg h0] at h
  obtain ⟨k, h2, h1, hp, hk, hs⟩ := strip_spec c e (by omega)
  by_cases hlo : (strip c e).2 < -18
  · rw [if_pos hlo] at h; cases h
  rw [if_neg hlo] at h
  by_cases hhi : 18 ≤ (strip c e).2
  · rw [if_pos hhi] at h
    split at h
    · rename_i hf
      injection h with h
      have e1 := congrArg Prod.fst h
      have e2 := congrArg Prod.snd h
      simp only [] at e1 e2
      subst e1 e2
      exact Or.inr ⟨Nat.ne_of_gt (Nat.mul_pos hp (Nat.pos_of_ne_zero (by simp))), by omega, by omega, Or.inr rfl, hf⟩
    · cases h
  · rw [if_neg hhi] at h
    split at h
    · rename_i hf
      injection h with h
      rw [h] at hs hp hf hlo hhi
      simp only [] at hs hp hf hlo hhi
      exact Or.inr ⟨by omega, by omega, by omega, by omega, hf⟩
    · cases h

theorem norm_fix {c : Nat} {e : Int} (h : One c e) : norm c e = some (c, e) := by
  rcases h with ⟨rfl, rfl⟩ | ⟨h0, hl, hh, hm, hb⟩
  · simp [norm]
  · have hs : strip c e = (c, e) := strip_stay (by omega)
    unfold norm
    rw [if_neg h0, hs]
    simp only []
    rw [if_neg (by omega)]
    by_cases h18 : 18 ≤ e
    · obtain rfl : e = 18 := by omega
      rw [if_pos (by omega)]; simp [hb]
    · rw [if_neg h18, if_pos hb]

/-- What is in range always has one form. -/
theorem norm_some {c : Nat} {e : Int} (hb : c < Two64) (hl : -18 ≤ e) (hh : e ≤ 18) : ∃ p, norm c e = some p := by
  rcases Nat.eq_zero_or_pos c with rfl | h0
  · exact ⟨(0, 0), by simp [norm]⟩
  obtain ⟨k, h2, h1, hp, hk, hs⟩ := strip_spec c e h0
  have hle : (strip c e).1 ≤ c := by
    have : (strip c e).1 * 1 ≤ (strip c e).1 * 10 ^ k := Nat.mul_le_mul_left _ (Nat.pos_of_ne_zero (by simp))
    omega
  unfold norm
  rw [if_neg (by omega), if_neg (by omega)]
  by_cases h18 : 18 ≤ (strip c e).2
  · rw [if_pos h18, show (strip c e).2 - 18 = 0 by omega]
    simp only [Int.toNat_zero, Nat.pow_zero, Nat.mul_one]
    rw [if_pos (by omega)]; exact ⟨_, rfl⟩
  · rw [if_neg h18, if_pos (by omega)]; exact ⟨_, rfl⟩

/-- A form is the same number. -/
theorem norm_same {c c' : Nat} {e e' : Int} (h : norm c e = some (c', e')) (he : e ≤ 18) (h0 : c ≠ 0) : e ≤ e' ∧ c = c' * 10 ^ (e' - e).toNat := by
  obtain ⟨k, h2, h1, hp, hk, hs⟩ := strip_spec c e (by omega)
  unfold norm at h
  rw [if_neg h0] at h
  split at h
  · cases h
  split at h
  · have h18 : (strip c e).2 = 18 := by omega
    split at h
    · rw [h18] at h h2
      injection h with h
      have e1 := congrArg Prod.fst h
      have e2 := congrArg Prod.snd h
      simp only [Int.sub_self, Int.toNat_zero, Nat.pow_zero, Nat.mul_one] at e1 e2
      subst e1 e2
      exact ⟨by omega, by rw [show ((18 : Int) - e).toNat = k by omega]; exact h1.symm⟩
    · cases h
  · split at h
    · injection h with h
      rw [h] at h2 h1
      simp only [] at h2 h1
      exact ⟨by omega, by rw [show (e' - e).toNat = k by omega]; exact h1.symm⟩
    · cases h

theorem norm_zero (e : Int) : norm 0 e = some (0, 0) := by simp [norm]
theorem norm_pos {c c' : Nat} {e e' : Int} (h : norm c e = some (c', e')) (h0 : c ≠ 0) : c' ≠ 0 := by
  unfold norm at h
  rw [if_neg h0] at h
  obtain ⟨k, h2, h1, hp, hk, hs⟩ := strip_spec c e (by omega)
  split at h
  · cases h
  split at h
  · split at h
    · injection h with h
      have e1 := congrArg Prod.fst h
      simp only [] at e1
      rw [← e1]
      exact Nat.ne_of_gt (Nat.mul_pos hp (Nat.pos_of_ne_zero (by simp)))
    · cases h
  · split at h
    · injection h with h
      rw [h] at hp; exact Nat.ne_of_gt hp
    · cases h

/-! The Dec. -/
structure D where
  neg : Bool
  c : Nat
  e : Int
deriving DecidableEq

def D0 : D := ⟨false, 0, 0⟩
/-- It can be held. -/
structure D.Fits (d : D) : Prop where
  c : d.c < Two64
  lo : -9223372036854775808 ≤ d.e
  hi : d.e ≤ 9223372036854775807

def mkD (neg : Bool) (p : Nat × Int) : D := ⟨if p.1 = 0 then false else neg, p.1, p.2⟩
def normal (d : D) : Option D := (norm d.c d.e).map (mkD d.neg)
/-- Check's number. -/
def check (d : D) : Int := if d.c ≠ 0 ∧ (d.e < -18 ∨ 18 < d.e) then 10 else if normal d = some d then 0 else 21

theorem check_cases (d : D) : check d = 0 ∨ check d = 10 ∨ check d = 21 := by
  unfold check; split
  · exact Or.inr (Or.inl rfl)
  · split
    · exact Or.inl rfl
    · exact Or.inr (Or.inr rfl)

theorem D.ext' {a b : D} (h1 : a.neg = b.neg) (h2 : a.c = b.c) (h3 : a.e = b.e) : a = b := by cases a; cases b; simp_all

/-- A Dec is in its one form. -/
def D.One (d : D) : Prop := Go.Proofs.YtmaiggoinjldpaaDoor.Dc.One d.c d.e ∧ (d.c = 0 → d.neg = false)

theorem normal_one {d n : D} (h : normal d = some n) : n.One := by
  unfold normal at h
  cases hn : norm d.c d.e with
  | none => rw [hn] at h; cases h
  | some p =>
    rw [hn] at h
    simp only [Option.map_some, Option.some.injEq] at h
    subst h
    exact ⟨norm_one hn, fun h0 => by simp only [mkD] at h0 ⊢; rw [if_pos h0]⟩
theorem normal_fix {d : D} (h : d.One) : normal d = some d := by
  unfold normal
  rw [norm_fix h.1]
  simp only [Option.map_some, mkD]
  congr 1
  cases d with
  | mk n c e => simp only [D.mk.injEq, and_true]; split; exact (h.2 (by assumption)).symm; rfl
theorem check_ok {d : D} : check d = 0 ↔ d.One := by
  constructor
  · intro h
    unfold check at h
    split at h
    · omega
    · split at h
      · rename_i hn; exact normal_one hn
      · omega
  · intro h
    unfold check
    rw [if_neg ?_, if_pos (normal_fix h)]
    rcases h.1 with ⟨h0, _⟩ | ⟨h0, h1, h2, _⟩
    · simp [h0]
    · omega
theorem D0_one : D0.One := ⟨Or.inl ⟨rfl, rfl⟩, fun _ => rfl⟩
theorem D.One.fits {d : D} (h : d.One) : d.Fits := by
  rcases h.1 with ⟨h0, h1⟩ | ⟨h0, h1, h2, h3, h4⟩
  · exact ⟨by rw [h0]; decide, by omega, by omega⟩
  · exact ⟨h4, by omega, by omega⟩
theorem normal_zero {d : D} (h : d.c = 0) : normal d = some D0 := by
  unfold normal; rw [h, norm_zero]; rfl
end Go.Proofs.YtmaiggoinjldpaaDoor.Dc

/-
  A tag of a slice. No statement of the seat is proved here.
-/
namespace Go.Proofs.YtmaiggoinjldpaaDoor
open Go.RowKit

theorem Tags.get {w : World} {A : Option Addr} {ts : List Tg} {i : Nat} (h : Tags w A ts) (hi : i < ts.length) : ∃ b off s t, A = some ⟨b, off, none⟩ ∧ w.cell? ⟨b, off + i * 2, none⟩ = some (.string s) ∧ w.cell? ⟨b, off + i * 2 + 1, none⟩ = some (.string t) ∧ Str s ts[i].1 ∧ Str t ts[i].2 := by
  obtain ⟨b, off, e, h0, h1⟩ := h.at_ hi
  exact ⟨b, off, _, _, e, h0, h1, Str.mk _, Str.mk _⟩
end Go.Proofs.YtmaiggoinjldpaaDoor

/-
  How a text is gone through, and the text of a number, as plain functions. Nothing of the program.
-/
namespace Go.Proofs.YtmaiggoinjldpaaDoor.Dc

/-! A text is gone through. -/
inductive Scan where
  | bad (code : Int) (at_ : Nat)
  | ok (below : Bool) (v p : Nat)

def scan (n : Nat) (below point wanted : Bool) (v p : Nat) : List UInt8 → Scan
  | [] => if wanted then .bad 11 n else .ok below v p
  | b :: r =>
    if 48 ≤ b.toNat ∧ b.toNat ≤ 57 then scan (n + 1) below point false (10 * v + (b.toNat - 48)) (if point then p + 1 else p) r
    else if b.toNat = 46 ∧ wanted = false ∧ point = false then scan (n + 1) below true true v p r
    else if b.toNat = 45 ∧ n = 0 then scan (n + 1) true point wanted v p r
    else .bad 14 n

def told : Scan → D × Int × Int
  | .bad code n => (D0, code, n)
  | .ok below v p => match norm v (-(p : Int)) with
    | none => (D0, 10, 0)
    | some q => (mkD below q, 0, 0)
def parse (l : List UInt8) : D × Int × Int := told (scan 0 false false true 0 0 l)

theorem scan_digs {l : List UInt8} (h : Digs l) (hne : l ≠ []) (n : Nat) (below point wanted : Bool) (v p : Nat) (r : List UInt8) :
    scan n below point wanted v p (l ++ r) = scan (n + l.length) below point false (valF v l) (if point then p + l.length else p) r := by
  induction l generalizing n wanted v p with
  | nil => exact absurd rfl hne
  | cons b t ih =>
    have hb := h b (by simp)
    have ht : Digs t := fun x hx => h x (by simp [hx])
    rw [List.cons_append, scan, if_pos (show 48 ≤ b.toNat ∧ b.toNat ≤ 57 from hb)]
    by_cases h0 : t = []
    · subst h0; cases point <;> simp [valF]
    · rw [ih ht h0, List.length_cons, valF_cons]
      cases point <;> simp <;> congr 1 <;> omega

/-- The text of a number. -/
def pointed (row : List UInt8) (k : Nat) : List UInt8 :=
  (List.replicate (k + 1 - row.length) 48 ++ row).take ((List.replicate (k + 1 - row.length) 48 ++ row).length - k) ++ [46] ++ (List.replicate (k + 1 - row.length) 48 ++ row).drop ((List.replicate (k + 1 - row.length) 48 ++ row).length - k)
def sized (c : Nat) (e : Int) : List UInt8 := if e < 0 then pointed (Lib.decDigits c) (-e).toNat else Lib.decDigits c ++ List.replicate e.toNat 48
def text (d : D) : List UInt8 := (if d.neg then [45] else []) ++ sized d.c d.e

/-- Digits, and, or not, a point and digits. -/
theorem scan_whole {l : List UInt8} (h : Digs l) (hne : l ≠ []) (n : Nat) (below : Bool) : scan n below false true 0 0 l = .ok below (val l) 0 := by
  have := scan_digs h hne n below false true 0 0 []
  rw [List.append_nil] at this
  rw [this]; simp [scan, val]
theorem scan_point {a b : List UInt8} (ha : Digs a) (hna : a ≠ []) (hb : Digs b) (hnb : b ≠ []) (n : Nat) (below : Bool) :
    scan n below false true 0 0 (a ++ [46] ++ b) = .ok below (val (a ++ b)) b.length := by
  rw [List.append_assoc, scan_digs ha hna]
  simp only [List.cons_append, List.nil_append, scan]
  rw [if_neg (by decide), if_pos (by simp)]
  have := scan_digs hb hnb (n + a.length + 1) below true true (valF 0 a) 0 []
  rw [List.append_nil] at this
  simp only [Bool.false_eq_true, ite_false]
  rw [this]; simp [scan, val, valF_append]

/-- How sized numbers are gone through, with zeros ahead and behind. -/
theorem sized_split (c : Nat) (e : Int) : (0 ≤ e → Digs (sized c e) ∧ sized c e ≠ [] ∧ val (sized c e) = c * 10 ^ e.toNat) ∧
    (e < 0 → ∃ a b, sized c e = a ++ [46] ++ b ∧ Digs a ∧ a ≠ [] ∧ Digs b ∧ b.length = (-e).toNat ∧ val (a ++ b) = c) := by
  obtain ⟨hv, hd⟩ := val_decDigits c
  constructor
  · intro he
    unfold sized
    rw [if_neg (by omega)]
    refine ⟨hd.append (digs_zeros _), fun h => decDigits_ne c (List.append_eq_nil_iff.1 h).1, by rw [val_zeros_behind, hv]⟩
  · intro he
    obtain ⟨k, hk⟩ : ∃ k : Nat, (-e).toNat = k := ⟨_, rfl⟩
    unfold sized pointed
    rw [if_pos he, hk]
    obtain ⟨row, hrow⟩ : ∃ row, List.replicate (k + 1 - (Lib.decDigits c).length) 48 ++ Lib.decDigits c = row := ⟨_, rfl⟩
    have hlen : k + 1 ≤ row.length := by rw [← hrow]; simp; omega
    have hval : val row = c := by rw [← hrow, val_zeros_ahead, hv]
    have hdig : Digs row := by rw [← hrow]; exact (digs_zeros _).append hd
    rw [hrow]
    refine ⟨row.take (row.length - k), row.drop (row.length - k), rfl, ?_, ?_, ?_, ?_, ?_⟩
    · intro x hx; exact hdig x (List.mem_of_mem_take hx)
    · intro h; have := congrArg List.length h; simp at this; omega
    · intro x hx; exact hdig x (List.mem_of_mem_drop hx)
    · simp; omega
    · rw [List.take_append_drop, hval]
end Go.Proofs.YtmaiggoinjldpaaDoor.Dc

/-
  Digits of one length are in the order of their numbers. Nothing of the program.
-/
namespace Go.Proofs.YtmaiggoinjldpaaDoor

theorem less_val : ∀ {a b : List UInt8}, Digs a → Digs b → a.length = b.length → Op.bytesLess a b = decide (val a < val b)
  | [], [], _, _, _ => by simp [Op.bytesLess]
  | x :: a, y :: b, ha, hb, hl => by
    have hx := ha x (by simp)
    have hy := hb y (by simp)
    have ha' : Digs a := fun z hz => ha z (by simp [hz])
    have hb' : Digs b := fun z hz => hb z (by simp [hz])
    have hl' : a.length = b.length := by simpa using hl
    have l1 := val_lt ha'
    have l2 := val_lt hb'
    rw [hl'] at l1
    unfold Dig at hx hy
    have hp : 0 < 10 ^ b.length := Nat.pos_of_ne_zero (by simp)
    rw [Op.bytesLess, less_val ha' hb' hl', val_cons, val_cons, hl']
    generalize 10 ^ b.length = p at *
    rcases Nat.lt_trichotomy x.toNat y.toNat with h | h | h
    · have h1 : decide (x < y) = true := by simpa [UInt8.lt_iff_toNat_lt] using h
      have h2 : (x.toNat - 48 + 1) * p ≤ (y.toNat - 48) * p := Nat.mul_le_mul_right _ (by omega)
      rw [Nat.add_mul, Nat.one_mul] at h2
      rw [h1]
      simp
      omega
    · obtain rfl : x = y := UInt8.toNat_inj.1 h
      simp
    · have h1 : decide (x < y) = false := by simp [UInt8.lt_iff_toNat_lt]; omega
      have h3 : (x == y) = false := by
        have : x ≠ y := fun e => by rw [e] at h; omega
        simp [this]
      have h2 : (y.toNat - 48 + 1) * p ≤ (x.toNat - 48) * p := Nat.mul_le_mul_right _ (by omega)
      rw [Nat.add_mul, Nat.one_mul] at h2
      rw [h1, h3]
      simp
      omega
end Go.Proofs.YtmaiggoinjldpaaDoor

/-
  How the document's Make goes by digits: the same numbers. Nothing of the program.
-/
namespace Go.Proofs.YtmaiggoinjldpaaDoor.Dc

/-- The zeros ahead are taken off. -/
def bare : List UInt8 → List UInt8
  | [] => []
  | b :: r => if b.toNat = 48 then bare r else b :: r
theorem bare_cons (b : UInt8) (r : List UInt8) : bare (b :: r) = if b.toNat = 48 then bare r else b :: r := rfl
theorem val_bare (l : List UInt8) : val (bare l) = val l := by
  induction l with
  | nil => rfl
  | cons b r ih =>
    rw [bare_cons]
    split
    · rename_i h; rw [ih, val_cons, h]; simp
    · rfl
theorem bare_digs {l : List UInt8} (h : Digs l) : Digs (bare l) := by
  induction l with
  | nil => exact h
  | cons b r ih =>
    rw [bare_cons]
    split
    · exact ih fun x hx => h x (by simp [hx])
    · exact h
theorem bare_length (l : List UInt8) : (bare l).length ≤ l.length := by
  induction l with
  | nil => exact Nat.le_refl _
  | cons b r ih => rw [bare_cons]; split <;> simp <;> omega
theorem bare_head (l : List UInt8) : bare l = [] ∨ ∃ b r, bare l = b :: r ∧ b.toNat ≠ 48 := by
  induction l with
  | nil => exact Or.inl rfl
  | cons b r ih =>
    rw [bare_cons]
    split
    · exact ih
    · rename_i h; exact Or.inr ⟨b, r, rfl, h⟩
/-- Digits of which the first one is not 0. -/
def Lead (l : List UInt8) : Prop := Digs l ∧ ∃ b r, l = b :: r ∧ b.toNat ≠ 48
theorem Lead.pos {l : List UInt8} (h : Lead l) : val l ≠ 0 := by
  obtain ⟨hd, b, r, rfl, hb⟩ := h
  have := val_ge (r := r) (hd b (by simp)) hb
  have hp : 0 < 10 ^ r.length := Nat.pos_of_ne_zero (by simp)
  omega
theorem Lead.ne {l : List UInt8} (h : Lead l) : l ≠ [] := by obtain ⟨_, b, r, rfl, _⟩ := h; simp
theorem Lead.snoc {l : List UInt8} (h : Lead l) : Lead (l ++ [48]) := by
  obtain ⟨hd, b, r, rfl, hb⟩ := h
  exact ⟨hd.append (digs_zeros 1), b, r ++ [48], rfl, hb⟩
/-- The last digit. -/
theorem Lead.last {l : List UInt8} (h : Lead l) : ∃ a x, l = a ++ [x] ∧ Dig x := by
  have hne := h.ne
  refine ⟨l.dropLast, l.getLast hne, (List.dropLast_concat_getLast hne).symm, h.1 _ (List.getLast_mem hne)⟩
theorem Lead.cut {a : List UInt8} (h : Lead (a ++ [48])) : Lead a := by
  obtain ⟨hd, b, r, hl, hb⟩ := h
  refine ⟨hd.left, ?_⟩
  cases a with
  | nil =>
    injection hl with h1 h2
    rw [← h1] at hb
    exact absurd rfl hb
  | cons c t =>
    injection hl with h1 h2
    exact ⟨c, t, rfl, by rw [h1]; exact hb⟩
theorem val_last {a : List UInt8} {x : UInt8} (hx : Dig x) : val (a ++ [x]) % 10 = 0 ↔ x.toNat = 48 := by
  rw [val_snoc]; unfold Dig at hx; omega

/-- Digits that fit. -/
def most : List UInt8 := [49, 56, 52, 52, 54, 55, 52, 52, 48, 55, 51, 55, 48, 57, 53, 53, 49, 54, 49, 53]
theorem most_digs : Digs most ∧ most.length = 20 ∧ val most = 18446744073709551615 := by
  refine ⟨?_, rfl, by decide⟩
  intro x hx
  have key : ∀ y ∈ most, 48 ≤ y.toNat ∧ y.toNat ≤ 57 := by decide
  exact key x hx
/-- Fits tells whether there is room. -/
def fitsL (l : List UInt8) : Bool := decide (l.length < 20) || (l.length == 20 && (Op.bytesLess l most || l == most))
theorem fits_is {l : List UInt8} (h : Lead l) : fitsL l = decide (val l < Two64) := by
  obtain ⟨hm, hml, hmv⟩ := most_digs
  have hlt := val_lt h.1
  have hge : 10 ^ (l.length - 1) ≤ val l := by
    obtain ⟨hd, b, r, rfl, hb⟩ := h
    exact val_ge (r := r) (hd b (by simp)) hb
  unfold fitsL
  rcases Nat.lt_trichotomy l.length 20 with hl | hl | hl
  · have h1 : 10 ^ l.length ≤ 10 ^ 19 := Nat.pow_le_pow_right (by decide) (by omega)
    have h2 := ten_two64
    simp [hl]
    omega
  · have he : (l == most) = decide (val l = val most) := by
      by_cases hv : val l = val most
      · rw [val_inj h.1 hm (by omega) hv]; simp
      · have : l ≠ most := fun e => hv (by rw [e])
        simp [this, hv]
    rw [less_val h.1 hm (by omega), he, hmv, hl]
    unfold Two64
    simp
    by_cases hv : val l < 18446744073709551616
    · simp [hv]; omega
    · simp [hv]; omega
  · have h1 : 10 ^ 20 ≤ 10 ^ (l.length - 1) := Nat.pow_le_pow_right (by decide) (by omega)
    have h2 := two64_ten
    have e1 : decide (l.length < 20) = false := by simp; omega
    have e2 : (l.length == 20) = false := by simp; omega
    rw [e1, e2]
    simp
    omega
end Go.Proofs.YtmaiggoinjldpaaDoor.Dc

/-
  A text is parsed as what it is of. Nothing of the program.
-/
namespace Go.Proofs.YtmaiggoinjldpaaDoor.Dc

def sgn (neg : Bool) : List UInt8 := if neg then [45] else []

theorem told_is (below : Bool) (v p : Nat) : told (.ok below v p) = match norm v (-(p : Int)) with | none => (D0, 10, 0) | some q => (mkD below q, 0, 0) := rfl
theorem scan_sign (neg : Bool) {body : List UInt8} (_h : ∃ b r, body = b :: r ∧ Dig b) : ∃ n, scan 0 false false true 0 0 (sgn neg ++ body) = scan n neg false true 0 0 body := by
  cases neg
  · exact ⟨0, rfl⟩
  · refine ⟨1, ?_⟩
    show scan 0 false false true 0 0 (45 :: body) = _
    rw [scan, if_neg (by decide), if_neg (by decide), if_pos ⟨by decide, rfl⟩]
theorem digs_first {l : List UInt8} (h : Digs l) (hne : l ≠ []) : ∃ b r, l = b :: r ∧ Dig b := by
  cases l with
  | nil => exact absurd rfl hne
  | cons b r => exact ⟨b, r, rfl, h b (by simp)⟩
theorem parse_whole (neg : Bool) {l : List UInt8} (h : Digs l) (hne : l ≠ []) : parse (sgn neg ++ l) = told (.ok neg (val l) 0) := by
  obtain ⟨n, hn⟩ := scan_sign neg (digs_first h hne)
  unfold parse
  rw [hn, scan_whole h hne]
theorem parse_point (neg : Bool) {a b : List UInt8} (ha : Digs a) (hna : a ≠ []) (hb : Digs b) (hnb : b ≠ []) : parse (sgn neg ++ (a ++ [46] ++ b)) = told (.ok neg (val (a ++ b)) b.length) := by
  obtain ⟨x, r, hx, hd⟩ := digs_first ha hna
  obtain ⟨n, hn⟩ := scan_sign neg (body := a ++ [46] ++ b) ⟨x, r ++ [46] ++ b, by rw [hx]; rfl, hd⟩
  unfold parse
  rw [hn, scan_point ha hna hb hnb]

theorem mkD_self {d : D} (h : d.One) : mkD d.neg (d.c, d.e) = d := by
  unfold mkD
  cases d with
  | mk n c e => simp only [D.mk.injEq, and_true]; split; exact (h.2 (by assumption)).symm; rfl

theorem told_fix {d : D} (h : d.One) {v p : Nat} (hv : norm v (-(p : Int)) = norm d.c d.e) : told (.ok d.neg v p) = (d, 0, 0) := by
  rw [told_is, hv, norm_fix h.1]
  show (mkD d.neg (d.c, d.e), _, _) = _
  rw [mkD_self h]

/-- Zeros ahead and behind are nothing. -/
theorem parse_zeros {d : D} (h : d.One) (i j : Nat) : parse (sgn d.neg ++ (List.replicate i 48 ++ sized d.c d.e ++ (if 0 ≤ d.e ∧ 0 < j then [46] else []) ++ List.replicate j 48)) = (d, 0, 0) := by
  by_cases he : 0 ≤ d.e
  · obtain ⟨hd, hne, hv⟩ := (sized_split d.c d.e).1 he
    by_cases hj : 0 < j
    · rw [if_pos ⟨he, hj⟩, parse_point d.neg ((digs_zeros i).append hd) (by simp [hne]) (digs_zeros j) (by intro hh; have := congrArg List.length hh; simp at this; omega)]
      refine told_fix h ?_
      rw [val_zeros_behind, val_zeros_ahead, hv, norm_pow, norm_pow]
      congr 1
      simp; omega
    · rw [if_neg (by omega), show j = 0 by omega]
      simp only [List.replicate_zero, List.append_nil]
      rw [parse_whole d.neg ((digs_zeros i).append hd) (by simp [hne])]
      refine told_fix h ?_
      rw [val_zeros_ahead, hv, norm_pow]
      congr 1
      simp; omega
  · obtain ⟨a, b, hs, ha, hna, hb, hlen, hv⟩ := (sized_split d.c d.e).2 (by omega)
    have hnb : b ++ List.replicate j 48 ≠ [] := by intro hh; have h2 := congrArg List.length hh; rw [List.length_append, List.length_replicate, hlen, List.length_nil] at h2; omega
    rw [if_neg (by omega), hs]
    have e : List.replicate i 48 ++ (a ++ [46] ++ b) ++ [] ++ List.replicate j 48 = (List.replicate i 48 ++ a) ++ [46] ++ (b ++ List.replicate j 48) := by simp
    rw [e, parse_point d.neg ((digs_zeros i).append ha) (by simp [hna]) (hb.append (digs_zeros j)) hnb]
    refine told_fix h ?_
    have e2 : List.replicate i 48 ++ a ++ (b ++ List.replicate j 48) = List.replicate i 48 ++ ((a ++ b) ++ List.replicate j 48) := by simp
    rw [e2, val_zeros_ahead, val_zeros_behind, hv, norm_pow]
    congr 1
    simp; omega
theorem text_sgn (d : D) : text d = sgn d.neg ++ sized d.c d.e := rfl
theorem parse_text {d : D} (h : d.One) : parse (text d) = (d, 0, 0) := by
  have := parse_zeros h 0 0
  simpa [text_sgn] using this
/-- A whole number with zeros at its end is so many tens. -/
theorem parse_tens {d : D} (h : d.One) (he : 0 ≤ d.e) (h0 : d.c ≠ 0) (j : Nat) (hj : d.e + j ≤ 18) : parse (sgn d.neg ++ (sized d.c d.e ++ List.replicate j 48)) = (⟨d.neg, d.c, d.e + j⟩, 0, 0) := by
  obtain ⟨hd, hne, hv⟩ := (sized_split d.c d.e).1 he
  rw [parse_whole d.neg (hd.append (digs_zeros j)) (by simp [hne])]
  have h1 : (⟨d.neg, d.c, d.e + j⟩ : D).One := by
    refine ⟨?_, fun hc => absurd hc h0⟩
    rcases h.1 with ⟨k, _⟩ | ⟨k1, k2, k3, k4, k5⟩
    · exact absurd k h0
    · exact Or.inr ⟨k1, by show -18 ≤ d.e + j; omega, hj, by show d.c % 10 ≠ 0 ∨ d.e + j = 18; omega, k5⟩
  refine told_fix h1 ?_
  rw [val_zeros_behind, hv, norm_pow, norm_pow]
  congr 1
  simp; omega

theorem pointed_length (row : List UInt8) (k : Nat) : (pointed row k).length ≤ max row.length (k + 1) + 1 := by
  unfold pointed
  simp
  omega
theorem text_length {d : D} (h : d.One) : (text d).length ≤ 39 := by
  have h20 := decDigits_len20 h.fits.c
  have hn := (by rcases h.1 with ⟨h0, h1⟩ | ⟨h0, h1, h2, h3, h4⟩ <;> omega : -18 ≤ d.e ∧ d.e ≤ 18)
  rw [text_sgn, List.length_append]
  have h1 : (sgn d.neg).length ≤ 1 := by unfold sgn; split <;> simp
  have h2 : (sized d.c d.e).length ≤ 38 := by
    unfold sized
    split
    · have := pointed_length (Lib.decDigits d.c) (-d.e).toNat
      omega
    · simp; omega
  omega

theorem scan_bad (l : List UInt8) : ∀ (n : Nat) (below point wanted : Bool) (v p : Nat) (c : Int) (k : Nat), scan n below point wanted v p l = .bad c k → (c = 11 ∨ c = 14) ∧ k ≤ n + l.length := by
  induction l with
  | nil =>
    intro n below point wanted v p c k h
    unfold scan at h
    split at h
    · injection h with h1 h2; exact ⟨Or.inl h1.symm, by simp; omega⟩
    · cases h
  | cons b r ih =>
    intro n below point wanted v p c k h
    rw [scan] at h
    split at h
    · obtain ⟨h1, h2⟩ := ih _ _ _ _ _ _ _ _ h; exact ⟨h1, by simp; omega⟩
    · split at h
      · obtain ⟨h1, h2⟩ := ih _ _ _ _ _ _ _ _ h; exact ⟨h1, by simp; omega⟩
      · split at h
        · obtain ⟨h1, h2⟩ := ih _ _ _ _ _ _ _ _ h; exact ⟨h1, by simp; omega⟩
        · injection h with h1 h2; exact ⟨Or.inr h1.symm, by simp; omega⟩
/-- What Parse tells: a number in its one form, or a fault in the text. -/
theorem parse_cases (l : List UInt8) : ((parse l).1.One ∧ (parse l).2 = (0, 0)) ∨ ((parse l).1 = D0 ∧ (parse l).2.1 ≠ 0 ∧ 0 ≤ (parse l).2.2 ∧ (parse l).2.2 ≤ l.length) := by
  unfold parse
  cases hs : scan 0 false false true 0 0 l with
  | bad c k =>
    obtain ⟨h1, h2⟩ := scan_bad l _ _ _ _ _ _ _ _ hs
    exact Or.inr ⟨rfl, by show c ≠ 0; omega, by show (0 : Int) ≤ (k : Int); omega, by show (k : Int) ≤ l.length; omega⟩
  | ok below v p =>
    rw [told_is]
    cases hn : norm v (-(p : Int)) with
    | none => exact Or.inr ⟨rfl, by show (10 : Int) ≠ 0; omega, by show (0 : Int) ≤ 0; omega, by show (0 : Int) ≤ l.length; omega⟩
    | some q =>
      refine Or.inl ⟨⟨norm_one hn, fun h0 => ?_⟩, rfl⟩
      have h0' : q.1 = 0 := h0
      show (if q.1 = 0 then false else below) = false
      rw [if_pos h0']
end Go.Proofs.YtmaiggoinjldpaaDoor.Dc

/-
  The table of the powers of ten, as strconv reads it. No statement of the seat is proved here.
-/
namespace Go.Proofs.YtmaiggoinjldpaaDoor
open Go.RowKit

/-- The table of the powers of ten lies where it was laid. -/
def Tab (w : World) : Prop := Lib.TabIs Tryd.prog w "internal/strconv.uint64pow10" .u64 Lib.pow10Tab

theorem Tab.keep {w w' : World} (h : Tab w) (hb : Below w.heap.size w w') : Tab w' := by
  unfold Tab Lib.TabIs World.var? at *
  cases hg : Tryd.prog.globalNamed "internal/strconv.uint64pow10" with
  | none => simp [hg] at h
  | some g =>
    simp only [hg, Option.bind_some] at h ⊢
    have hlt : g < w.heap.size := by
      rcases Nat.lt_or_ge g w.heap.size with h' | h'
      · exact h'
      · rw [Array.getElem?_eq_none h'] at h; simp at h
    rw [hb.block g hlt]
    exact h
end Go.Proofs.YtmaiggoinjldpaaDoor
