/-
  Strings of our own: a string whose bytes are a list. No statement of the seat is proved here.
-/
import Derived.Test.YteffankkelbhiaaMem
import Derived.Test.YteffankkelbhiaaChecked
import Derived.Laws.Concat
import Derived.Laws.Strings3
namespace Go.Proofs.Yteffankkelbhiaa
open Go.RowKit

/-- The string's bytes. -/
def Str (s : ByteArray) (l : List UInt8) : Prop := s.data.toList = l

theorem Str.mk (l : List UInt8) : Str ⟨l.toArray⟩ l := by unfold Str; simp
theorem Str.eq {s : ByteArray} {l : List UInt8} (h : Str s l) : s = ⟨l.toArray⟩ := by
  unfold Str at h
  subst h
  cases s; simp
theorem Str.self (s : ByteArray) : Str s s.data.toList := rfl
theorem Str.size {s : ByteArray} {l : List UInt8} (h : Str s l) : s.size = l.length := by rw [h.eq]; simp [ByteArray.size]
theorem Str.append {s t : ByteArray} {a b : List UInt8} (h : Str s a) (k : Str t b) : Str (s ++ t) (a ++ b) := by
  rw [h.eq, k.eq, ByteArray.mk_append_mk]; exact Str.mk _
theorem Str.cut {s : ByteArray} {l : List UInt8} (h : Str s l) (i j : Nat) : Str (s.extract i j) ((l.drop i).take (j - i)) := by
  rw [h.eq, ByteArray.extract_mk]; exact Str.mk _
theorem Str.toList {s : ByteArray} {l : List UInt8} (h : Str s l) : s.toList = l := by rw [ByteArray.toList_eq]; exact h
theorem Str.at_ {s : ByteArray} {l : List UInt8} (h : Str s l) (i : Nat) (hi : i < s.size) (hl : i < l.length) : s[i] = l[i] := by
  have e := h.eq
  subst e
  simp only [ByteArray.getElem_eq_getElem_data]
  simp

section
variable {s : ByteArray} {l : List UInt8}
/-- s[:j], s[i:], s[i:j]. -/
theorem Str.to_ (h : Str s l) {j : Int} (n : Nat) (hn : j = n) (hj : n ≤ l.length) : ∃ t, Str t (l.take n) ∧ ∀ W, (Instr.slice 9 (.string s) none (some (.int .i64 j)) none).run Try.prog W = .ok (.string t) W := by
  subst hn
  have hz := h.size
  refine ⟨s.extract 0 n, by have := h.cut 0 n; simpa using this, fun W => ?_⟩
  rw [run_slice_string_to_if W 9 s .i64 n Try.underlying9, if_pos ⟨by omega, by omega⟩]
  rfl
theorem Str.from_ (h : Str s l) {i : Int} (n : Nat) (hn : i = n) (hi : n ≤ l.length) : ∃ t, Str t (l.drop n) ∧ ∀ W, (Instr.slice 9 (.string s) (some (.int .i64 i)) none none).run Try.prog W = .ok (.string t) W := by
  subst hn
  have hz := h.size
  refine ⟨s.extract n s.size, by have := h.cut n s.size; rw [hz] at this ⊢; rw [List.take_of_length_le (by simp)] at this; exact this, fun W => ?_⟩
  rw [run_slice_string_from_if W 9 s .i64 n Try.underlying9, if_pos ⟨by omega, by omega⟩]
  rfl
theorem Str.part (h : Str s l) {ki kj : IntKind} {i j : Int} (n m : Nat) (hn : i = n) (hm : j = m) (hi : n ≤ m) (hj : m ≤ l.length) : ∃ t, Str t ((l.drop n).take (m - n)) ∧ ∀ W, (Instr.slice 9 (.string s) (some (.int ki i)) (some (.int kj j)) none).run Try.prog W = .ok (.string t) W := by
  subst hn hm
  have hz := h.size
  refine ⟨s.extract n m, h.cut n m, fun W => ?_⟩
  rw [run_slice_string W 9 s ki kj n m Try.underlying9 (by omega) (by omega) (by omega)]
  rfl
/-- s[i]. -/
theorem Str.index (h : Str s l) {i : Int} (n : Nat) (hn : i = n) (hi : n < l.length) : ∀ W, (Instr.index 9 (.string s) (.int .i64 i)).run Try.prog W = .ok (.int .u8 (l[n].toNat : Int)) W := by
  subst hn
  have hz := h.size
  intro W
  rw [run_index_string (h := Try.underlying9), dif_pos ⟨by omega, by omega⟩]
  have := h.at_ n (by omega) hi
  simp only [Int.toNat_natCast]
  rw [this]
end
end Go.Proofs.Yteffankkelbhiaa
