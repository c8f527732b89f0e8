/-
  NRefDigits, TOne. No statement of the seat is proved here.
-/
import Derived.Test.YtmaiggoinjldpaaDoorGrDigs
import Derived.Lib.QuietBelow
import Derived.Test.YtmaiggoinjldpaaDoorGrTText
/-
  Contract of the document's Digits. No statement of the seat is proved here.
-/
namespace Go.Proofs.YtmaiggoinjldpaaDoor
open Go.RowKit

theorem ten_part5 (k : Nat) (h : k < 10) : (([48, 49, 50, 51, 52, 53, 54, 55, 56, 57] : List UInt8).drop k).take (k + 1 - k) = [UInt8.ofNat (48 + k)] := by
  have key : ∀ j : Fin 10, (([48, 49, 50, 51, 52, 53, 54, 55, 56, 57] : List UInt8).drop j.val).take (j.val + 1 - j.val) = [UInt8.ofNat (48 + j.val)] := by decide
  exact key ⟨k, h⟩
theorem ten_str5 : Str ⟨#[48, 49, 50, 51, 52, 53, 54, 55, 56, 57]⟩ [48, 49, 50, 51, 52, 53, 54, 55, 56, 57] := rfl

end Go.Proofs.YtmaiggoinjldpaaDoor

/-
  Package tag: textOf; the document's One. No statement of the seat is proved here.
-/
namespace Go.Proofs.YtmaiggoinjldpaaDoor
open Go.RowKit

section
variable {s t : ByteArray} {a : Tg}
theorem txt_nil (h : a.2 = []) : txt a = a.1 := by unfold txt; rw [if_pos h]
theorem txt_some (h : a.2 ≠ []) : txt a = a.1 ++ [58] ++ a.2 := by unfold txt; rw [if_neg h]; simp
theorem str_empty {l : List UInt8} (h : Str t l) {q : Bool} (hq : decide (l = []) = q) : t.toList.isEmpty = q := by
  rw [h.toList, ← hq]
  cases l <;> simp

end
end Go.Proofs.YtmaiggoinjldpaaDoor
