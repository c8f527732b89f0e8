/-
  A tag of a slice. No statement of the seat is proved here.
-/
import Derived.Test.YteffankkelbhiaaTK0
namespace Go.Proofs.Yteffankkelbhiaa
open Go.RowKit

theorem Tags.get {w : World} {A : Option Addr} {ts : List Tg} {i : Nat} (h : Tags w A ts) (hi : i < ts.length) : ∃ b off s t, A = some ⟨b, off, none⟩ ∧ w.cell? ⟨b, off + i * 2, none⟩ = some (.string s) ∧ w.cell? ⟨b, off + i * 2 + 1, none⟩ = some (.string t) ∧ Str s ts[i].1 ∧ Str t ts[i].2 := by
  obtain ⟨b, off, e, h0, h1⟩ := h.at_ hi
  exact ⟨b, off, _, _, e, h0, h1, Str.mk _, Str.mk _⟩
end Go.Proofs.Yteffankkelbhiaa
