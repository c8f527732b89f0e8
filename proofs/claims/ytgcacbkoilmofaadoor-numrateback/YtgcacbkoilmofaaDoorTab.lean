/-
  The table of the powers of ten, as strconv reads it. No statement of the seat is proved here.
-/
import Derived.Test.YtgcacbkoilmofaaDoorMem
import Derived.Test.YtgcacbkoilmofaaDoorChecked
import Derived.Lib.ItoaMem
namespace Go.Proofs.YtgcacbkoilmofaaDoor
open Go.RowKit

/-- The table of the powers of ten lies where it was laid. -/
def Tab (w : World) : Prop := Lib.TabIs Tryd.prog w "internal/strconv.uint64pow10" .u64 Lib.pow10Tab

theorem Tab.keep {w w' : World} (h : Tab w) (hb : Below w.heap.size w w') : Tab w' := by
  unfold Tab Lib.TabIs World.var? at *
  cases hg : Tryd.prog.globalNamed "internal/strconv.uint64pow10" with
  | none => simp [hg] at h
  | some g =>
    simp only [hg, Option.bind_some] at h ⊢
    have hlt : g < w.heap.size := by
      rcases Nat.lt_or_ge g w.heap.size with h' | h'
      · exact h'
      · rw [Array.getElem?_eq_none h'] at h; simp at h
    rw [hb.block g hlt]
    exact h
end Go.Proofs.YtgcacbkoilmofaaDoor
