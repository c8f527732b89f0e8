/-
  batch.Equal. No statement of the seat is proved here.
-/
import Derived.Test.YteffankkelbhiaaBNm0
import Derived.Test.YteffankkelbhiaaMFE
namespace Go.Proofs.Yteffankkelbhiaa
open Go.RowKit Go.Shelf
open Dc (D D0)

attribute [local go_sem] Oper.semAt_some

theorem dat_eq {es fs : List En} (hl : es.length = fs.length) (h : ∀ (j : Nat) a b, es[j]? = some a → fs[j]? = some b → a.m = b.m) : datM es = datM fs := by
  apply List.ext_getElem?
  intro i
  unfold datM
  rw [List.getElem?_map, List.getElem?_map]
  rcases Nat.lt_or_ge i es.length with hlt | hge
  · have e1 := List.getElem?_eq_getElem hlt
    have e2 := List.getElem?_eq_getElem (show i < fs.length by omega)
    rw [e1, e2, Option.map_some, Option.map_some, h i _ _ e1 e2]
  · rw [List.getElem?_eq_none hge, List.getElem?_eq_none (by omega)]
theorem dat_ne {es fs : List En} {i : Nat} {a b : En} (ha : es[i]? = some a) (hb : fs[i]? = some b) (hne : a.m ≠ b.m) : datM es ≠ datM fs := fun h => by
  have := congrArg (fun l => l[i]?) h
  unfold datM at this
  simp only [List.getElem?_map, ha, hb, Option.map_some, Option.some.injEq] at this
  exact hne this

/-- What a round of Equal may know. -/
structure EqI (es fs : List En) (b0 : Nat) (v : Value) (pre : List (It es)) (W : World) : Prop where
  bx : Boxed W b0 33 v
  r : Boxed W (b0 + 1) 4 (.bool false)
  all : ∀ y ∈ pre, ∀ b, fs[y.1.1]? = some b → y.1.2.m = b.m
  size : b0 + 3 ≤ W.heap.size
/-- How a round of it is left. -/
structure EqX (es fs : List En) (b0 : Nat) (c : Code) (W : World) : Prop where
  ret : c = .ret
  ne : datM es ≠ datM fs
  r : Boxed W (b0 + 1) 4 (.bool false)

end Go.Proofs.Yteffankkelbhiaa
