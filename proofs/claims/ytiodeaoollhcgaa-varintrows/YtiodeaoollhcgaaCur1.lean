/-
  Contracts of package cur's calls that look: At, Left, Fault, wrong. No statement of the seat is proved here.
-/
import Derived.Test.YtiodeaoollhcgaaChecked
import Derived.Test.YtiodeaoollhcgaaMem
namespace Go.Proofs.Ytiodeaoollhcgaa
open Go.RowKit

/-- A Cur at block p: its bytes' slice, how many were taken, its fault, its trial. -/
def CurAt (w : World) (p : Nat) (A : Option Addr) (n cap : Nat) (t c a : Int) (tr : Option Addr) : Prop :=
  Box w p 57 [.slice A n cap, .int .i64 t, .int .i64 c, .int .i64 a, .pointer tr]

variable {w : World} {p n cap : Nat} {A : Option Addr} {t c a : Int} {tr : Option Addr}

theorem fault_code (x y : Value) (w : World) : (Instr.field 40 (.agg #[x, y]) 0).run Try.prog w = .ok x w := by kernel_rfl
theorem fault_at (x y : Value) (w : World) : (Instr.field 40 (.agg #[x, y]) 1).run Try.prog w = .ok y w := by kernel_rfl

theorem at_calls (h : CurAt w p A n cap t c a tr) :
    Calls Try.prog 21 #[.pointer (some ⟨p, 0, none⟩)] w fun e w' => e = .returned (.int .i64 t) ∧ w = w' := by
  have h1 : w.cell? ⟨p, 1, none⟩ = some (.int .i64 t) := h.cell 1
  go_enter Try.func21, Try.ntmps21
  go_wp2
  go_ret
  exact ⟨rfl, rfl⟩

theorem at_nil (w : World) :
    Calls Try.prog 21 #[.pointer none] w fun e w' => e = .returned (.int .i64 0) ∧ w = w' := by
  go_enter Try.func21, Try.ntmps21
  go_wp2
  go_ret
  exact ⟨rfl, rfl⟩

theorem left_calls (h : CurAt w p A n cap t c a tr) (ht : 0 ≤ t) (htn : t ≤ n) (hn : n ≤ maxLen) :
    Calls Try.prog 26 #[.pointer (some ⟨p, 0, none⟩)] w fun e w' => e = .returned (.int .i64 (n - t)) ∧ Same w w' := by
  unfold maxLen at hn
  have h0 : w.cell? ⟨p, 0, none⟩ = some (.slice A n cap) := h.cell 0
  have h1 : w.cell? ⟨p, 1, none⟩ = some (.int .i64 t) := h.cell 1
  go_enter Try.func26, Try.ntmps26
  go_wp2
  go_quiet (fail)
  go_wp2
  go_ret
  exact ⟨rfl, .drewN _ _⟩

theorem left_nil (w : World) :
    Calls Try.prog 26 #[.pointer none] w fun e w' => e = .returned (.int .i64 0) ∧ w = w' := by
  go_enter Try.func26, Try.ntmps26
  go_wp2
  go_ret
  exact ⟨rfl, rfl⟩

theorem fault_calls (h : CurAt w p A n cap t c a tr) :
    Calls Try.prog 22 #[.pointer (some ⟨p, 0, none⟩)] w fun e w' => e = .returned (.agg #[.int .i64 c, .int .i64 a]) ∧ Below w.heap.size w w' := by
  have h2 : w.cell? ⟨p, 2, none⟩ = some (.int .i64 c) := h.cell 2
  have h3 : w.cell? ⟨p, 3, none⟩ = some (.int .i64 a) := h.cell 3
  have hlt := h.lt
  go_enter Try.func22, Try.ntmps22
  go_wp2
  exact bodyPost_ret (v := .agg #[.int .i64 c, .int .i64 a]) (by simp [results, Try.results22, go_sem]) rfl ⟨rfl, (Below.refl _ _).alloc (Nat.le_refl _) _⟩

theorem fault_nil (w : World) :
    Calls Try.prog 22 #[.pointer none] w fun e w' => e = .returned (.agg #[.int .i64 2, .int .i64 0]) ∧ Below w.heap.size w w' := by
  go_enter Try.func22, Try.ntmps22
  go_wp2
  exact bodyPost_ret (v := .agg #[.int .i64 2, .int .i64 0]) (by simp [results, Try.results22, go_sem]) rfl ⟨rfl, (Below.refl _ _).alloc (Nat.le_refl _) _⟩

end Go.Proofs.Ytiodeaoollhcgaa
