/-
  Contracts of the document's answer for layer 1: Fail, Peek, Take, Byte, Until. No statement of the seat is proved here.
-/
import Derived.Test.YtiipkmfkelbpiaaCur4
namespace Go.Proofs.Ytiipkmfkelbpiaa
open Go.RowKit

/-- The document's Cur at block r, as the state s says; its bytes are those at A. -/
structure RefOk (A : Option Addr) (cap : Nat) (w : World) (r : Nat) (s : St) : Prop where
  is_ : Box w r 32 [.slice A s.bs.length cap, .int .i64 s.t, .int .i64 s.c, .int .i64 s.a]
  lies : Lies w A (by8 s.bs)
  taken : s.t ≤ s.bs.length
  few : s.bs.length ≤ 1099511627776

section
variable {A : Option Addr} {cap : Nat} {w w' : World} {r : Nat} {s : St}

theorem RefOk.lt (h : RefOk A cap w r s) : r < w.heap.size := h.is_.lt
theorem RefOk.keep (h : RefOk A cap w r s) (hb : Below w.heap.size w w') : RefOk A cap w' r s := ⟨h.is_.keep hb, h.lies.keep hb, h.3, h.4⟩
theorem RefOk.same (h : RefOk A cap w r s) (hs : Same w w') : RefOk A cap w' r s := h.keep hs.below
theorem by8_notr {bs : List Int} {A : Option Addr} {n cap : Nat} {t c a : Int} : ∀ u ∈ by8 bs, u ∉ [Value.slice A n cap, .int .i64 t, .int .i64 c, .int .i64 a] := by
  intro u hu
  simp only [by8, List.mem_map] at hu
  obtain ⟨z, _, rfl⟩ := hu
  simp
theorem RefOk.set_fault (h : RefOk A cap w r s) (code at_ : Int) : RefOk A cap ((w.setCell ⟨r, 2, none⟩ (.int .i64 code)).setCell ⟨r, 3, none⟩ (.int .i64 at_)) r { s with c := code, a := at_ } :=
  ⟨(h.is_.set 2 _).set 3 _, h.lies.but (((But.refl r w).set 2 _).set 3 _) h.is_ by8_notr, h.3, h.4⟩
theorem RefOk.set_taken (h : RefOk A cap w r s) (t : Nat) (ht : t ≤ s.bs.length) : RefOk A cap (w.setCell ⟨r, 1, none⟩ (.int .i64 t)) r { s with t := t } :=
  ⟨h.is_.set 1 _, h.lies.but ((But.refl r w).set 1 _) h.is_ by8_notr, ht, h.4⟩

/-- What a call leaves that hands back nothing. -/
def RTurns (A : Option Addr) (cap : Nat) (w : World) (r : Nat) (s' : St) (e : Ending) (w' : World) : Prop :=
  e = .returned (.tuple #[]) ∧ RefOk A cap w' r s' ∧ But r w w'
/-- What a call hands back that takes bytes. -/
def RHandsRow (A : Option Addr) (cap : Nat) (w : World) (r : Nat) (out : List Int) (s' : St) (e : Ending) (w' : World) : Prop :=
  ∃ B capB, e = .returned (.slice B out.length capB) ∧ w'.ownsRow w.heap.size 5 1 (.slice B out.length capB) out.length (by8 out) ∧ RefOk A cap w' r s' ∧ But r w w'
def RHands (A : Option Addr) (cap : Nat) (w : World) (r : Nat) (v : Value) (s' : St) (e : Ending) (w' : World) : Prop :=
  e = .returned v ∧ RefOk A cap w' r s' ∧ But r w w'
def RHandsRowIs (A : Option Addr) (cap : Nat) (w : World) (r : Nat) (out : List Int) (is : Bool) (s' : St) (e : Ending) (w' : World) : Prop :=
  ∃ B capB, e = .returned (.tuple #[.slice B out.length capB, .bool is]) ∧ w'.ownsRow w.heap.size 5 1 (.slice B out.length capB) out.length (by8 out) ∧ RefOk A cap w' r s' ∧ But r w w'

theorem rfail_calls (h : RefOk A cap w r s) (code at_ : Int) :
    Calls Try.prog 33 #[.pointer (some ⟨r, 0, none⟩), .int .i64 code, .int .i64 at_] w (RTurns A cap w r (s.fail code at_)) := by
  have c2 : w.cell? ⟨r, 2, none⟩ = some (.int .i64 s.c) := h.is_.cell 2
  have c3 : w.cell? ⟨r, 3, none⟩ = some (.int .i64 s.a) := h.is_.cell 3
  have f2 := h.is_.frozen 2
  have f3 := h.is_.frozen 3
  by_cases hc : s.c = 0
  · have hc1 : (s.c == 0) = true := by simp [hc]
    by_cases hk : code = 0
    · have hk1 : (code != 0) = false := by simp [hk]
      have hf : s.fail code at_ = s := by simp [St.fail, hk]
      rw [hf]
      clear hf hc hk
      go_enter Try.func33, Try.ntmps33
      go_wp2
      go_end0
      exact ⟨rfl, h, .refl _ _⟩
    · have hk1 : (code != 0) = true := by simp [hk]
      have hf : s.fail code at_ = { s with c := code, a := at_ } := by simp [St.fail, hk, hc]
      rw [hf]
      clear hf hc hk
      go_enter Try.func33, Try.ntmps33
      go_wp2
      go_end0
      exact ⟨rfl, h.set_fault _ _, ((But.refl _ _).set 2 _).set 3 _⟩
  · have hc1 : (s.c == 0) = false := by simp [hc]
    have hf : s.fail code at_ = s := by simp [St.fail, hc]
    rw [hf]
    clear hf hc
    go_enter Try.func33, Try.ntmps33
    go_wp2
    go_end0
    exact ⟨rfl, h, .refl _ _⟩

theorem rpeek_calls (h : RefOk A cap w r s) :
    Calls Try.prog 30 #[.pointer (some ⟨r, 0, none⟩)] w (Peeks w s.peek) := by
  have htk := h.taken
  have hfw := h.few
  have c0 : w.cell? ⟨r, 0, none⟩ = some (.slice A s.bs.length cap) := h.is_.cell 0
  have c1 : w.cell? ⟨r, 1, none⟩ = some (.int .i64 s.t) := h.is_.cell 1
  have c2 : w.cell? ⟨r, 2, none⟩ = some (.int .i64 s.c) := h.is_.cell 2
  by_cases hc : s.c = 0
  · have hc1 : (s.c != 0) = false := by simp [hc]
    by_cases ht : s.t < s.bs.length
    · have hd : ((s.t : Int) == (s.bs.length : Int)) = false := by simp; omega
      have hf : s.peek = (s.bs.getD s.t 0, true) := by simp [St.peek, hc, ht]
      rw [hf]
      generalize hx : s.bs.getD s.t 0 = x
      obtain ⟨b, off, rfl, hcell⟩ := h.lies.at_ (i := s.t) (by rw [by8_length]; exact ht)
      have hcell' : w.cell? ⟨b, off + s.t, none⟩ = some (.int .u8 x) := by rw [hcell, ← hx]; simp [by8, ht]
      have hlt : (s.t : Int) < (s.bs.length : Int) := by omega
      have hge : (0 : Int) ≤ (s.t : Int) := by omega
      clear hf hc hx hcell
      go_enter Try.func30, Try.ntmps30
      go_wp2_with fail
      go_quiet (fail)
      have hs1 : Same w (w.drewN nq) := .drewN _ _
      have c0' := (hs1.cell ⟨r, 0, none⟩).trans c0
      have c1' := (hs1.cell ⟨r, 1, none⟩).trans c1
      have x' := (hs1.cell ⟨b, off + s.t, none⟩).trans hcell'
      have HS1 := Lib.hid hs1
      clear hs1
      generalize w.drewN nq = w1 at c0' c1' x' HS1 ⊢
      clear c0 c1 c2 hcell'
      go_wp2_with fail
      go_quiet (fail)
      go_wp2
      go_ret2
      exact ⟨rfl, HS1.out.below.trans (Same.drewN _ _).below⟩
    · have hd : ((s.t : Int) == (s.bs.length : Int)) = true := by simp; omega
      have hf : s.peek = (0, false) := by simp [St.peek, ht]
      rw [hf]
      clear hf hc ht
      go_enter Try.func30, Try.ntmps30
      go_wp2_with fail
      go_quiet (fail)
      go_wp2
      go_ret2
      exact ⟨rfl, (Same.drewN _ _).below⟩
  · have hc1 : (s.c != 0) = true := by simp [hc]
    have hf : s.peek = (0, false) := by simp [St.peek, hc]
    rw [hf]
    clear hf hc
    go_enter Try.func30, Try.ntmps30
    go_wp2_with fail
    go_quiet (fail)
    go_wp2
    go_ret2
    exact ⟨rfl, (Same.drewN _ _).below⟩
end
end Go.Proofs.Ytiipkmfkelbpiaa
