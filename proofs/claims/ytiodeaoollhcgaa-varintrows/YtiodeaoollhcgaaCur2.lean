/-
  Contracts of package cur's calls: wrong, Fail, failShort, Peek, Byte. No statement of the seat is proved here.
-/
import Derived.Test.YtiodeaoollhcgaaCur1
import Derived.Test.YtiodeaoollhcgaaRows1
import Derived.Test.YtiodeaoollhcgaaSpec1
namespace Go.Proofs.Ytiodeaoollhcgaa
open Go.RowKit

/-- The row lies at R; a nil one has no room. -/
def Based (R A : Option Addr) (cap : Nat) : Prop := (A = none → cap = 0) ∧ A = R

/-- A Cur at block p, as the state s says, its bytes at R. -/
structure CurOk (R : Option Addr) (w : World) (p : Nat) (s : St) (tr : Option Addr) : Prop where
  is_ : ∃ A cap, CurAt w p A s.bs.length cap s.t s.c s.a tr ∧ Lies w A (by8 s.bs) ∧ Based R A cap ∧ s.bs.length ≤ cap ∧ cap ≤ maxLen
  taken : s.t ≤ s.bs.length
  few : s.bs.length ≤ 1099511627776
  small : ∀ z ∈ s.bs, 0 ≤ z ∧ z < 256

section
variable {R : Option Addr} {w w' : World} {p : Nat} {s : St} {tr : Option Addr}

theorem CurOk.lt (h : CurOk R w p s tr) : p < w.heap.size := by
  obtain ⟨A, cap, h1, _⟩ := h.is_
  exact h1.lt
theorem CurOk.keep (h : CurOk R w p s tr) (hb : Below w.heap.size w w') : CurOk R w' p s tr := by
  obtain ⟨A, cap, h1, h2, h3⟩ := h.is_
  exact ⟨⟨A, cap, h1.keep hb, h2.keep hb, h3⟩, h.2, h.3, h.4⟩
theorem by8_not {bs : List Int} {A : Option Addr} {n cap : Nat} {t c a : Int} : ∀ u ∈ by8 bs, u ∉ [Value.slice A n cap, .int .i64 t, .int .i64 c, .int .i64 a, .pointer tr] := by
  intro u hu
  simp only [by8, List.mem_map] at hu
  obtain ⟨z, _, rfl⟩ := hu
  simp
/-- The fault is set. -/
theorem CurOk.set_fault (h : CurOk R w p s tr) (code at_ : Int) : CurOk R ((w.setCell ⟨p, 2, none⟩ (.int .i64 code)).setCell ⟨p, 3, none⟩ (.int .i64 at_)) p { s with c := code, a := at_ } tr := by
  obtain ⟨A, cap, h1, h2, h3⟩ := h.is_
  refine ⟨⟨A, cap, ?_, ?_, h3⟩, h.2, h.3, h.4⟩
  · exact (h1.set 2 _).set 3 _
  · exact h2.but (((But.refl p w).setCell rfl _).setCell rfl _) h1 by8_not
theorem CurOk.set_taken (h : CurOk R w p s tr) (t : Nat) (ht : t ≤ s.bs.length) : CurOk R (w.setCell ⟨p, 1, none⟩ (.int .i64 t)) p { s with t := t } tr := by
  obtain ⟨A, cap, h1, h2, h3⟩ := h.is_
  refine ⟨⟨A, cap, ?_, ?_, h3⟩, ht, h.3, h.4⟩
  · exact h1.set 1 _
  · exact h2.but ((But.refl p w).setCell rfl _) h1 by8_not
/-- Where its bytes lie, if there are any. -/
theorem CurOk.row_lt (h : CurOk R w p s tr) (h0 : 0 < s.bs.length) {x : Addr} (hx : R = some x) : x.block < w.heap.size := by
  obtain ⟨A, cap, h1, h2, h3, h4⟩ := h.is_
  obtain ⟨b, off, e, hc⟩ := h2.at_ (i := 0) (by rw [by8_length]; exact h0)
  rw [h3.2, hx] at e
  injection e with e
  subst e
  exact cell_lt hc
/-- A block that is not the Cur's own, nor that of its bytes, may change. -/
theorem CurOk.far (h : CurOk R w p s tr) {g : Nat} (hg : ∀ x, R = some x → x.block ≠ g) (hp : p ≠ g) (hb : But g w w') : CurOk R w' p s tr := by
  obtain ⟨A, cap, h1, h2, h3, h4⟩ := h.is_
  refine ⟨⟨A, cap, Box.but h1 hb hp, ?_, h3, h4⟩, h.2, h.3, h.4⟩
  intro i u hu
  obtain ⟨b, off, e, hc⟩ := h2 i u hu
  refine ⟨b, off, e, ?_⟩
  have hl := hg _ (h3.2.symm.trans e)
  have hl2 := cell_lt hc
  exact (World.cell?_of_block (a := ⟨b, off + i, none⟩) (hb.block b hl2 hl)).trans hc
theorem CurOk.same (h : CurOk R w p s tr) (hs : Same w w') : CurOk R w' p s tr := h.keep hs.below

theorem wrong_calls (h : CurOk R w p s tr) :
    Calls Try.prog 33 #[.pointer (some ⟨p, 0, none⟩)] w fun e w' => e = .returned (.bool (s.c != 0)) ∧ Below w.heap.size w w' := by
  obtain ⟨A, cap, h1, _⟩ := h.is_
  have hfd := fault_code
  go_enter Try.func33, Try.ntmps33
  go_wp2_with (go_at_call 22; refine (fault_calls h1).mono ?_; rintro e w' ⟨rfl, hb⟩)
  go_ret
  exact ⟨rfl, hb⟩

theorem wrong_nil (w : World) :
    Calls Try.prog 33 #[.pointer none] w fun e w' => e = .returned (.bool true) ∧ Below w.heap.size w w' := by
  have hfd := fault_code
  go_enter Try.func33, Try.ntmps33
  go_wp2_with (go_at_call 22; refine (fault_nil w).mono ?_; rintro e w' ⟨rfl, hb⟩)
  go_ret
  exact ⟨rfl, hb⟩

/-- What a call leaves that hands back nothing: the Cur's new state, all else as it was. -/
def Turns (R : Option Addr) (w : World) (p : Nat) (s' : St) (tr : Option Addr) (e : Ending) (w' : World) : Prop :=
  e = .returned (.tuple #[]) ∧ CurOk R w' p s' tr ∧ But p w w'

theorem fail_calls (h : CurOk R w p s tr) (code at_ : Int) :
    Calls Try.prog 20 #[.pointer (some ⟨p, 0, none⟩), .int .i64 code, .int .i64 at_] w (Turns R w p (s.fail code at_) tr) := by
  have hw := wrong_calls h
  by_cases hc : s.c = 0
  · have hc1 : (s.c != 0) = false := by simp [hc]
    rw [hc1] at hw
    by_cases hk : code = 0
    · have hk1 : (code == 0) = true := by simp [hk]
      have hf : s.fail code at_ = s := by simp [St.fail, hk]
      rw [hf]
      have Hw := Lib.hid hw
      clear hw hf hc hc1 hk
      go_enter Try.func20, Try.ntmps20
      go_wp2_with (go_at_call 33; refine Hw.out.mono ?_; rintro e w' ⟨rfl, hb⟩)
      refine bodyPost_ret (results_none rfl _ _ _) rfl ?_
      exact ⟨rfl, h.keep hb, .of_below hb⟩
    · have hk1 : (code == 0) = false := by simp [hk]
      have hf : s.fail code at_ = { s with c := code, a := at_ } := by simp [St.fail, hk, hc]
      rw [hf]
      have Hw := Lib.hid hw
      clear hw hf hc hc1 hk
      go_enter Try.func20, Try.ntmps20
      go_wp2_with (go_at_call 33; refine Hw.out.mono ?_; rintro e w' ⟨rfl, hb⟩; have ⟨A, cap, h1, _⟩ := (h.keep hb).is_; have h2 := h1.cell 2; have h3 := h1.cell 3; have f2 := h1.frozen 2; have f3 := h1.frozen 3; clear h1)
      go_end0
      exact ⟨rfl, (h.keep hb).set_fault _ _, ((But.of_below hb).set 2 _).set 3 _⟩
  · have hc1 : (s.c != 0) = true := by simp [hc]
    rw [hc1] at hw
    have hf : s.fail code at_ = s := by simp [St.fail, hc]
    rw [hf]
    have Hw := Lib.hid hw
    clear hw hf hc hc1
    go_enter Try.func20, Try.ntmps20
    go_wp2_with (go_at_call 33; refine Hw.out.mono ?_; rintro e w' ⟨rfl, hb⟩)
    refine bodyPost_ret (results_none rfl _ _ _) rfl ?_
    exact ⟨rfl, h.keep hb, .of_below hb⟩
end
end Go.Proofs.Ytiodeaoollhcgaa
