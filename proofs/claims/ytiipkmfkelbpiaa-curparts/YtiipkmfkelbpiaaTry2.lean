/-
  Contracts of package cur's let and Try, whatever function they are handed. No statement of the seat is proved here.
-/
import Derived.Test.YtiipkmfkelbpiaaTry1
namespace Go.Proofs.Ytiipkmfkelbpiaa
open Go.RowKit

/-- A panic that a Must of trial r began, and that nobody has recovered. -/
def Stops (r : Nat) (chain : List PanicEntry) : Prop := ∃ older, chain = { v := stop r, recovered := false } :: older ∧ ∀ x ∈ older, x.goexit = false

/-- How a read ends that is called with a Cur at p, whose trial is q: it returns, or is stopped by trial r's Must; 'Post' says what holds then. -/
def ReadEnds (q m : Nat) (Post : Option Nat → World → Prop) (e : Ending) (w' : World) : Prop :=
  Box w' m 63 [.pointer (some ⟨q, 0, none⟩)] ∧ (∃ o, Box w' q 68 [.pointer o]) ∧
  ((e = .returned (.tuple #[]) ∧ Post none w') ∨ ∃ r chain, e = .panicked chain ∧ Stops r chain ∧ (∃ cr, Box w' r 68 cr) ∧ Post (some r) w')

/-- How let ends. -/
def LetEnds (q : Nat) (Post : Option Nat → World → Prop) (e : Ending) (w' : World) : Prop :=
  ∃ w2, w' = w2.setCell ⟨q, 0, none⟩ (.pointer none) ∧ (∃ o, Box w2 q 68 [.pointer o]) ∧
  ((e = .returned (.tuple #[]) ∧ (Post none w2 ∨ Post (some q) w2)) ∨ ∃ r chain, r ≠ q ∧ e = .panicked chain ∧ Stops r chain ∧ (∃ cr, Box w2 r 68 cr) ∧ Post (some r) w2)

section
variable {R : Option Addr} {w w' : World} {p q m : Nat} {s : St} {tr : Option Addr}

theorem drop_all : ∀ older : List PanicEntry, (∀ x ∈ older, x.goexit = false) → older.dropWhile (!·.goexit) = []
  | [], _ => rfl
  | x :: l, h => by
    rw [List.dropWhile_cons]
    simp only [h x (List.mem_cons_self ..), Bool.not_false, if_true]
    exact drop_all l (fun y hy => h y (List.mem_cons_of_mem _ hy))

theorem CurOk.set_trial (h : CurOk R w p s tr) (x : Option Addr) : CurOk R (w.setCell ⟨p, 4, none⟩ (.pointer x)) p s x := by
  obtain ⟨A, cap, h1, h2, h3⟩ := h.is_
  refine ⟨⟨A, cap, ?_, ?_, h3⟩, h.2, h.3, h.4⟩
  · exact h1.set 4 _
  · exact h2.but ((But.refl p w).set 4 _) h1 by8_not
theorem CurOk.alloc (h : CurOk R w p s tr) (o : Obj) : CurOk R (w.alloc o) p s tr := h.keep ((Below.refl _ _).alloc (Nat.le_refl _) o)

theorem let_calls (h : CurOk R w p s none) (F : Nat) (caps : Array Value) (args : Array Value) (hargs : args = #[.pointer (some ⟨p, 0, none⟩)] ++ caps)
    (hF : ∀ w, (callFunc F args).run Try.prog w = .ok (.enter F args) w) (Post : Option Nat → World → Prop)
    (hread : ∀ w1, CurOk R w1 p s (some ⟨w.heap.size, 0, none⟩) → Box w1 w.heap.size 68 [.pointer (some ⟨p, 0, none⟩)] → Box w1 (w.heap.size + 1) 63 [.pointer (some ⟨w.heap.size, 0, none⟩)] → But p w w1 →
      Calls Try.prog F args w1 (ReadEnds w.heap.size (w.heap.size + 1) Post)) :
    Calls Try.prog 34 #[.pointer (some ⟨p, 0, none⟩), .func (.func F) #[] caps] w (LetEnds w.heap.size Post) := by
  obtain ⟨A, cap, h1, _⟩ := h.is_
  have hplt := h.lt
  have c4 : w.cell? ⟨p, 4, none⟩ = some (.pointer none) := h1.cell 4
  have f4 := h1.frozen 4
  have hmf : ∀ (fn : Fn) (first cap : Array Value) (w : World), (Instr.makeFunc fn first cap).run Try.prog w = .ok (.func fn first cap) w := fun _ _ _ _ => rfl
  have hne : p ≠ w.heap.size := by omega
  have HR := Lib.hid hread
  clear hread
  go_enter_defers Try.func34, Try.ntmps34
  go_wp2_with fail
  rw [← hargs, hF]
  have hb0 : But p w (((w.setCell ⟨p, 4, none⟩ (.pointer (some ⟨w.heap.size, 0, none⟩))).alloc (.cells #[.pointer (some ⟨p, 0, none⟩)] 68)).alloc (.cells #[.pointer (some ⟨w.heap.size, 0, none⟩)] 63)) :=
    (((But.refl p w).set 4 _).alloc _).alloc _
  have hsz : (w.setCell ⟨p, 4, none⟩ (.pointer (some ⟨w.heap.size, 0, none⟩))).heap.size = w.heap.size := by simp [World.setCell]
  have b1 := Box.new (w.setCell ⟨p, 4, none⟩ (.pointer (some ⟨w.heap.size, 0, none⟩))) 68 [.pointer (some ⟨p, 0, none⟩)]
  have b2 := Box.new ((w.setCell ⟨p, 4, none⟩ (.pointer (some ⟨w.heap.size, 0, none⟩))).alloc (.cells #[.pointer (some ⟨p, 0, none⟩)] 68)) 63 [.pointer (some ⟨w.heap.size, 0, none⟩)]
  have b3 := ((h.set_trial (some ⟨w.heap.size, 0, none⟩)).alloc (.cells #[.pointer (some ⟨p, 0, none⟩)] 68)).alloc (.cells #[.pointer (some ⟨w.heap.size, 0, none⟩)] 63)
  rw [hsz] at b1
  rw [size_alloc, hsz] at b2
  have b1' := b1.alloc (.cells #[.pointer (some ⟨w.heap.size, 0, none⟩)] 63)
  refine (HR.out _ b3 b1' b2 hb0).mono ?_
  clear b1 b1' b2 b3 hb0 hsz hF hmf c4 f4
  rintro e w2 ⟨hm, ⟨o, hq⟩, ⟨rfl, hP⟩ | ⟨r, chain, rfl, ⟨older, rfl, hold⟩, ⟨cr, hr⟩, hP⟩⟩
  · go_wp2
    refine leaves_cons (f := 39) (args := #[.pointer (some ⟨w.heap.size + 1, 0, none⟩)]) (by simp) (by simp [go_sem]) ?_
    refine (catch_returning hm hq).mono ?_
    rintro e u' w3 ⟨rfl, rfl, rfl⟩
    refine ⟨.tuple #[], by simp [results, Try.results34], w2, rfl, ⟨o, hq⟩, .inl ⟨rfl, .inl hP⟩⟩
  · refine leaves_cons (f := 39) (args := #[.pointer (some ⟨w.heap.size + 1, 0, none⟩)]) (by simp) (by simp [go_sem]) ?_
    by_cases hrq : r = w.heap.size
    · subst hrq
      refine (catch_mine hm hq older).mono ?_
      rintro e u' w3 ⟨rfl, rfl, rfl⟩
      have hd := drop_all older hold
      simp only [settle, hd]
      refine ⟨.tuple #[], by simp [results, Try.results34], w2, rfl, ⟨o, hq⟩, .inl ⟨rfl, .inr hP⟩⟩
    · refine (catch_other hm hq hr hrq older).mono ?_
      rintro e u' w3 ⟨rfl, rfl, rfl⟩
      refine ⟨w2, rfl, ⟨o, hq⟩, .inr ⟨r, _, hrq, rfl, ⟨{ v := stop r, recovered := true } :: older, rfl, ?_⟩, ⟨cr, hr⟩, hP⟩⟩
      intro x hx
      rcases List.mem_cons.1 hx with rfl | hx
      · rfl
      · exact hold x hx
end
end Go.Proofs.Ytiipkmfkelbpiaa
