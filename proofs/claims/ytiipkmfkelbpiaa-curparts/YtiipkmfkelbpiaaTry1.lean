/-
  Contracts of package cur's Must, and of the function that let defers. No statement of the seat is proved here.
-/
import Derived.Test.YtiipkmfkelbpiaaCur4
import Derived.LaidEqlPtr
import Derived.Lib.Builder
namespace Go.Proofs.Ytiipkmfkelbpiaa
open Go.RowKit

theorem cur_info : ∃ j, Try.prog.info? 65 = some j := Option.isSome_iff_exists.1 (by kernel_rfl)
theorem trial_info : ∃ j, Try.prog.info? 68 = some j ∧ j.size ≠ 0 := by
  have h : (Try.prog.info? 68).map (·.size) = some 1 := by kernel_rfl
  obtain ⟨j, hj, hs⟩ := Option.map_eq_some_iff.1 h
  exact ⟨j, hj, by omega⟩

theorem neq_same (a : Addr) (w : World) : (binOp .neq 25 (.pointer (some a)) (.pointer (some a))).run Try.prog w = .ok (.bool false) w := by
  obtain ⟨j, hj⟩ := cur_info
  exact Lib.run_neq_ptr_same w a Try.underlying25 hj
theorem neq_none (a : Addr) (w : World) : (binOp .neq 25 (.pointer none) (.pointer (some a))).run Try.prog w = .ok (.bool true) w := by
  have h : ∀ d : Nat, (Op.equalIn (d + 1) 25 (.pointer none) (.pointer (some a))).run Try.prog w = .ok false w := fun d => by
    simp [Op.equalIn, run_underlying Try.underlying25]
  simp only [binOp]
  simp [Op.equal, Op.maxDepth, h 9999]
theorem trial_same (a : Addr) (w : World) : (binOp .eql 63 (.pointer (some a)) (.pointer (some a))).run Try.prog w = .ok (.bool true) w := by
  obtain ⟨j, hj, _⟩ := trial_info
  exact run_eql_ptr_same w a Try.underlying63 hj
theorem trial_other {q r : Nat} {cq cr : List Value} (w : World) (hq : Box w q 68 cq) (hr : Box w r 68 cr) (hne : q ≠ r) :
    (binOp .eql 63 (.pointer (some ⟨q, 0, none⟩)) (.pointer (some ⟨r, 0, none⟩))).run Try.prog w = .ok (.bool false) w := by
  obtain ⟨j, hj, hs⟩ := trial_info
  exact run_eql_ptr_other w Try.underlying63 hj hs (by intro e; injection e with e; exact hne e) hq hr
theorem assert_trial (v : Value) (w : World) : (Instr.typeAssert (.iface 63 v) 20 63 true).run Try.prog w = .ok (.tuple #[v, .bool true]) w := by kernel_rfl

section
variable {R : Option Addr} {w w' : World} {p q m : Nat} {s : St} {tr : Option Addr}

/-- What a Must panics with. -/
def stop (q : Nat) : Value := .iface 63 (.pointer (some ⟨q, 0, none⟩))

theorem must_nil (w : World) : Calls Try.prog 19 #[.pointer none] w fun e w' => e = .returned (.tuple #[]) ∧ w = w' := by
  go_enter Try.func19, Try.ntmps19
  go_wp2
  refine bodyPost_ret (results_none rfl _ _ _) rfl ?_
  exact ⟨rfl, rfl⟩

theorem must_free (h : CurOk R w p s none) : Calls Try.prog 19 #[.pointer (some ⟨p, 0, none⟩)] w fun e w' => e = .returned (.tuple #[]) ∧ w = w' := by
  obtain ⟨A, cap, h1, _⟩ := h.is_
  have c4 : w.cell? ⟨p, 4, none⟩ = some (.pointer none) := h1.cell 4
  clear h1
  go_enter Try.func19, Try.ntmps19
  go_wp2
  refine bodyPost_ret (results_none rfl _ _ _) rfl ?_
  exact ⟨rfl, rfl⟩

theorem must_over (h : CurOk R w p s (some ⟨q, 0, none⟩)) (hq : Box w q 68 [.pointer none]) :
    Calls Try.prog 19 #[.pointer (some ⟨p, 0, none⟩)] w fun e w' => e = .returned (.tuple #[]) ∧ w = w' := by
  obtain ⟨A, cap, h1, _⟩ := h.is_
  have c4 : w.cell? ⟨p, 4, none⟩ = some (.pointer (some ⟨q, 0, none⟩)) := h1.cell 4
  have d0 : w.cell? ⟨q, 0, none⟩ = some (.pointer none) := hq.cell 0
  have hn := neq_none
  clear h1
  go_enter Try.func19, Try.ntmps19
  go_wp2
  refine bodyPost_ret (results_none rfl _ _ _) rfl ?_
  exact ⟨rfl, rfl⟩

theorem must_right (h : CurOk R w p s (some ⟨q, 0, none⟩)) (hq : Box w q 68 [.pointer (some ⟨p, 0, none⟩)]) (hc : s.c = 0) :
    Calls Try.prog 19 #[.pointer (some ⟨p, 0, none⟩)] w fun e w' => e = .returned (.tuple #[]) ∧ Below w.heap.size w w' := by
  obtain ⟨A, cap, h1, _⟩ := h.is_
  have c4 : w.cell? ⟨p, 4, none⟩ = some (.pointer (some ⟨q, 0, none⟩)) := h1.cell 4
  have d0 : w.cell? ⟨q, 0, none⟩ = some (.pointer (some ⟨p, 0, none⟩)) := hq.cell 0
  have hw := wrong_calls h
  rw [show (s.c != 0) = false by simp [hc]] at hw
  have HW := Lib.hid hw
  have hn := neq_same
  clear h1 hw hc
  go_enter Try.func19, Try.ntmps19
  go_wp2_with fail
  refine HW.out.mono ?_
  rintro e w1 ⟨rfl, hb⟩
  go_wp2
  refine bodyPost_ret (results_none rfl _ _ _) rfl ?_
  exact ⟨rfl, hb⟩

theorem must_wrong (h : CurOk R w p s (some ⟨q, 0, none⟩)) (hq : Box w q 68 [.pointer (some ⟨p, 0, none⟩)]) (hc : s.c ≠ 0) :
    Calls Try.prog 19 #[.pointer (some ⟨p, 0, none⟩)] w fun e w' => e = .panicked [{ v := stop q, recovered := false }] ∧ Below w.heap.size w w' := by
  obtain ⟨A, cap, h1, _⟩ := h.is_
  have c4 : w.cell? ⟨p, 4, none⟩ = some (.pointer (some ⟨q, 0, none⟩)) := h1.cell 4
  have d0 : w.cell? ⟨q, 0, none⟩ = some (.pointer (some ⟨p, 0, none⟩)) := hq.cell 0
  have hw := wrong_calls h
  rw [show (s.c != 0) = true by simp [hc]] at hw
  have HW := Lib.hid hw
  have H1 := Lib.hid h1
  have hn := neq_same
  clear h1 hw hc
  go_enter Try.func19, Try.ntmps19
  go_wp2_with fail
  refine HW.out.mono ?_
  rintro e w1 ⟨rfl, hb⟩
  have c4' : w1.cell? ⟨p, 4, none⟩ = some (.pointer (some ⟨q, 0, none⟩)) := (H1.out.keep hb).cell 4
  go_wp2
  exact ⟨rfl, rfl, hb⟩

theorem catch_returning (hm : Box w m 63 [.pointer (some ⟨q, 0, none⟩)]) {o : Option Addr} (hq : Box w q 68 [.pointer o]) :
    CallsD Try.prog 39 #[.pointer (some ⟨m, 0, none⟩)] .returning w fun e u' w' =>
      e = .returned (.tuple #[]) ∧ u' = .returning ∧ w' = w.setCell ⟨q, 0, none⟩ (.pointer none) := by
  have m0 : w.cell? ⟨m, 0, none⟩ = some (.pointer (some ⟨q, 0, none⟩)) := hm.cell 0
  have q0 : w.cell? ⟨q, 0, none⟩ = some (.pointer o) := hq.cell 0
  have f0 := hq.frozen 0
  refine callsD_of_wpS Try.func39 rfl fun c₀ cs hu => ?_
  simp only [Try.ntmps39, List.size_toArray, List.length_cons, List.length_nil, Nat.reduceAdd, Nat.reduceSub, Array.replicate_succ, Array.replicate_zero, List.push_toArray, List.append_toArray, List.nil_append, List.cons_append]
  apply wpS_seq
  refine wpS_of_wp ?_
  go_wp2
  simp only [Exit.thenS]
  apply wpS_seq
  apply wpS_region
  simp [wpOpsS, go_sem, recoverD, hu, Exit.thenS]
  refine wpS_of_wp ?_
  go_wp2
  cases c₀
  simp_all [bodyPostS, results, Try.results39]

theorem catch_mine (hm : Box w m 63 [.pointer (some ⟨q, 0, none⟩)]) {o : Option Addr} (hq : Box w q 68 [.pointer o]) (older : List PanicEntry) :
    CallsD Try.prog 39 #[.pointer (some ⟨m, 0, none⟩)] (.panicking ({ v := stop q, recovered := false } :: older)) w fun e u' w' =>
      e = .returned (.tuple #[]) ∧ u' = .panicking ({ v := stop q, recovered := true } :: older) ∧ w' = w.setCell ⟨q, 0, none⟩ (.pointer none) := by
  have m0 : w.cell? ⟨m, 0, none⟩ = some (.pointer (some ⟨q, 0, none⟩)) := hm.cell 0
  have q0 : w.cell? ⟨q, 0, none⟩ = some (.pointer o) := hq.cell 0
  have f0 := hq.frozen 0
  have m1 : (w.setCell ⟨q, 0, none⟩ (.pointer none)).cell? ⟨m, 0, none⟩ = some (.pointer (some ⟨q, 0, none⟩)) := (hm.far (q := ⟨q, 0, none⟩) (hm.ne hq (by decide)) _).cell 0
  have ha := assert_trial
  have hs := trial_same
  unfold stop
  refine callsD_of_wpS Try.func39 rfl fun c₀ cs hu => ?_
  simp only [Try.ntmps39, List.size_toArray, List.length_cons, List.length_nil, Nat.reduceAdd, Nat.reduceSub, Array.replicate_succ, Array.replicate_zero, List.push_toArray, List.append_toArray, List.nil_append, List.cons_append]
  apply wpS_seq
  refine wpS_of_wp ?_
  go_wp2
  simp only [Exit.thenS]
  apply wpS_seq
  apply wpS_region
  simp [wpOpsS, go_sem, recoverD, hu, Exit.thenS]
  refine wpS_of_wp ?_
  go_wp2
  cases c₀
  simp_all [bodyPostS, results, Try.results39]

theorem catch_other {r : Nat} (hm : Box w m 63 [.pointer (some ⟨q, 0, none⟩)]) {o : Option Addr} (hq : Box w q 68 [.pointer o]) {cr : List Value} (hr : Box w r 68 cr) (hne : r ≠ q) (older : List PanicEntry) :
    CallsD Try.prog 39 #[.pointer (some ⟨m, 0, none⟩)] (.panicking ({ v := stop r, recovered := false } :: older)) w fun e u' w' =>
      e = .panicked [{ v := stop r, recovered := false }] ∧ u' = .panicking ({ v := stop r, recovered := true } :: older) ∧ w' = w.setCell ⟨q, 0, none⟩ (.pointer none) := by
  have m0 : w.cell? ⟨m, 0, none⟩ = some (.pointer (some ⟨q, 0, none⟩)) := hm.cell 0
  have q0 : w.cell? ⟨q, 0, none⟩ = some (.pointer o) := hq.cell 0
  have f0 := hq.frozen 0
  have m1 : (w.setCell ⟨q, 0, none⟩ (.pointer none)).cell? ⟨m, 0, none⟩ = some (.pointer (some ⟨q, 0, none⟩)) := (hm.far (q := ⟨q, 0, none⟩) (hm.ne hq (by decide)) _).cell 0
  have ha := assert_trial
  have ho := trial_other _ (hr.far (q := ⟨q, 0, none⟩) hne (.pointer none)) (hq.set 0 (.pointer none)) hne
  clear hr
  unfold stop
  refine callsD_of_wpS Try.func39 rfl fun c₀ cs hu => ?_
  simp only [Try.ntmps39, List.size_toArray, List.length_cons, List.length_nil, Nat.reduceAdd, Nat.reduceSub, Array.replicate_succ, Array.replicate_zero, List.push_toArray, List.append_toArray, List.nil_append, List.cons_append]
  apply wpS_seq
  refine wpS_of_wp ?_
  go_wp2
  simp only [Exit.thenS]
  apply wpS_seq
  apply wpS_region
  simp [wpOpsS, go_sem, recoverD, hu, Exit.thenS]
  refine wpS_of_wp ?_
  go_wp2
  cases c₀
  simp_all [bodyPostS]
end
end Go.Proofs.Ytiipkmfkelbpiaa
