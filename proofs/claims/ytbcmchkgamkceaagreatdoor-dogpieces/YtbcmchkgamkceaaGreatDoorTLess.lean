/-
  Package tag: Less and order, and how two tags are compared. No statement of the seat is proved here.
-/
import Derived.Test.YtbcmchkgamkceaaGreatDoorGrTMath
import Derived.Laws.StructEq
import Derived.Sort.Grow
import Derived.Deep.RegionHeld3
namespace Go.Proofs.YtbcmchkgamkceaaGreatDoor
open Go.RowKit Go.Sort

theorem str_less {a b : ByteArray} {k l : List UInt8} (h : Str a k) (g : Str b l) : Op.bytesLess a.toList b.toList = ltB k l := by rw [h.toList, g.toList]; rfl
theorem str_eq {a b : ByteArray} {k l : List UInt8} (h : Str a k) (g : Str b l) : (a.toList == b.toList) = (k == l) := by rw [h.toList, g.toList]

section
variable {a b c d : ByteArray} {x y : Tg}
theorem teq_is (ha : Str a x.1) (hb : Str b x.2) (hc : Str c y.1) (hd : Str d y.2) : (if (a.toList == c.toList) = true then (if (b.toList == d.toList) = true then true else false) else false) = decide (x = y) := by
  rw [ha.toList, hb.toList, hc.toList, hd.toList]
  obtain ⟨x1, x2⟩ := x
  obtain ⟨y1, y2⟩ := y
  by_cases h1 : x1 = y1 <;> by_cases h2 : x2 = y2 <;> simp [h1, h2]
theorem teq_in (ha : Str a x.1) (hb : Str b x.2) (hc : Str c y.1) (hd : Str d y.2) (w : World) : (Op.equalIn 10000 53 (.agg #[.string a, .string b]) (.agg #[.string c, .string d])).run Tryz.prog w = .ok (decide (x = y)) w := by
  have u9 := Tryz.underlying9
  have a9 := Tryz.isAgg9
  have z9 := Tryz.sizeOf9
  have hS : Tryz.prog.underlying 53 = some (.struct (Tryz.prog.fieldsOf 53)) := by kernel_rfl
  have hp : Tryz.prog.stoodInHeld 53 = false := by kernel_rfl
  rw [show (10000 : Nat) = 9999 + 1 from rfl, run_equalIn_agg w 9999 53 _ _ hS hp]
  simp only [Program.fieldsOf, Tryz.underlying53]
  go_simp
  rw [← teq_is ha hb hc hd]
  by_cases h1 : a.toList = c.toList <;> by_cases h2 : b.toList = d.toList <;> simp [h1, h2]
theorem teq_run (ha : Str a x.1) (hb : Str b x.2) (hc : Str c y.1) (hd : Str d y.2) {q : Bool} (hq : decide (x = y) = q) (w : World) : (binOp .eql 53 (.agg #[.string a, .string b]) (.agg #[.string c, .string d])).run Tryz.prog w = .ok (.bool q) w := by
  rw [run_eql_struct, teq_in ha hb hc hd, hq]; rfl
theorem tne_run (ha : Str a x.1) (hb : Str b x.2) (hc : Str c y.1) (hd : Str d y.2) {q : Bool} (hq : decide (x = y) = q) (w : World) : (binOp .neq 53 (.agg #[.string a, .string b]) (.agg #[.string c, .string d])).run Tryz.prog w = .ok (.bool (!q)) w := by
  rw [run_neq_struct, teq_in ha hb hc hd, hq]; rfl
theorem tguard (op : BinOp) (p q : Operand) (xs ys : Array Value) (w : World) : (eqGuard op 53 p q (.agg xs) (.agg ys)).run Tryz.prog w = .ok () w := run_eqGuard_agg w op _ p q xs ys (by kernel_rfl)
end

/-- Only blocks were laid, and draws made. -/
def Grown (w w' : World) : Prop := ∃ q os, w' = grow (w.drewN q) os
section
variable {w w1 w2 : World}
theorem Grown.refl (w : World) : Grown w w := ⟨0, #[], by simp; rfl⟩
theorem Grown.drewN (h : Grown w w1) (n : Nat) : Grown w (w1.drewN n) := by
  obtain ⟨q, os, rfl⟩ := h
  exact ⟨q + n, os, by show grow ((w.drewN q).drewN n) os = _; rw [World.drewN_drewN]⟩
theorem Grown.alloc (h : Grown w w1) (o : Obj) : Grown w (w1.alloc o) := by
  obtain ⟨q, os, rfl⟩ := h
  exact ⟨q, os ++ #[o], by rw [alloc_eq_grow, grow_grow]⟩
theorem Grown.trans (h : Grown w w1) (k : Grown w1 w2) : Grown w w2 := by
  obtain ⟨q, os, rfl⟩ := h
  obtain ⟨p, os', rfl⟩ := k
  exact ⟨q + p, os ++ os', by show grow (grow ((w.drewN q).drewN p) os) os' = _; rw [grow_grow, World.drewN_drewN]⟩
theorem Grown.below (h : Grown w w1) : Below w.heap.size w w1 := by
  obtain ⟨q, os, rfl⟩ := h
  exact ⟨rfl, rfl, rfl, by simp [grow, World.drewN], fun k hk => by rw [heap_grow_old _ _ (by exact hk)]; rfl⟩
end

set_option maxRecDepth 100000 in
set_option maxHeartbeats 2000000 in
theorem ahead1_calls {s t u v : ByteArray} {a b : Tg} (hs : Str s a.1) (ht : Str t a.2) (hu : Str u b.1) (hv : Str v b.2) {g : Nat} {w : World} (hb : Box w g 53 [.string u, .string v]) :
    Calls Tryz.prog 163 #[.agg #[.string s, .string t], .pointer (some ⟨g, 0, none⟩)] w fun e w' => e = .returned (.bool (ltT a b)) ∧ Grown w w' := by
  have e1 := str_less hs hu
  have e2 := str_less ht hv
  have e3 := str_eq hs hu
  have hl : ltT a b = (ltB a.1 b.1 || (a.1 == b.1 && ltB a.2 b.2)) := rfl
  have hb' := hb.alloc (.cells #[.string s, .string t] 53)
  have hne : g < w.heap.size := hb.lt
  have c0 := hb'.cell 0
  have c1 := hb'.cell 1
  simp only [List.getElem?_cons_zero, List.getElem?_cons_succ] at c0 c1
  have d0 := (Box.new w 53 [.string s, .string t]).cell 0
  have d1 := (Box.new w 53 [.string s, .string t]).cell 1
  simp only [List.getElem?_cons_zero, List.getElem?_cons_succ] at d0 d1
  clear hs ht hu hv hb hb'
  generalize ltB a.1 b.1 = p at e1 hl
  generalize ltB a.2 b.2 = q at e2 hl
  generalize (a.1 == b.1) = r at e3 hl
  rw [hl]
  clear hl
  go_enter Tryz.func163, Tryz.ntmps163
  go_wp2_with fail
  all_goals
    go_ret
    exact ⟨by simp_all, (Grown.refl w).alloc _⟩

set_option maxRecDepth 100000 in
theorem aheadOf_calls (u v : ByteArray) (w : World) : Calls Tryz.prog 130 #[.agg #[.string u, .string v]] w fun e w' => e = .returned (.func (.func 163) #[] #[.pointer (some ⟨w.heap.size, 0, none⟩)]) ∧ w' = w.alloc (.cells #[.string u, .string v] 53) := by
  have hmf : ∀ (fn : Fn) (first cap : Array Value) (w : World), (Instr.makeFunc fn first cap).run Tryz.prog w = .ok (.func fn first cap) w := fun _ _ _ _ => rfl
  go_enter Tryz.func130, Tryz.ntmps130
  go_wp2_with fail
  go_ret
  exact ⟨rfl, rfl⟩

/-- Where Less stands: both tags lie. -/
structure LAt (w : World) (s t u v : ByteArray) (w' : World) : Prop where
  grown : Grown w w'
  one : Box w' w.heap.size 53 [.string s, .string t]
  two : Box w' (w.heap.size + 1) 53 [.string u, .string v]
section
variable {w w1 w2 : World} {s t u v : ByteArray}
theorem LAt.next (h : LAt w s t u v w1) (k : Grown w1 w2) : LAt w s t u v w2 := ⟨h.grown.trans k, h.one.keep k.below, h.two.keep k.below⟩
theorem LAt.start (w : World) (s t u v : ByteArray) : LAt w s t u v ((w.alloc (.cells #[.string s, .string t] 53)).alloc (.cells #[.string u, .string v] 53)) :=
  ⟨((Grown.refl w).alloc _).alloc _, (Box.new w 53 [_, _]).alloc _, by have := Box.new (w.alloc (.cells #[.string s, .string t] 53)) 53 [.string u, .string v]; rwa [size_alloc] at this⟩
theorem LAt.cells (h : LAt w s t u v w1) : w1.cell? ⟨w.heap.size, 0, none⟩ = some (.string s) ∧ w1.cell? ⟨w.heap.size, 1, none⟩ = some (.string t) ∧ w1.cell? ⟨w.heap.size + 1, 0, none⟩ = some (.string u) ∧ w1.cell? ⟨w.heap.size + 1, 1, none⟩ = some (.string v) ∧ LAt w s t u v w1 :=
  ⟨h.one.cell 0, h.one.cell 1, h.two.cell 0, h.two.cell 1, h⟩
theorem LAt.of {P1 P2 P3 P4 : Prop} (h : P1 ∧ P2 ∧ P3 ∧ P4 ∧ LAt w s t u v w1) : LAt w s t u v w1 := h.2.2.2.2
theorem LAt.drew (h : LAt w s t u v w1) : LAt w s t u v w1.drew := h.next ((Grown.refl w1).drewN 1)
end

set_option maxRecDepth 100000 in
set_option maxHeartbeats 2000000 in
theorem less_calls {s t u v : ByteArray} {a b : Tg} (hs : Str s a.1) (ht : Str t a.2) (hu : Str u b.1) (hv : Str v b.2) (w : World) :
    Calls Tryz.prog 91 #[.agg #[.string s, .string t], .agg #[.string u, .string v]] w fun e w' => e = .returned (.bool (ltT a b)) ∧ Grown w w' := by
  have hF : ∀ args w, (callFunc 163 args).run Tryz.prog w = .ok (.enter 163 args) w := fun _ _ => by kernel_rfl
  have HF := Lib.hid hF
  have hO : ∀ w', LAt w s t u v w' → Calls Tryz.prog 130 #[.agg #[.string u, .string v]] w' fun e w'' => ∃ g, e = .returned (.func (.func 163) #[] #[.pointer (some ⟨g, 0, none⟩)]) ∧ LAt w s t u v w'' ∧ Box w'' g 53 [.string u, .string v] :=
    fun w' h => (aheadOf_calls u v w').mono fun _ _ ⟨h1, h2⟩ => ⟨_, h1, by rw [h2]; exact ⟨h.next ((Grown.refl w').alloc _), Box.new w' _ [_, _]⟩⟩
  have hA : ∀ w' g, LAt w s t u v w' ∧ Box w' g 53 [.string u, .string v] → Calls Tryz.prog 163 #[.agg #[.string s, .string t], .pointer (some ⟨g, 0, none⟩)] w' fun e w'' => e = .returned (.bool (ltT a b)) ∧ LAt w s t u v w'' :=
    fun w' g h => (ahead1_calls hs ht hu hv h.2).mono fun _ _ ⟨h1, h2⟩ => ⟨h1, h.1.next h2⟩
  have HO := Lib.hid hO
  have HA := Lib.hid hA
  have HS0 := Lib.hid (LAt.start w s t u v).drew
  generalize ltT a b = p at HA ⊢
  clear hF hs ht hu hv hO hA
  go_enter Tryz.func91, Tryz.ntmps91
  go_wp2_with fail
  go_region_held3 (fun w' => w'.cell? ⟨w.heap.size, 0, none⟩ = some (.string s) ∧ w'.cell? ⟨w.heap.size, 1, none⟩ = some (.string t) ∧ w'.cell? ⟨w.heap.size + 1, 0, none⟩ = some (.string u) ∧ w'.cell? ⟨w.heap.size + 1, 1, none⟩ = some (.string v) ∧ LAt w s t u v w')
    (first | exact LAt.cells HS0.out | exact LAt.cells HB7.out | exact LAt.cells HB6.out.1)
    (first | (go_at_call 130; refine (HO.out _ (LAt.of (by assumption))).mono ?_; rintro e w6 ⟨g, rfl, hb6⟩; have HB6 := Lib.hid hb6; clear hb6) | (go_at_call 163; refine (HA.out _ _ HB6.out).mono ?_; rintro e w7 ⟨rfl, hb7⟩; have HB7 := Lib.hid hb7; clear hb7))
  all_goals
    go_wp2_with fail
    go_ret
    exact ⟨rfl, HB7.out.grown⟩

set_option maxRecDepth 100000 in
set_option maxHeartbeats 2000000 in
theorem order_calls {s t u v : ByteArray} {a b : Tg} (hs : Str s a.1) (ht : Str t a.2) (hu : Str u b.1) (hv : Str v b.2) (w : World) :
    Calls Tryz.prog 89 #[.agg #[.string s, .string t], .agg #[.string u, .string v]] w fun e w' => e = .returned (.int .i64 (ordT a b)) ∧ Grown w w' := by
  have HL := Lib.hid (less_calls hs ht hu hv)
  have ho : ordT a b = if decide (a = b) = true then 0 else if ltT a b = true then -1 else 1 := by unfold ordT; simp only [decide_eq_true_eq]
  have hq := teq_run hs ht hu hv (rfl : decide (a = b) = decide (a = b))
  have hg := tguard
  generalize decide (a = b) = q at ho hq
  generalize ltT a b = p at HL ho
  rw [ho]
  clear ho hs ht hu hv
  have hS := Lib.hid (LAt.start w s t u v)
  go_enter Tryz.func89, Tryz.ntmps89
  cases q
  · go_wp2_with fail
    refine (HL.out _).mono ?_
    rintro e w1 ⟨rfl, hb⟩
    have HB := Lib.hid (hS.out.grown.trans hb)
    clear hb hS HL hq hg
    cases p
    all_goals
      go_wp2_with fail
      go_ret
      exact ⟨rfl, HB.out⟩
  · go_wp2_with fail
    go_ret
    exact ⟨rfl, hS.out.grown⟩
end Go.Proofs.YtbcmchkgamkceaaGreatDoor
