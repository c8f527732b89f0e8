/-
  TLess, TCompact, TNormal, TNormal2, TKeep. No statement of the seat is proved here.
-/
import Derived.Test.YtmaiggoinjldpaaDoorGrDigs
import Derived.Laws.StructEq
import Derived.Sort.Grow
import Derived.Deep.RegionHeld3
/-
  Package tag: Less and order, and how two tags are compared. No statement of the seat is proved here.
-/
namespace Go.Proofs.YtmaiggoinjldpaaDoor
open Go.RowKit Go.Sort

theorem str_less {a b : ByteArray} {k l : List UInt8} (h : Str a k) (g : Str b l) : Op.bytesLess a.toList b.toList = ltB k l := by rw [h.toList, g.toList]; rfl
theorem str_eq {a b : ByteArray} {k l : List UInt8} (h : Str a k) (g : Str b l) : (a.toList == b.toList) = (k == l) := by rw [h.toList, g.toList]

section
variable {a b c d : ByteArray} {x y : Tg}
theorem teq_is (ha : Str a x.1) (hb : Str b x.2) (hc : Str c y.1) (hd : Str d y.2) : (if (a.toList == c.toList) = true then (if (b.toList == d.toList) = true then true else false) else false) = decide (x = y) := by
  rw [ha.toList, hb.toList, hc.toList, hd.toList]
  obtain ⟨x1, x2⟩ := x
  obtain ⟨y1, y2⟩ := y
  by_cases h1 : x1 = y1 <;> by_cases h2 : x2 = y2 <;> simp [h1, h2]
theorem teq_in (ha : Str a x.1) (hb : Str b x.2) (hc : Str c y.1) (hd : Str d y.2) (w : World) : (Op.equalIn 10000 57 (.agg #[.string a, .string b]) (.agg #[.string c, .string d])).run Tryd.prog w = .ok (decide (x = y)) w := by
  have u9 := Tryd.underlying9
  have a9 := Tryd.isAgg9
  have z9 := Tryd.sizeOf9
  have hS : Tryd.prog.underlying 57 = some (.struct (Tryd.prog.fieldsOf 57)) := by kernel_rfl
  have hp : Tryd.prog.stoodInHeld 57 = false := by kernel_rfl
  rw [show (10000 : Nat) = 9999 + 1 from rfl, run_equalIn_agg w 9999 57 _ _ hS hp]
  simp only [Program.fieldsOf, Tryd.underlying57]
  go_simp
  rw [← teq_is ha hb hc hd]
  by_cases h1 : a.toList = c.toList <;> by_cases h2 : b.toList = d.toList <;> simp [h1, h2]
theorem teq_run (ha : Str a x.1) (hb : Str b x.2) (hc : Str c y.1) (hd : Str d y.2) {q : Bool} (hq : decide (x = y) = q) (w : World) : (binOp .eql 57 (.agg #[.string a, .string b]) (.agg #[.string c, .string d])).run Tryd.prog w = .ok (.bool q) w := by
  rw [run_eql_struct, teq_in ha hb hc hd, hq]; rfl
theorem tne_run (ha : Str a x.1) (hb : Str b x.2) (hc : Str c y.1) (hd : Str d y.2) {q : Bool} (hq : decide (x = y) = q) (w : World) : (binOp .neq 57 (.agg #[.string a, .string b]) (.agg #[.string c, .string d])).run Tryd.prog w = .ok (.bool (!q)) w := by
  rw [run_neq_struct, teq_in ha hb hc hd, hq]; rfl
theorem tguard (op : BinOp) (p q : Operand) (xs ys : Array Value) (w : World) : (eqGuard op 57 p q (.agg xs) (.agg ys)).run Tryd.prog w = .ok () w := run_eqGuard_agg w op _ p q xs ys (by kernel_rfl)
end

/-- Only blocks were laid, and draws made. -/
def Grown (w w' : World) : Prop := ∃ q os, w' = grow (w.drewN q) os
section
variable {w w1 w2 : World}
theorem Grown.refl (w : World) : Grown w w := ⟨0, #[], by simp; rfl⟩
theorem Grown.drewN (h : Grown w w1) (n : Nat) : Grown w (w1.drewN n) := by
  obtain ⟨q, os, rfl⟩ := h
  exact ⟨q + n, os, by show grow ((w.drewN q).drewN n) os = _; rw [World.drewN_drewN]⟩
theorem Grown.alloc (h : Grown w w1) (o : Obj) : Grown w (w1.alloc o) := by
  obtain ⟨q, os, rfl⟩ := h
  exact ⟨q, os ++ #[o], by rw [alloc_eq_grow, grow_grow]⟩
theorem Grown.trans (h : Grown w w1) (k : Grown w1 w2) : Grown w w2 := by
  obtain ⟨q, os, rfl⟩ := h
  obtain ⟨p, os', rfl⟩ := k
  exact ⟨q + p, os ++ os', by show grow (grow ((w.drewN q).drewN p) os) os' = _; rw [grow_grow, World.drewN_drewN]⟩
theorem Grown.below (h : Grown w w1) : Below w.heap.size w w1 := by
  obtain ⟨q, os, rfl⟩ := h
  exact ⟨rfl, rfl, rfl, by simp [grow, World.drewN], fun k hk => by rw [heap_grow_old _ _ (by exact hk)]; rfl⟩
end

set_option maxRecDepth 100000 in
set_option maxHeartbeats 2000000 in
theorem ahead1_calls {s t u v : ByteArray} {a b : Tg} (hs : Str s a.1) (ht : Str t a.2) (hu : Str u b.1) (hv : Str v b.2) {g : Nat} {w : World} (hb : Box w g 57 [.string u, .string v]) :
    Calls Tryd.prog 96 #[.agg #[.string s, .string t], .pointer (some ⟨g, 0, none⟩)] w fun e w' => e = .returned (.bool (ltT a b)) ∧ Grown w w' := by
  have e1 := str_less hs hu
  have e2 := str_less ht hv
  have e3 := str_eq hs hu
  have hl : ltT a b = (ltB a.1 b.1 || (a.1 == b.1 && ltB a.2 b.2)) := rfl
  have hb' := hb.alloc (.cells #[.string s, .string t] 57)
  have hne : g < w.heap.size := hb.lt
  have c0 := hb'.cell 0
  have c1 := hb'.cell 1
  simp only [List.getElem?_cons_zero, List.getElem?_cons_succ] at c0 c1
  have d0 := (Box.new w 57 [.string s, .string t]).cell 0
  have d1 := (Box.new w 57 [.string s, .string t]).cell 1
  simp only [List.getElem?_cons_zero, List.getElem?_cons_succ] at d0 d1
  clear hs ht hu hv hb hb'
  generalize ltB a.1 b.1 = p at e1 hl
  generalize ltB a.2 b.2 = q at e2 hl
  generalize (a.1 == b.1) = r at e3 hl
  rw [hl]
  clear hl
  go_enter Tryd.func96, Tryd.ntmps96
  go_wp2_with fail
  all_goals
    go_ret
    exact ⟨by simp_all, (Grown.refl w).alloc _⟩

set_option maxRecDepth 100000 in
theorem aheadOf_calls (u v : ByteArray) (w : World) : Calls Tryd.prog 81 #[.agg #[.string u, .string v]] w fun e w' => e = .returned (.func (.func 96) #[] #[.pointer (some ⟨w.heap.size, 0, none⟩)]) ∧ w' = w.alloc (.cells #[.string u, .string v] 57) := by
  have hmf : ∀ (fn : Fn) (first cap : Array Value) (w : World), (Instr.makeFunc fn first cap).run Tryd.prog w = .ok (.func fn first cap) w := fun _ _ _ _ => rfl
  go_enter Tryd.func81, Tryd.ntmps81
  go_wp2_with fail
  go_ret
  exact ⟨rfl, rfl⟩

/-- Where Less stands: both tags lie. -/
structure LAt (w : World) (s t u v : ByteArray) (w' : World) : Prop where
  grown : Grown w w'
  one : Box w' w.heap.size 57 [.string s, .string t]
  two : Box w' (w.heap.size + 1) 57 [.string u, .string v]
section
variable {w w1 w2 : World} {s t u v : ByteArray}
theorem LAt.next (h : LAt w s t u v w1) (k : Grown w1 w2) : LAt w s t u v w2 := ⟨h.grown.trans k, h.one.keep k.below, h.two.keep k.below⟩
theorem LAt.start (w : World) (s t u v : ByteArray) : LAt w s t u v ((w.alloc (.cells #[.string s, .string t] 57)).alloc (.cells #[.string u, .string v] 57)) :=
  ⟨((Grown.refl w).alloc _).alloc _, (Box.new w 57 [_, _]).alloc _, by have := Box.new (w.alloc (.cells #[.string s, .string t] 57)) 57 [.string u, .string v]; rwa [size_alloc] at this⟩
theorem LAt.cells (h : LAt w s t u v w1) : w1.cell? ⟨w.heap.size, 0, none⟩ = some (.string s) ∧ w1.cell? ⟨w.heap.size, 1, none⟩ = some (.string t) ∧ w1.cell? ⟨w.heap.size + 1, 0, none⟩ = some (.string u) ∧ w1.cell? ⟨w.heap.size + 1, 1, none⟩ = some (.string v) ∧ LAt w s t u v w1 :=
  ⟨h.one.cell 0, h.one.cell 1, h.two.cell 0, h.two.cell 1, h⟩
theorem LAt.of {P1 P2 P3 P4 : Prop} (h : P1 ∧ P2 ∧ P3 ∧ P4 ∧ LAt w s t u v w1) : LAt w s t u v w1 := h.2.2.2.2
theorem LAt.drew (h : LAt w s t u v w1) : LAt w s t u v w1.drew := h.next ((Grown.refl w1).drewN 1)
end

set_option maxRecDepth 100000 in
set_option maxHeartbeats 2000000 in
theorem less_calls {s t u v : ByteArray} {a b : Tg} (hs : Str s a.1) (ht : Str t a.2) (hu : Str u b.1) (hv : Str v b.2) (w : World) :
    Calls Tryd.prog 57 #[.agg #[.string s, .string t], .agg #[.string u, .string v]] w fun e w' => e = .returned (.bool (ltT a b)) ∧ Grown w w' := by
  have hF : ∀ args w, (callFunc 96 args).run Tryd.prog w = .ok (.enter 96 args) w := fun _ _ => by kernel_rfl
  have HF := Lib.hid hF
  have hO : ∀ w', LAt w s t u v w' → Calls Tryd.prog 81 #[.agg #[.string u, .string v]] w' fun e w'' => ∃ g, e = .returned (.func (.func 96) #[] #[.pointer (some ⟨g, 0, none⟩)]) ∧ LAt w s t u v w'' ∧ Box w'' g 57 [.string u, .string v] :=
    fun w' h => (aheadOf_calls u v w').mono fun _ _ ⟨h1, h2⟩ => ⟨_, h1, by rw [h2]; exact ⟨h.next ((Grown.refl w').alloc _), Box.new w' _ [_, _]⟩⟩
  have hA : ∀ w' g, LAt w s t u v w' ∧ Box w' g 57 [.string u, .string v] → Calls Tryd.prog 96 #[.agg #[.string s, .string t], .pointer (some ⟨g, 0, none⟩)] w' fun e w'' => e = .returned (.bool (ltT a b)) ∧ LAt w s t u v w'' :=
    fun w' g h => (ahead1_calls hs ht hu hv h.2).mono fun _ _ ⟨h1, h2⟩ => ⟨h1, h.1.next h2⟩
  have HO := Lib.hid hO
  have HA := Lib.hid hA
  have HS0 := Lib.hid (LAt.start w s t u v).drew
  generalize ltT a b = p at HA ⊢
  clear hF hs ht hu hv hO hA
  go_enter Tryd.func57, Tryd.ntmps57
  go_wp2_with fail
  go_region_held3 (fun w' => w'.cell? ⟨w.heap.size, 0, none⟩ = some (.string s) ∧ w'.cell? ⟨w.heap.size, 1, none⟩ = some (.string t) ∧ w'.cell? ⟨w.heap.size + 1, 0, none⟩ = some (.string u) ∧ w'.cell? ⟨w.heap.size + 1, 1, none⟩ = some (.string v) ∧ LAt w s t u v w')
    (first | exact LAt.cells HS0.out | exact LAt.cells HB7.out | exact LAt.cells HB6.out.1)
    (first | (go_at_call 81; refine (HO.out _ (LAt.of (by assumption))).mono ?_; rintro e w6 ⟨g, rfl, hb6⟩; have HB6 := Lib.hid hb6; clear hb6) | (go_at_call 96; refine (HA.out _ _ HB6.out).mono ?_; rintro e w7 ⟨rfl, hb7⟩; have HB7 := Lib.hid hb7; clear hb7))
  all_goals
    go_wp2_with fail
    go_ret
    exact ⟨rfl, HB7.out.grown⟩

end Go.Proofs.YtmaiggoinjldpaaDoor

/-
  slices.Compact at tags. No statement of the seat is proved here.
-/
namespace Go.Proofs.YtmaiggoinjldpaaDoor
open Go.RowKit

/-- Block g is a row of tags, with room for cap of them. -/
def RowT (w : World) (g cap : Nat) (ts : List Tg) : Prop :=
  ∃ cur, w.heap[g]? = some (.cells cur 57 (0, 0)) ∧ cur.size = cap * 2 ∧ cur.toList.take (ts.length * 2) = flat ts ∧ ts.length ≤ cap

section
variable {w w' : World} {g cap : Nat} {ts : List Tg}
theorem RowT.lt (h : RowT w g cap ts) : g < w.heap.size := by obtain ⟨cur, hh, _⟩ := h; exact own_lt hh
theorem RowT.tags (h : RowT w g cap ts) : Tags w (some ⟨g, 0, none⟩) ts := by
  obtain ⟨cur, hh, _, ht, _⟩ := h
  intro i u hu
  refine ⟨g, 0, rfl, ?_⟩
  rw [← ht, List.getElem?_take] at hu
  split at hu
  · simp only [World.cell?, hh, Nat.zero_add]; simpa using hu
  · cases hu
theorem RowT.get (h : RowT w g cap ts) {i : Nat} (hi : i < ts.length) : ∃ s t, w.cell? ⟨g, i * 2, none⟩ = some (.string s) ∧ w.cell? ⟨g, i * 2 + 1, none⟩ = some (.string t) ∧ Str s ts[i].1 ∧ Str t ts[i].2 := by
  obtain ⟨h0, h1⟩ := h.tags.cells hi
  rw [Nat.zero_add] at h0 h1
  exact ⟨_, _, h0, h1, Str.mk _, Str.mk _⟩
theorem RowT.frozen (h : RowT w g cap ts) (i : Nat) : w.frozen? ⟨g, i, none⟩ = false := by
  obtain ⟨cur, hh, _⟩ := h
  simp [World.frozen?, hh]
theorem RowT.some_ (h : RowT w g cap ts) {i : Nat} (hi : i < cap * 2) : (w.cell? ⟨g, i, none⟩).isSome = true := by
  obtain ⟨cur, hh, hs, _⟩ := h
  simp only [World.cell?, hh]
  simp [hs, hi]
theorem RowT.same (h : RowT w g cap ts) (hs : Same w w') : RowT w' g cap ts := by
  obtain ⟨cur, hh, r⟩ := h
  exact ⟨cur, by rw [hs.heap]; exact hh, r⟩
theorem flat_set : ∀ (ts : List Tg) (i : Nat) (x : Tg), ((flat ts).set (i * 2) (.string ⟨x.1.toArray⟩)).set (i * 2 + 1) (.string ⟨x.2.toArray⟩) = flat (ts.set i x)
  | [], i, x => by simp [flat_nil]
  | t :: ts, 0, x => rfl
  | t :: ts, i + 1, x => by
    rw [flat_cons, show (i + 1) * 2 = i * 2 + 1 + 1 by omega, List.set_cons_succ, List.set_cons_succ, List.set_cons_succ, List.set_cons_succ, flat_set ts i x]
    rfl
theorem RowT.set (h : RowT w g cap ts) {i : Nat} {s t : ByteArray} {x : Tg} (hs : Str s x.1) (ht : Str t x.2) : RowT ((w.setCell ⟨g, i * 2, none⟩ (.string s)).setCell ⟨g, i * 2 + 1, none⟩ (.string t)) g cap (ts.set i x) := by
  rw [hs.eq, ht.eq]
  obtain ⟨cur, hh, h1, h2, h3⟩ := h
  refine ⟨(cur.setIfInBounds (i * 2) (.string ⟨x.1.toArray⟩)).setIfInBounds (i * 2 + 1) (.string ⟨x.2.toArray⟩), ?_, by simpa using h1, ?_, by simpa using h3⟩
  · simp [World.setCell, Array.getElem?_modify, hh]
  · rw [Array.toList_setIfInBounds, Array.toList_setIfInBounds, List.length_set, List.take_set, List.take_set, h2, flat_set]
end

theorem setCells_but (g : Nat) : ∀ (zs : List Value) (o : Nat) (w : World), But g w (w.setCells g o zs)
  | [], _, w => But.refl g w
  | z :: zs, o, w => ((But.refl g w).set o z).trans (setCells_but g zs (o + 1) _)
theorem cell_set_other {w : World} {g o i : Nat} (h : i ≠ o) (z : Value) : (w.setCell ⟨g, o, none⟩ z).cell? ⟨g, i, none⟩ = w.cell? ⟨g, i, none⟩ := by
  unfold World.setCell World.cell?
  simp only [Array.getElem?_modify, if_true]
  cases w.heap[g]? with
  | none => rfl
  | some ob => cases ob <;> simp [Ne.symm h]
theorem setCells_low (g : Nat) : ∀ (zs : List Value) (o : Nat) (w : World) (i : Nat), i < o → (w.setCells g o zs).cell? ⟨g, i, none⟩ = w.cell? ⟨g, i, none⟩
  | [], _, w, i, _ => rfl
  | z :: zs, o, w, i, h => by
    rw [World.setCells, setCells_low g zs (o + 1) _ i (by omega), cell_set_other (by omega)]
theorem run_clear2 (w : World) (b o n c : Nat) (hn : 0 < n) (hc : ∀ j, j < n * 2 → (w.cell? ⟨b, o + j, none⟩).isSome = true) (hf : ∀ j, j < n * 2 → w.frozen? ⟨b, o + j, none⟩ = false) :
    ∃ zs : List Value, ∀ ty, (Builtin.clear_ #[24] ty #[.slice (some ⟨b, o, none⟩) n c]).run Tryd.prog w = .ok (.tuple #[]) (w.setCells b o zs) := by
  refine ⟨(Builtin.zeroCells (Value.agg #[.string ⟨#[]⟩, .string ⟨#[]⟩]).cells n).toList, ?_⟩
  have hlen : (Builtin.zeroCells (Value.agg #[.string ⟨#[]⟩, .string ⟨#[]⟩]).cells n).toList.length = n * 2 := by simp [Builtin.zeroCells, Value.cells]
  have hone : ∀ v ∈ (Builtin.zeroCells (Value.agg #[.string ⟨#[]⟩, .string ⟨#[]⟩]).cells n).toList, v.oneCell' = true := by
    intro v hv
    simp [Builtin.zeroCells, Value.cells] at hv
    obtain ⟨i, _, rfl⟩ := hv
    rcases Nat.mod_two_eq_zero_or_one i with h | h <;> simp [h, Value.oneCell']
  have hst := run_storeCells_cells (P := Tryd.prog) b o _ 0 w (by rw [hlen]; simpa using hc) (by rw [hlen]; simpa using hf) hone
  simp only [Nat.add_zero] at hst
  have hv := Tryd.zeroValue57
  obtain ⟨m, rfl⟩ : ∃ m, n = m + 1 := ⟨n - 1, by omega⟩
  intro ty
  simp [Builtin.clear_, run_underlying Tryd.underlying24, hv, hst]

theorem at_list {d : Array Tg} {i : Nat} (h : i < d.toList.length) : d[i]! = d.toList[i] := by
  have h' : i < d.size := by simpa using h
  rw [getElem!_pos d i h']; simp

theorem tags_setCells {w : World} {g o : Nat} {ts : List Tg} (h : Tags w (some ⟨g, 0, none⟩) ts) (ho : ts.length * 2 ≤ o) (zs : List Value) : Tags (w.setCells g o zs) (some ⟨g, 0, none⟩) ts := by
  intro i u hu
  obtain ⟨b, off, e, hc⟩ := h i u hu
  injection e with e
  injection e with e1 e2
  subst e1 e2
  have hi : i < (flat ts).length := (List.getElem?_eq_some_iff.1 hu).1
  rw [flat_length] at hi
  exact ⟨g, 0, rfl, by rw [setCells_low g zs o w _ (by omega)]; exact hc⟩
end Go.Proofs.YtmaiggoinjldpaaDoor

/-
  Package tag: Normal. No statement of the seat is proved here.
-/
namespace Go.Proofs.YtmaiggoinjldpaaDoor
open Go.RowKit
end Go.Proofs.YtmaiggoinjldpaaDoor

/-
  Package tag: Normal and Is. No statement of the seat is proved here.
-/
namespace Go.Proofs.YtmaiggoinjldpaaDoor
open Go.RowKit

theorem tags_nil_of {w : World} {ts : List Tg} (h : Tags w none ts) : ts = [] := by
  rcases ts with _ | ⟨t, ts⟩
  · rfl
  · obtain ⟨b, off, e, _⟩ := h 0 _ rfl
    cases e

theorem own_rowT {w : World} {base g n cap : Nat} {ts : List Tg} (h : w.ownsRow base 57 2 (.slice (some ⟨g, 0, none⟩) n cap) n (flat ts)) (hn : ts.length = n) : RowT w g cap ts ∧ base ≤ g := by
  rcases h.2 with ⟨e, _⟩ | ⟨g', cap', cur, e, hg, hh, h1, h2, h3, h4⟩
  · cases e
  · injection e with e1 _ e3
    injection e1 with e1
    injection e1 with e1
    subst e1 e3
    exact ⟨⟨cur, hh, h3, by rw [hn]; exact h4, by omega⟩, hg⟩

/-- What Normal tells. -/
def NormP (w : World) (r : List Tg) (e : Ending) (w' : World) : Prop := (∃ A cap, e = .returned (.slice A r.length cap) ∧ Tags w' A r) ∧ Below w.heap.size w w'
/-- A slice that lies in new memory, if it lies anywhere. -/
def Fresh (lo : Nat) (A : Option Addr) : Prop := ∀ a, A = some a → lo ≤ a.block
theorem Fresh.low {lo lo' : Nat} {A : Option Addr} (h : Fresh lo A) (hl : lo' ≤ lo) : Fresh lo' A := fun a ha => Nat.le_trans hl (h a ha)
theorem Fresh.none_ (lo : Nat) : Fresh lo none := fun a h => by cases h
theorem Fresh.own {w : World} {base size n cap : Nat} {el : TypeId} {A : Option Addr} {xs : List Value} (h : w.ownsRow base el size (.slice A n cap) n xs) : Fresh base A := fun a ha => by
  rcases h.2 with ⟨h1, _⟩ | ⟨g, c, cur, hv, hg, _⟩
  · injection h1 with h1; rw [h1] at ha; cases ha
  · injection hv with hv; rw [hv] at ha; injection ha with ha; subst ha; exact hg
/-- The same, in new memory. -/
def NormF (w : World) (r : List Tg) (e : Ending) (w' : World) : Prop := (∃ A cap, e = .returned (.slice A r.length cap) ∧ Tags w' A r ∧ Fresh w.heap.size A) ∧ Below w.heap.size w w'
theorem NormF.p {w w' : World} {r : List Tg} {e : Ending} (h : NormF w r e w') : NormP w r e w' := by obtain ⟨⟨A, cap, h1, h2, _⟩, hb⟩ := h; exact ⟨⟨A, cap, h1, h2⟩, hb⟩

/-- These cells lie so, and nothing old has changed. -/
structure Cs (w0 : World) (L : List (Addr × Value)) (w : World) : Prop where
  kept : Below w0.heap.size w0 w
  has : ∀ x ∈ L, w.cell? x.1 = some x.2
section
variable {w0 w w' : World} {L : List (Addr × Value)}
theorem Cs.next (h : Cs w0 L w) (k : Below w.heap.size w w') : Cs w0 L w' := ⟨below_then h.kept k, fun x hx => (k.cell (cell_lt (h.has x hx))).trans (h.has x hx)⟩
theorem Cs.drew (h : Cs w0 L w) : Cs w0 L w.drew := h.next (Same.below (Same.drewN w 1))
theorem Cs.four {a b c d : Addr} {p q r s : Value} (h : Cs w0 [(a, p), (b, q), (c, r), (d, s)] w) : w.cell? a = some p ∧ w.cell? b = some q ∧ w.cell? c = some r ∧ w.cell? d = some s ∧ Cs w0 [(a, p), (b, q), (c, r), (d, s)] w :=
  ⟨h.has (a, p) (by simp), h.has (b, q) (by simp), h.has (c, r) (by simp), h.has (d, s) (by simp), h⟩
theorem Cs.of4 {P1 P2 P3 P4 : Prop} (h : P1 ∧ P2 ∧ P3 ∧ P4 ∧ Cs w0 L w) : Cs w0 L w := h.2.2.2.2
theorem Cs.mk4 {a b c d : Addr} {p q r s : Value} (h : Below w0.heap.size w0 w) (h1 : w.cell? a = some p) (h2 : w.cell? b = some q) (h3 : w.cell? c = some r) (h4 : w.cell? d = some s) : Cs w0 [(a, p), (b, q), (c, r), (d, s)] w :=
  ⟨h, fun x hx => by simp at hx; rcases hx with rfl | rfl | rfl | rfl <;> assumption⟩
end

set_option maxRecDepth 100000 in
set_option maxHeartbeats 4000000 in
theorem is_calls6 {w : World} {A : Option Addr} {n cap : Nat} {ts : List Tg} (hn : ts.length = n) (hA : Tags w A ts) (hz : n ≤ 1000) :
    Calls Tryd.prog 31 #[.slice A n cap] w fun e w' => e = .returned (.bool (decide (ts = norm ts))) ∧ Below w.heap.size w w' := by
  obtain ⟨q, hq⟩ : ∃ q, decide (ts = norm ts) = q := ⟨_, rfl⟩
  rw [hq]
  have HQ := Lib.hid hq
  have HA := Lib.hid (And.intro hn hA)
  clear hq hn hA
  go_enter Tryd.func31, Tryd.ntmps31
  go_wp2_with fail
  go_loopw [3] (fun v wr => ∃ i : Nat, v = .int .i64 ((i : Int) + 1) ∧ i ≤ n ∧ Hid (Below w.heap.size w wr ∧ ∀ j (h : j + 1 < ts.length), j < i → ltT (ts[j]'(by omega)) ts[j + 1] = true)) (fun v _ => n + 1 - (intOf v).toNat)
  case atStart => exact ⟨0, by go_num, by omega, ⟨Below.refl _ _, fun j _ hj => absurd hj (by omega)⟩⟩
  case round =>
    obtain ⟨i, rfl, hin, hrel⟩ := hrel
    by_cases hlt : i + 1 < n
    · have g1 : (i : Int) + 1 < (n : Int) := by omega
      obtain ⟨hn, hA⟩ := HA.out
      have l1 : i + 1 < ts.length := by omega
      have l0 : i < ts.length := by omega
      have hA' := hA.keep hrel.out.1
      obtain ⟨b, off, e1, c0, c1⟩ := hA'.at_ l1
      subst e1
      obtain ⟨d0, d1⟩ := hA'.cells l0
      have hL := fun W => less_calls (Str.mk ts[i].1) (Str.mk ts[i].2) (Str.mk ts[i + 1].1) (Str.mk ts[i + 1].2) W
      generalize (⟨ts[i + 1].1.toArray⟩ : ByteArray) = s at c0 hL
      generalize (⟨ts[i + 1].2.toArray⟩ : ByteArray) = t at c1 hL
      generalize (⟨ts[i].1.toArray⟩ : ByteArray) = s' at d0 hL
      generalize (⟨ts[i].2.toArray⟩ : ByteArray) = t' at d1 hL
      obtain ⟨p, hp⟩ : ∃ p, ltT ts[i] ts[i + 1] = p := ⟨_, rfl⟩
      rw [hp] at hL
      have HP := Lib.hid hp
      have HL := Lib.hid (fun w' (h : Cs w [(⟨b, off + i * 2, none⟩, .string s'), (⟨b, off + i * 2 + 1, none⟩, .string t'), (⟨b, off + (i + 1) * 2, none⟩, .string s), (⟨b, off + (i + 1) * 2 + 1, none⟩, .string t)] w') => (hL w').mono fun e w'' (k : _ ∧ _) => And.intro k.1 (h.next k.2.below))
      have HS := Lib.hid (Cs.mk4 hrel.out.1 d0 d1 c0 c1).drew
      clear hn hA hA' hL hp
      have hwp : IntKind.i64.wrap (i : Int) = (i : Int) := by rw [IntKind.wrap_i64]; omega
      have g0 : (0 : Int) ≤ (i : Int) + 1 := by omega
      have g2 : (0 : Int) ≤ (i : Int) := by omega
      have g3 : (i : Int) < (n : Int) := by omega
      have g4 : ((i : Int) + 1).toNat = i + 1 := by omega
      go_wp2_with fail
      clear c0 c1 d0 d1
      go_region_held3 (fun w' => w'.cell? ⟨b, off + i * 2, none⟩ = some (.string s') ∧ w'.cell? ⟨b, off + i * 2 + 1, none⟩ = some (.string t') ∧ w'.cell? ⟨b, off + (i + 1) * 2, none⟩ = some (.string s) ∧ w'.cell? ⟨b, off + (i + 1) * 2 + 1, none⟩ = some (.string t) ∧ Cs w [(⟨b, off + i * 2, none⟩, .string s'), (⟨b, off + i * 2 + 1, none⟩, .string t'), (⟨b, off + (i + 1) * 2, none⟩, .string s), (⟨b, off + (i + 1) * 2 + 1, none⟩, .string t)] w')
        (first | exact Cs.four HS.out | exact Cs.four HB6.out)
        (first | (go_at_call 57; refine (HL.out _ (Cs.of4 (by assumption))).mono ?_; rintro e w6 ⟨rfl, hb6⟩; have HB6 := Lib.hid hb6; clear hb6))
      cases p
      · have HE := Lib.hid (show q = false by
          rw [← HQ.out]
          refine decide_eq_false fun e => ?_
          have := asc_up.2 (up_iff.2 e) i l1
          rw [HP.out] at this; cases this)
        go_wp2_with fail
        go_ret
        exact ⟨by rw [HE.out]; first | done | rfl, HB6.out.kept⟩
      · go_wp2_with fail
        refine ⟨⟨i + 1, by go_num, by omega, ⟨HB6.out.kept, fun j h hj => ?_⟩⟩, by simp [intOf]; omega⟩
        rcases Nat.lt_or_ge j i with h' | h'
        · exact hrel.out.2 j h h'
        · obtain rfl : i = j := by omega
          exact HP.out
    · have g1 : ¬ (i : Int) + 1 < (n : Int) := by omega
      have HE := Lib.hid (show q = true by
        rw [← HQ.out]
        refine decide_eq_true (up_iff.1 (asc_up.1 fun j h => hrel.out.2 j h ?_))
        have := HA.out.1
        omega)
      go_wp2_with fail
      go_ret
      exact ⟨by rw [HE.out]; first | done | rfl, hrel.out.1⟩
end Go.Proofs.YtmaiggoinjldpaaDoor

/-
  What lies so while a law goes on: cells, and rows of tags. No statement of the seat is proved here.
-/
namespace Go.Proofs.YtmaiggoinjldpaaDoor
open Go.RowKit

/-- These cells, and these rows of tags, lie so, and nothing old has changed. -/
structure Kp (w0 : World) (L : List (Addr × Value)) (R : List (Option Addr × List Tg)) (w : World) : Prop where
  kept : Below w0.heap.size w0 w
  has : ∀ x ∈ L, w.cell? x.1 = some x.2
  rows : ∀ x ∈ R, Tags w x.1 x.2
section
variable {w0 w w' : World} {L : List (Addr × Value)} {R : List (Option Addr × List Tg)}
theorem Kp.start (w : World) : Kp w [] [] w := ⟨Below.refl _ _, by simp, by simp⟩
theorem Kp.next (h : Kp w0 L R w) (k : Below w.heap.size w w') : Kp w0 L R w' := ⟨below_then h.kept k, fun x hx => (k.cell (cell_lt (h.has x hx))).trans (h.has x hx), fun x hx => (h.rows x hx).keep k⟩
theorem Kp.drew (h : Kp w0 L R w) : Kp w0 L R w.drew := h.next (Same.below (Same.drewN w 1))
theorem Kp.alloc (h : Kp w0 L R w) (o : Obj) : Kp w0 L R (w.alloc o) := h.next ((Below.refl _ _).alloc (Nat.le_refl _) o)
theorem Kp.push (h : Kp w0 L R w) (t : TypeId) (a b : Value) : Kp w0 ((⟨w.heap.size, 0, none⟩, a) :: (⟨w.heap.size, 1, none⟩, b) :: L) R (w.alloc (.cells #[a, b] t)) := by
  have h' := h.alloc (.cells #[a, b] t)
  refine ⟨h'.kept, fun x hx => ?_, h'.rows⟩
  have hb := Box.new w t [a, b]
  rcases List.mem_cons.1 hx with rfl | hx
  · exact hb.cell 0
  · rcases List.mem_cons.1 hx with rfl | hx
    · exact hb.cell 1
    · exact h'.has x hx
theorem Kp.row (h : Kp w0 L R w) {A : Option Addr} {ts : List Tg} (ha : Tags w A ts) : Kp w0 L ((A, ts) :: R) w := ⟨h.kept, h.has, fun x hx => by
  rcases List.mem_cons.1 hx with rfl | hx
  · exact ha
  · exact h.rows x hx⟩
theorem Kp.cell {a : Addr} {v : Value} (h : Kp w0 L R w) (hm : (a, v) ∈ L) : w.cell? a = some v := h.has (a, v) hm
theorem Kp.tags {A : Option Addr} {ts : List Tg} (h : Kp w0 L R w) (hm : (A, ts) ∈ R) : Tags w A ts := h.rows (A, ts) hm
end

theorem tags_lit {w : World} {n : Nat} (hn : w.heap.size = n) (ts : List Tg) : Tags (w.alloc (.cells (flat ts).toArray 57)) (some ⟨n, 0, none⟩) ts := by
  subst hn
  intro i u hu
  exact ⟨w.heap.size, 0, rfl, by rw [Nat.zero_add, (Box.new w 57 (flat ts)).cell i]; exact hu⟩

theorem Tags.drew {w : World} {A : Option Addr} {ts : List Tg} (h : Tags w A ts) : Tags w.drew A ts := h.keep (Same.below (Same.drewN w 1))
theorem Tags.alloc {w : World} {A : Option Addr} {ts : List Tg} (h : Tags w A ts) (o : Obj) : Tags (w.alloc o) A ts := h.keep ((Below.refl _ _).alloc (Nat.le_refl _) o)
end Go.Proofs.YtmaiggoinjldpaaDoor
