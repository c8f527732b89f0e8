/-
  Rows of Decs, and appends onto rows of our own of any element. No statement of the seat is proved here.
-/
import Derived.Test.YtdliookdmgilgaaGreatDoorGrMem
import Derived.Test.YtdliookdmgilgaaGreatDoorTLess
import Derived.Test.YtdliookdmgilgaaGreatDoorGrDigs
namespace Go.Proofs.YtdliookdmgilgaaGreatDoor
open Go.RowKit
open Dc (D D0)

/-! Appends, whatever the elements are. -/
section
variable (w : World)
/-- What is known of a row's type. -/
structure RowTy (sl el : TypeId) (z : Value) (size bytes : Nat) : Prop where
  under : Tryz.prog.underlying sl = some (.slice el)
  info : (Tryz.prog.info? el).map (fun i => (i.zero, i.size, i.bytes)) = some (some z, size, bytes)
  cells : z.cells.size = size
  pos : 0 < size
  few : bytes ≤ 128

set_option maxRecDepth 100000 in
theorem run_append_rows {sl el : TypeId} {z : Value} {size bytes : Nat} (T : RowTy sl el z size bytes) (base : Nat) (ty : TypeId) (v : Value) (n : Nat) (xs : List Value) (hown : w.ownsRow base el size v n xs)
    (A : Option Addr) (m c : Nat) (ys : List Value) (hl : ys.length = m * size) (hv : Lies w A ys) (h1 : ∀ u ∈ ys, u.oneCell' = true) (hfit : n + m ≤ 1000000) (hbase : base ≤ w.heap.size) :
    ∃ v' w', (Builtin.append_ #[sl, sl] ty #[v, .slice A m c]).run Tryz.prog w = .ok v' w' ∧ w'.ownsRow base el size v' (n + m) (xs ++ ys) ∧ w.grownBy w' v.ownBlock ∧
      (v'.ownBlock = v.ownBlock ∨ v'.ownBlock = some w.heap.size) := by
  obtain ⟨i, hi, hz, hs1, hb1⟩ := info_parts T.info
  have hby : (n + m) * bytes ≤ 140737488355328 := Nat.le_trans (Nat.mul_le_mul hfit T.few) (by omega)
  rcases A with _ | a
  · have h0 : ys = [] := by
      rcases ys with _ | ⟨u, us⟩
      · rfl
      · obtain ⟨b, off, e, _⟩ := hv 0 _ rfl
        cases e
    subst h0
    have hm : m = 0 := by
      have := T.pos
      rcases Nat.eq_zero_or_pos m with h | h
      · exact h
      · have := Nat.mul_pos h T.pos
        simp at hl
        omega
    subst hm
    refine ⟨v, w, ?_, by simpa using hown, World.grownBy.refl w _, .inl rfl⟩
    rcases hown.2 with ⟨rfl, rfl⟩ | ⟨g, cap, cur, rfl, _, _, hnc, _⟩
    · simp [Builtin.append_, run_underlying T.under, sizeOf, typeInfo, hi, Builtin.lenOf, Builtin.firstCells]
    · simp [Builtin.append_, run_underlying T.under, sizeOf, typeInfo, hi, Builtin.lenOf, Builtin.firstCells, hnc, storeCells]
  · obtain ⟨v', w', hr, h2, h3, _, h5⟩ := run_append_own_at (P := Tryz.prog) w base sl ty el _ z size bytes T.under hi hz hs1 hb1 T.cells T.pos v n xs hown a m c ys hl (fun j u hu => by
      obtain ⟨b, off, e, hc⟩ := hv j u hu
      injection e with e
      subst e
      rcases Nat.eq_zero_or_pos j with rfl | hj
      · simpa [Addr.add] using hc
      · simpa [Addr.add, Nat.ne_of_gt hj] using hc) h1 (by unfold maxLen; omega) hby hbase
    exact ⟨v', w', hr, h2, h3, h5⟩

theorem wpList_append_rows {sl el : TypeId} {z : Value} {size bytes : Nat} (T : RowTy sl el z size bytes) {ops : Array Oper} {rest : List Oper} {o : Oper} {a : Act} {Q : Exit → Act → World → Prop} (hgd : o.guard = none) (s x : Operand)
    (ho : o.op = .call { callee := .builtin .append, args := #[s, x], argTypes := #[sl, sl] })
    (base : Nat) (v : Value) (n : Nat) (xs : List Value) (hs : a.eval s = v) (hown : w.ownsRow base el size v n xs)
    (A : Option Addr) (m c : Nat) (ys : List Value) (hx : a.eval x = .slice A m c) (hl : ys.length = m * size) (hv : Lies w A ys) (h1 : ∀ u ∈ ys, u.oneCell' = true)
    (hfit : n + m ≤ 1000000) (hbase : base ≤ w.heap.size)
    (h : ∀ v' w', w'.ownsRow base el size v' (n + m) (xs ++ ys) → w.grownBy w' v.ownBlock → (v'.ownBlock = v.ownBlock ∨ v'.ownBlock = some w.heap.size) → wpList Tryz.prog ops Q rest (a.put o.dst v') w') :
    wpList Tryz.prog ops Q (o :: rest) a w := by
  refine wpList_plain hgd fun K hK => ?_
  obtain ⟨v', w', hr, h2, h3, h4⟩ := run_append_rows w T base o.type v n xs hown A m c ys hl hv h1 hfit hbase
  unfold Oper.wp execOp
  simp only [ho, resolve, invoke, builtin, Sem.run_bind, Sem.run_pure, Result.andThen_ok, List.map_toArray, List.map_cons, List.map_nil, hs, hx, hr]
  exact hK _ _ (h v' w' h2 h3 h4)

theorem grown_own {w W w8 : World} {el : TypeId} {size n : Nat} {v : Value} {xs : List Value} (hb : Below w.heap.size w W) (hown : W.ownsRow w.heap.size el size v n xs) (hg : W.grownBy w8 v.ownBlock) : Below w.heap.size w w8 :=
  hb.grown hg hb.size fun k hk => by
    rcases hown.2 with ⟨rfl, _⟩ | ⟨g, cap, cur, rfl, h, _⟩
    · cases hk
    · injection hk with hk; subst hk; exact h
theorem rowDec : RowTy 22 50 (.agg #[.bool false, .int .u64 0, .int .i64 0]) 3 24 := ⟨Tryz.underlying22, by kernel_rfl, rfl, by omega, by omega⟩
theorem rowTag : RowTy 23 54 (.agg #[.string ⟨#[]⟩, .string ⟨#[]⟩]) 2 32 := ⟨Tryz.underlying23, by kernel_rfl, rfl, by omega, by omega⟩
end

/-! Decs. -/
/-- A Dec's three cells. -/
structure Dl (n : Bool) (x y : Int) (d : D) : Prop where
  neg : n = d.neg
  c : x = (d.c : Int)
  e : y = d.e
theorem Dl.mk_ (d : D) : Dl d.neg d.c d.e d := ⟨rfl, rfl, rfl⟩
def encD (d : D) : List Value := [.bool d.neg, .int .u64 d.c, .int .i64 d.e]
def flatD (ds : List D) : List Value := ds.flatMap encD
theorem flatD_nil : flatD [] = [] := rfl
theorem flatD_cons (d : D) (ds : List D) : flatD (d :: ds) = .bool d.neg :: .int .u64 d.c :: .int .i64 d.e :: flatD ds := rfl
theorem flatD_append (a b : List D) : flatD (a ++ b) = flatD a ++ flatD b := by unfold flatD; rw [List.flatMap_append]
theorem flatD_length : ∀ ds : List D, (flatD ds).length = ds.length * 3
  | [] => rfl
  | d :: ds => by rw [flatD_cons, List.length_cons, List.length_cons, List.length_cons, flatD_length ds, List.length_cons]; omega
theorem flatD_get0 : ∀ (ds : List D) (i : Nat), (flatD ds)[i * 3]? = ds[i]?.map fun d => .bool d.neg
  | [], i => by simp [flatD_nil]
  | t :: ts, 0 => rfl
  | t :: ts, i + 1 => by rw [flatD_cons, show (i + 1) * 3 = i * 3 + 1 + 1 + 1 by omega]; simp only [List.getElem?_cons_succ]; exact flatD_get0 ts i
theorem flatD_get1 : ∀ (ds : List D) (i : Nat), (flatD ds)[i * 3 + 1]? = ds[i]?.map fun d => .int .u64 d.c
  | [], i => by simp [flatD_nil]
  | t :: ts, 0 => rfl
  | t :: ts, i + 1 => by rw [flatD_cons, show (i + 1) * 3 + 1 = i * 3 + 1 + 1 + 1 + 1 by omega]; simp only [List.getElem?_cons_succ]; exact flatD_get1 ts i
theorem flatD_get2 : ∀ (ds : List D) (i : Nat), (flatD ds)[i * 3 + 2]? = ds[i]?.map fun d => .int .i64 d.e
  | [], i => by simp [flatD_nil]
  | t :: ts, 0 => rfl
  | t :: ts, i + 1 => by rw [flatD_cons, show (i + 1) * 3 + 2 = i * 3 + 2 + 1 + 1 + 1 by omega]; simp only [List.getElem?_cons_succ]; exact flatD_get2 ts i
theorem flatD_cells : ∀ {ds : List D}, ∀ u ∈ flatD ds, u.oneCell' = true := by
  intro ts u hu
  obtain ⟨t, _, hu⟩ := List.mem_flatMap.1 hu
  simp [encD] at hu
  rcases hu with rfl | rfl | rfl <;> rfl

/-- The slice at A holds these Decs. -/
def Decs (w : World) (A : Option Addr) (ds : List D) : Prop := Lies w A (flatD ds)
section
variable {w w' : World} {A : Option Addr} {ds : List D}
theorem Decs.nil : Decs w A [] := Lies.nil
theorem Decs.keep (h : Decs w A ds) (hb : Below w.heap.size w w') : Decs w' A ds := Lies.keep h hb
theorem Decs.get {i : Nat} (h : Decs w A ds) (hi : i < ds.length) : ∃ b off n x y, A = some ⟨b, off, none⟩ ∧ w.cell? ⟨b, off + i * 3, none⟩ = some (.bool n) ∧ w.cell? ⟨b, off + i * 3 + 1, none⟩ = some (.int .u64 x) ∧ w.cell? ⟨b, off + i * 3 + 2, none⟩ = some (.int .i64 y) ∧ Dl n x y ds[i] := by
  obtain ⟨b, off, e, h0⟩ := h (i * 3) _ (by rw [flatD_get0, List.getElem?_eq_getElem hi]; rfl)
  obtain ⟨b', off', e', h1⟩ := h (i * 3 + 1) _ (by rw [flatD_get1, List.getElem?_eq_getElem hi]; rfl)
  obtain ⟨b2, off2, e2, h2⟩ := h (i * 3 + 2) _ (by rw [flatD_get2, List.getElem?_eq_getElem hi]; rfl)
  rw [e] at e' e2
  injection e' with e'
  injection e' with e1 e3
  subst e1 e3
  injection e2 with e2
  injection e2 with e1 e3
  subst e1 e3
  exact ⟨b, off, _, _, _, e, h0, h1, h2, Dl.mk_ _⟩
theorem Decs.of_own {base n cap : Nat} (h : w.ownsRow base 50 3 (.slice A n cap) n (flatD ds)) : Decs w A ds := Lies.of_own h
theorem Decs.nil_of (h : Decs w none ds) : ds = [] := by
  rcases ds with _ | ⟨t, ts⟩
  · rfl
  · obtain ⟨b, off, e, _⟩ := h 0 _ rfl
    cases e
theorem Decs.drew (h : Decs w A ds) : Decs w.drew A ds := h.keep (Same.below (Same.drewN w 1))
theorem Decs.alloc (h : Decs w A ds) (o : Obj) : Decs (w.alloc o) A ds := h.keep ((Below.refl _ _).alloc (Nat.le_refl _) o)
theorem own_lenD {base n : Nat} {v : Value} (h : w.ownsRow base 50 3 v n (flatD ds)) : ds.length = n := by have := h.1; rw [flatD_length] at this; omega
end
theorem decs_lit {w : World} {n : Nat} (hn : w.heap.size = n) (ds : List D) : Decs (w.alloc (.cells (flatD ds).toArray 50)) (some ⟨n, 0, none⟩) ds := by
  subst hn
  intro i u hu
  exact ⟨w.heap.size, 0, rfl, by rw [Nat.zero_add, (Box.new w 50 (flatD ds)).cell i]; exact hu⟩
theorem decs_at {w : World} {n : Nat} {p : Bool} {x y : Int} {d : D} (hn : w.heap.size = n) (h : Dl p x y d) : Decs (w.alloc (.cells #[.bool p, .int .u64 x, .int .i64 y] 50)) (some ⟨n, 0, none⟩) [d] := by
  rw [h.neg, h.c, h.e]; exact decs_lit hn [d]
theorem own_emptyD (w : World) : (w.alloc (.cells #[] 50)).ownsRow w.heap.size 50 3 (.slice (some ⟨w.heap.size, 0, none⟩) 0 0) 0 (flatD []) :=
  ⟨rfl, .inr ⟨w.heap.size, 0, #[], rfl, Nat.le_refl _, Box.new w 50 [], by omega, by unfold maxLen; omega, rfl, rfl⟩⟩
theorem own_nilD (w : World) (base : Nat) : w.ownsRow base 50 3 (.slice none 0 0) 0 (flatD []) := ⟨rfl, .inl ⟨rfl, rfl⟩⟩

section
variable {n n' : Bool} {x y x' y' : Int} {a b : D}
theorem deq_in (h : Dl n x y a) (h' : Dl n' x' y' b) (w : World) : (Op.equalIn 10000 50 (.agg #[.bool n, .int .u64 x, .int .i64 y]) (.agg #[.bool n', .int .u64 x', .int .i64 y'])).run Tryz.prog w = .ok (decide (a = b)) w := by
  have u3 := Tryz.underlying3
  have a3 := Tryz.isAgg3
  have z3 := Tryz.sizeOf3
  have u4 := Tryz.underlying4
  have a4 := Tryz.isAgg4
  have z4 := Tryz.sizeOf4
  have u5 := Tryz.underlying48
  have a5 := Tryz.isAgg48
  have z5 := Tryz.sizeOf48
  have hS : Tryz.prog.underlying 50 = some (.struct (Tryz.prog.fieldsOf 50)) := by kernel_rfl
  have hp : Tryz.prog.stoodInHeld 50 = false := by kernel_rfl
  rw [show (10000 : Nat) = 9999 + 1 from rfl, run_equalIn_agg w 9999 50 _ _ hS hp]
  simp only [Program.fieldsOf, Tryz.underlying50]
  go_simp
  obtain ⟨h1, h2, h3⟩ := h
  obtain ⟨k1, k2, k3⟩ := h'
  have key : (a = b) ↔ (n = n' ∧ x = x' ∧ y = y') := by
    obtain ⟨p, q, r⟩ := a
    obtain ⟨p', q', r'⟩ := b
    simp only [Dc.D.mk.injEq]
    simp only [] at h1 h2 h3 k1 k2 k3
    subst h1 h3 k1 k3
    exact ⟨fun ⟨e1, e2, e3⟩ => ⟨e1, by omega, e3⟩, fun ⟨e1, e2, e3⟩ => ⟨e1, by omega, e3⟩⟩
  rw [show decide (a = b) = decide (n = n' ∧ x = x' ∧ y = y') from decide_eq_decide.2 key]
  by_cases e1 : n = n' <;> by_cases e2 : x = x' <;> by_cases e3 : y = y' <;> simp [e1, e2, e3]
theorem deq_run (h : Dl n x y a) (h' : Dl n' x' y' b) {q : Bool} (hq : decide (a = b) = q) (w : World) : (binOp .eql 50 (.agg #[.bool n, .int .u64 x, .int .i64 y]) (.agg #[.bool n', .int .u64 x', .int .i64 y'])).run Tryz.prog w = .ok (.bool q) w := by
  rw [run_eql_struct, deq_in h h', hq]; rfl
theorem dne_run (h : Dl n x y a) (h' : Dl n' x' y' b) {q : Bool} (hq : decide (a = b) = q) (w : World) : (binOp .neq 50 (.agg #[.bool n, .int .u64 x, .int .i64 y]) (.agg #[.bool n', .int .u64 x', .int .i64 y'])).run Tryz.prog w = .ok (.bool (!q)) w := by
  rw [run_neq_struct, deq_in h h', hq]; rfl
theorem dguard (op : BinOp) (p q : Operand) (xs ys : Array Value) (w : World) : (eqGuard op 50 p q (.agg xs) (.agg ys)).run Tryz.prog w = .ok () w := run_eqGuard_agg w op _ p q xs ys (by kernel_rfl)
end
end Go.Proofs.YtdliookdmgilgaaGreatDoor
