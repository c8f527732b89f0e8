/-
  MRows, OgCut, MParts1, MParts2, MCheck, MForms, MEqual. No statement of the seat is proved here.
-/
import Derived.Test.YtbcmchkgamkceaaGreatDoorGrTMath
import Derived.Test.YtbcmchkgamkceaaGreatDoorTLess
import Derived.Test.YtbcmchkgamkceaaGreatDoorGrDLift
import Derived.Test.YtbcmchkgamkceaaGreatDoorGrSdMath
import Derived.RegionTactic
import Derived.ChangeAlike
import Derived.BigRegion
import Derived.Test.YtbcmchkgamkceaaGreatDoorGrTCheck
import Derived.Test.YtbcmchkgamkceaaGreatDoorGrTText
import Derived.OwnWalk
/-
  Rows of Decs, and appends onto rows of our own of any element. No statement of the seat is proved here.
-/
namespace Go.Proofs.YtbcmchkgamkceaaGreatDoor
open Go.RowKit
open Dc (D D0)

/-! Appends, whatever the elements are. -/
section
variable (w : World)
/-- What is known of a row's type. -/
structure RowTy (sl el : TypeId) (z : Value) (size bytes : Nat) : Prop where
  under : Tryz.prog.underlying sl = some (.slice el)
  info : (Tryz.prog.info? el).map (fun i => (i.zero, i.size, i.bytes)) = some (some z, size, bytes)
  cells : z.cells.size = size
  pos : 0 < size
  few : bytes ≤ 128

set_option maxRecDepth 100000 in
theorem run_append_rows {sl el : TypeId} {z : Value} {size bytes : Nat} (T : RowTy sl el z size bytes) (base : Nat) (ty : TypeId) (v : Value) (n : Nat) (xs : List Value) (hown : w.ownsRow base el size v n xs)
    (A : Option Addr) (m c : Nat) (ys : List Value) (hl : ys.length = m * size) (hv : Lies w A ys) (h1 : ∀ u ∈ ys, u.oneCell' = true) (hfit : n + m ≤ 1000000) (hbase : base ≤ w.heap.size) :
    ∃ v' w', (Builtin.append_ #[sl, sl] ty #[v, .slice A m c]).run Tryz.prog w = .ok v' w' ∧ w'.ownsRow base el size v' (n + m) (xs ++ ys) ∧ w.grownBy w' v.ownBlock ∧
      (v'.ownBlock = v.ownBlock ∨ v'.ownBlock = some w.heap.size) := by
  obtain ⟨i, hi, hz, hs1, hb1⟩ := info_parts T.info
  have hby : (n + m) * bytes ≤ 140737488355328 := Nat.le_trans (Nat.mul_le_mul hfit T.few) (by omega)
  rcases A with _ | a
  · have h0 : ys = [] := by
      rcases ys with _ | ⟨u, us⟩
      · rfl
      · obtain ⟨b, off, e, _⟩ := hv 0 _ rfl
        cases e
    subst h0
    have hm : m = 0 := by
      have := T.pos
      rcases Nat.eq_zero_or_pos m with h | h
      · exact h
      · have := Nat.mul_pos h T.pos
        simp at hl
        omega
    subst hm
    refine ⟨v, w, ?_, by simpa using hown, World.grownBy.refl w _, .inl rfl⟩
    rcases hown.2 with ⟨rfl, rfl⟩ | ⟨g, cap, cur, rfl, _, _, hnc, _⟩
    · simp [Builtin.append_, run_underlying T.under, sizeOf, typeInfo, hi, Builtin.lenOf, Builtin.firstCells]
    · simp [Builtin.append_, run_underlying T.under, sizeOf, typeInfo, hi, Builtin.lenOf, Builtin.firstCells, hnc, storeCells]
  · obtain ⟨v', w', hr, h2, h3, _, h5⟩ := run_append_own_at (P := Tryz.prog) w base sl ty el _ z size bytes T.under hi hz hs1 hb1 T.cells T.pos v n xs hown a m c ys hl (fun j u hu => by
      obtain ⟨b, off, e, hc⟩ := hv j u hu
      injection e with e
      subst e
      rcases Nat.eq_zero_or_pos j with rfl | hj
      · simpa [Addr.add] using hc
      · simpa [Addr.add, Nat.ne_of_gt hj] using hc) h1 (by unfold maxLen; omega) hby hbase
    exact ⟨v', w', hr, h2, h3, h5⟩

theorem wpList_append_rows {sl el : TypeId} {z : Value} {size bytes : Nat} (T : RowTy sl el z size bytes) {ops : Array Oper} {rest : List Oper} {o : Oper} {a : Act} {Q : Exit → Act → World → Prop} (hgd : o.guard = none) (s x : Operand)
    (ho : o.op = .call { callee := .builtin .append, args := #[s, x], argTypes := #[sl, sl] })
    (base : Nat) (v : Value) (n : Nat) (xs : List Value) (hs : a.eval s = v) (hown : w.ownsRow base el size v n xs)
    (A : Option Addr) (m c : Nat) (ys : List Value) (hx : a.eval x = .slice A m c) (hl : ys.length = m * size) (hv : Lies w A ys) (h1 : ∀ u ∈ ys, u.oneCell' = true)
    (hfit : n + m ≤ 1000000) (hbase : base ≤ w.heap.size)
    (h : ∀ v' w', w'.ownsRow base el size v' (n + m) (xs ++ ys) → w.grownBy w' v.ownBlock → (v'.ownBlock = v.ownBlock ∨ v'.ownBlock = some w.heap.size) → wpList Tryz.prog ops Q rest (a.put o.dst v') w') :
    wpList Tryz.prog ops Q (o :: rest) a w := by
  refine wpList_plain hgd fun K hK => ?_
  obtain ⟨v', w', hr, h2, h3, h4⟩ := run_append_rows w T base o.type v n xs hown A m c ys hl hv h1 hfit hbase
  unfold Oper.wp execOp
  simp only [ho, resolve, invoke, builtin, Sem.run_bind, Sem.run_pure, Result.andThen_ok, List.map_toArray, List.map_cons, List.map_nil, hs, hx, hr]
  exact hK _ _ (h v' w' h2 h3 h4)

theorem grown_own {w W w8 : World} {el : TypeId} {size n : Nat} {v : Value} {xs : List Value} (hb : Below w.heap.size w W) (hown : W.ownsRow w.heap.size el size v n xs) (hg : W.grownBy w8 v.ownBlock) : Below w.heap.size w w8 :=
  hb.grown hg hb.size fun k hk => by
    rcases hown.2 with ⟨rfl, _⟩ | ⟨g, cap, cur, rfl, h, _⟩
    · cases hk
    · injection hk with hk; subst hk; exact h
theorem rowDec : RowTy 32 51 (.agg #[.bool false, .int .u64 0, .int .i64 0]) 3 24 := ⟨Tryz.underlying32, by kernel_rfl, rfl, by omega, by omega⟩
theorem rowTag : RowTy 33 53 (.agg #[.string ⟨#[]⟩, .string ⟨#[]⟩]) 2 32 := ⟨Tryz.underlying33, by kernel_rfl, rfl, by omega, by omega⟩
end

/-! Decs. -/
/-- A Dec's three cells. -/
structure Dl (n : Bool) (x y : Int) (d : D) : Prop where
  neg : n = d.neg
  c : x = (d.c : Int)
  e : y = d.e
theorem Dl.mk_ (d : D) : Dl d.neg d.c d.e d := ⟨rfl, rfl, rfl⟩
def encD (d : D) : List Value := [.bool d.neg, .int .u64 d.c, .int .i64 d.e]
def flatD (ds : List D) : List Value := ds.flatMap encD
theorem flatD_nil : flatD [] = [] := rfl
theorem flatD_cons (d : D) (ds : List D) : flatD (d :: ds) = .bool d.neg :: .int .u64 d.c :: .int .i64 d.e :: flatD ds := rfl
theorem flatD_append (a b : List D) : flatD (a ++ b) = flatD a ++ flatD b := by unfold flatD; rw [List.flatMap_append]
theorem flatD_length : ∀ ds : List D, (flatD ds).length = ds.length * 3
  | [] => rfl
  | d :: ds => by rw [flatD_cons, List.length_cons, List.length_cons, List.length_cons, flatD_length ds, List.length_cons]; omega
theorem flatD_get0 : ∀ (ds : List D) (i : Nat), (flatD ds)[i * 3]? = ds[i]?.map fun d => .bool d.neg
  | [], i => by simp [flatD_nil]
  | t :: ts, 0 => rfl
  | t :: ts, i + 1 => by rw [flatD_cons, show (i + 1) * 3 = i * 3 + 1 + 1 + 1 by omega]; simp only [List.getElem?_cons_succ]; exact flatD_get0 ts i
theorem flatD_get1 : ∀ (ds : List D) (i : Nat), (flatD ds)[i * 3 + 1]? = ds[i]?.map fun d => .int .u64 d.c
  | [], i => by simp [flatD_nil]
  | t :: ts, 0 => rfl
  | t :: ts, i + 1 => by rw [flatD_cons, show (i + 1) * 3 + 1 = i * 3 + 1 + 1 + 1 + 1 by omega]; simp only [List.getElem?_cons_succ]; exact flatD_get1 ts i
theorem flatD_get2 : ∀ (ds : List D) (i : Nat), (flatD ds)[i * 3 + 2]? = ds[i]?.map fun d => .int .i64 d.e
  | [], i => by simp [flatD_nil]
  | t :: ts, 0 => rfl
  | t :: ts, i + 1 => by rw [flatD_cons, show (i + 1) * 3 + 2 = i * 3 + 2 + 1 + 1 + 1 by omega]; simp only [List.getElem?_cons_succ]; exact flatD_get2 ts i
theorem flatD_cells : ∀ {ds : List D}, ∀ u ∈ flatD ds, u.oneCell' = true := by
  intro ts u hu
  obtain ⟨t, _, hu⟩ := List.mem_flatMap.1 hu
  simp [encD] at hu
  rcases hu with rfl | rfl | rfl <;> rfl

/-- The slice at A holds these Decs. -/
def Decs (w : World) (A : Option Addr) (ds : List D) : Prop := Lies w A (flatD ds)
section
variable {w w' : World} {A : Option Addr} {ds : List D}
theorem Decs.nil : Decs w A [] := Lies.nil
theorem Decs.keep (h : Decs w A ds) (hb : Below w.heap.size w w') : Decs w' A ds := Lies.keep h hb
theorem Decs.get {i : Nat} (h : Decs w A ds) (hi : i < ds.length) : ∃ b off n x y, A = some ⟨b, off, none⟩ ∧ w.cell? ⟨b, off + i * 3, none⟩ = some (.bool n) ∧ w.cell? ⟨b, off + i * 3 + 1, none⟩ = some (.int .u64 x) ∧ w.cell? ⟨b, off + i * 3 + 2, none⟩ = some (.int .i64 y) ∧ Dl n x y ds[i] := by
  obtain ⟨b, off, e, h0⟩ := h (i * 3) _ (by rw [flatD_get0, List.getElem?_eq_getElem hi]; rfl)
  obtain ⟨b', off', e', h1⟩ := h (i * 3 + 1) _ (by rw [flatD_get1, List.getElem?_eq_getElem hi]; rfl)
  obtain ⟨b2, off2, e2, h2⟩ := h (i * 3 + 2) _ (by rw [flatD_get2, List.getElem?_eq_getElem hi]; rfl)
  rw [e] at e' e2
  injection e' with e'
  injection e' with e1 e3
  subst e1 e3
  injection e2 with e2
  injection e2 with e1 e3
  subst e1 e3
  exact ⟨b, off, _, _, _, e, h0, h1, h2, Dl.mk_ _⟩
theorem Decs.of_own {base n cap : Nat} (h : w.ownsRow base 51 3 (.slice A n cap) n (flatD ds)) : Decs w A ds := Lies.of_own h
theorem Decs.nil_of (h : Decs w none ds) : ds = [] := by
  rcases ds with _ | ⟨t, ts⟩
  · rfl
  · obtain ⟨b, off, e, _⟩ := h 0 _ rfl
    cases e
theorem Decs.drew (h : Decs w A ds) : Decs w.drew A ds := h.keep (Same.below (Same.drewN w 1))
theorem Decs.alloc (h : Decs w A ds) (o : Obj) : Decs (w.alloc o) A ds := h.keep ((Below.refl _ _).alloc (Nat.le_refl _) o)
theorem own_lenD {base n : Nat} {v : Value} (h : w.ownsRow base 51 3 v n (flatD ds)) : ds.length = n := by have := h.1; rw [flatD_length] at this; omega
end
theorem decs_lit {w : World} {n : Nat} (hn : w.heap.size = n) (ds : List D) : Decs (w.alloc (.cells (flatD ds).toArray 51)) (some ⟨n, 0, none⟩) ds := by
  subst hn
  intro i u hu
  exact ⟨w.heap.size, 0, rfl, by rw [Nat.zero_add, (Box.new w 51 (flatD ds)).cell i]; exact hu⟩
theorem decs_at {w : World} {n : Nat} {p : Bool} {x y : Int} {d : D} (hn : w.heap.size = n) (h : Dl p x y d) : Decs (w.alloc (.cells #[.bool p, .int .u64 x, .int .i64 y] 51)) (some ⟨n, 0, none⟩) [d] := by
  rw [h.neg, h.c, h.e]; exact decs_lit hn [d]
theorem own_emptyD (w : World) : (w.alloc (.cells #[] 51)).ownsRow w.heap.size 51 3 (.slice (some ⟨w.heap.size, 0, none⟩) 0 0) 0 (flatD []) :=
  ⟨rfl, .inr ⟨w.heap.size, 0, #[], rfl, Nat.le_refl _, Box.new w 51 [], by omega, by unfold maxLen; omega, rfl, rfl⟩⟩
theorem own_nilD (w : World) (base : Nat) : w.ownsRow base 51 3 (.slice none 0 0) 0 (flatD []) := ⟨rfl, .inl ⟨rfl, rfl⟩⟩

section
variable {n n' : Bool} {x y x' y' : Int} {a b : D}
theorem deq_in (h : Dl n x y a) (h' : Dl n' x' y' b) (w : World) : (Op.equalIn 10000 51 (.agg #[.bool n, .int .u64 x, .int .i64 y]) (.agg #[.bool n', .int .u64 x', .int .i64 y'])).run Tryz.prog w = .ok (decide (a = b)) w := by
  have u3 := Tryz.underlying3
  have a3 := Tryz.isAgg3
  have z3 := Tryz.sizeOf3
  have u4 := Tryz.underlying4
  have a4 := Tryz.isAgg4
  have z4 := Tryz.sizeOf4
  have u5 := Tryz.underlying49
  have a5 := Tryz.isAgg49
  have z5 := Tryz.sizeOf49
  have hS : Tryz.prog.underlying 51 = some (.struct (Tryz.prog.fieldsOf 51)) := by kernel_rfl
  have hp : Tryz.prog.stoodInHeld 51 = false := by kernel_rfl
  rw [show (10000 : Nat) = 9999 + 1 from rfl, run_equalIn_agg w 9999 51 _ _ hS hp]
  simp only [Program.fieldsOf, Tryz.underlying51]
  go_simp
  obtain ⟨h1, h2, h3⟩ := h
  obtain ⟨k1, k2, k3⟩ := h'
  have key : (a = b) ↔ (n = n' ∧ x = x' ∧ y = y') := by
    obtain ⟨p, q, r⟩ := a
    obtain ⟨p', q', r'⟩ := b
    simp only [Dc.D.mk.injEq]
    simp only [] at h1 h2 h3 k1 k2 k3
    subst h1 h3 k1 k3
    exact ⟨fun ⟨e1, e2, e3⟩ => ⟨e1, by omega, e3⟩, fun ⟨e1, e2, e3⟩ => ⟨e1, by omega, e3⟩⟩
  rw [show decide (a = b) = decide (n = n' ∧ x = x' ∧ y = y') from decide_eq_decide.2 key]
  by_cases e1 : n = n' <;> by_cases e2 : x = x' <;> by_cases e3 : y = y' <;> simp [e1, e2, e3]
theorem deq_run (h : Dl n x y a) (h' : Dl n' x' y' b) {q : Bool} (hq : decide (a = b) = q) (w : World) : (binOp .eql 51 (.agg #[.bool n, .int .u64 x, .int .i64 y]) (.agg #[.bool n', .int .u64 x', .int .i64 y'])).run Tryz.prog w = .ok (.bool q) w := by
  rw [run_eql_struct, deq_in h h', hq]; rfl
theorem dne_run (h : Dl n x y a) (h' : Dl n' x' y' b) {q : Bool} (hq : decide (a = b) = q) (w : World) : (binOp .neq 51 (.agg #[.bool n, .int .u64 x, .int .i64 y]) (.agg #[.bool n', .int .u64 x', .int .i64 y'])).run Tryz.prog w = .ok (.bool (!q)) w := by
  rw [run_neq_struct, deq_in h h', hq]; rfl
theorem dguard (op : BinOp) (p q : Operand) (xs ys : Array Value) (w : World) : (eqGuard op 51 p q (.agg xs) (.agg ys)).run Tryz.prog w = .ok () w := run_eqGuard_agg w op _ p q xs ys (by kernel_rfl)
end
end Go.Proofs.YtbcmchkgamkceaaGreatDoor

/-
  The document's Cut of a text: pieces with their places, the last of which grows byte by byte. No statement of the seat is proved here.
-/
namespace Go.Proofs.YtbcmchkgamkceaaGreatDoor
open Go.RowKit
open Dc (D D0)

theorem rowPiece : RowTy 72 76 (.agg #[.int .i64 0, .string ⟨#[]⟩]) 2 24 := ⟨Tryz.underlying72, by kernel_rfl, rfl, by omega, by omega⟩
/-- A row of pieces, made by the call that began in w. -/
structure PcO (w W : World) (v : Value) (ps : List (Nat × List UInt8)) : Prop where
  kept : Below w.heap.size w W
  own : W.ownsRow w.heap.size 76 2 v ps.length (flatP ps)
section
variable {w W W' : World} {v : Value} {ps : List (Nat × List UInt8)}
theorem PcO.next (h : PcO w W v ps) (k : Below W.heap.size W W') : PcO w W' v ps := ⟨below_then h.kept k, own_keep h.own k⟩
theorem PcO.alloc (h : PcO w W v ps) (o : Obj) : PcO w (W.alloc o) v ps := h.next ((Below.refl _ _).alloc (Nat.le_refl _) o)
theorem PcO.start (w : World) (a : Nat) : PcO w (w.alloc (.cells #[.int .i64 a, .string ⟨#[]⟩] 76)) (.slice (some ⟨w.heap.size, 0, none⟩) 1 1) [(a, [])] :=
  ⟨(Below.refl _ _).alloc (Nat.le_refl _) _, rfl, .inr ⟨w.heap.size, 1, #[.int .i64 a, .string ⟨#[]⟩], rfl, Nat.le_refl _, Box.new w 76 [.int .i64 a, .string ⟨#[]⟩], Nat.le_refl _, by unfold maxLen; omega, rfl, rfl⟩⟩
/-- Where such a row lies: its cells. -/
theorem PcO.slice (h : PcO w W v ps) (hne : ps ≠ []) : ∃ g cap, v = .slice (some ⟨g, 0, none⟩) ps.length cap ∧ w.heap.size ≤ g ∧ Lies W (some ⟨g, 0, none⟩) (flatP ps) ∧ ∀ i, W.frozen? ⟨g, i, none⟩ = false := by
  have hl := h.own
  rcases h.own.2 with ⟨_, h0⟩ | ⟨g, cap, cur, rfl, hg, hh, _⟩
  · exact absurd (List.eq_nil_of_length_eq_zero h0) hne
  · exact ⟨g, cap, rfl, hg, Lies.of_own hl, fun i => by simp [World.frozen?, hh]⟩
theorem PcO.last {g j cap n : Nat} {ps : List (Nat × List UInt8)} {q : List UInt8} (h : PcO w W (.slice (some ⟨g, 0, none⟩) n cap) (ps ++ [(j, q)])) (hn : n = ps.length + 1) (hg : w.heap.size ≤ g) (q' : List UInt8) : PcO w (W.setCell ⟨g, ps.length * 2 + 1, none⟩ (.string ⟨q'.toArray⟩)) (.slice (some ⟨g, 0, none⟩) n cap) (ps ++ [(j, q')]) := by
  have e : (ps ++ [(j, q)]).length = n := by rw [List.length_append, hn]; rfl
  have e' : (ps ++ [(j, q')]).length = n := by rw [List.length_append, hn]; rfl
  have ho := h.own
  rw [e] at ho
  obtain ⟨h1, h2⟩ := pieces_last ho q'
  exact ⟨below_set h.kept hg _ _, by rw [e']; exact h1⟩
theorem PcO.push {w5 : World} {v5 : Value} {ps' : List (Nat × List UInt8)} {n : Nat} (h : PcO w W v ps) (ho : w5.ownsRow w.heap.size 76 2 v5 n (flatP ps')) (hg : W.grownBy w5 v.ownBlock) : PcO w w5 v5 ps' := by
  refine ⟨grown_own h.kept h.own hg, ?_⟩
  have := pieces_count ho
  rw [this]; exact ho
end

theorem lies_piece (w : World) (a : Nat) (x : Int) (hx : x = a := by omega) : Lies (w.alloc (.cells #[.int .i64 x, .string ⟨#[]⟩] 76)) (some ⟨w.heap.size, 0, none⟩) (flatP [(a, [])]) := by
  subst hx
  intro i u hu
  exact ⟨w.heap.size, 0, rfl, by rw [Nat.zero_add]; exact ((Box.new w 76 [.int .i64 a, .string ⟨#[]⟩]).cell i).trans hu⟩
theorem placed_ge {k : Nat} {ps : List (List UInt8)} {x : Nat × List UInt8} (h : x ∈ placed k ps) : k ≤ x.1 := by
  induction ps generalizing k with
  | nil => simp [placed] at h
  | cons p ps ih =>
    rw [placed, List.mem_cons] at h
    rcases h with rfl | h
    · exact Nat.le_refl _
    · have := ih h
      omega

set_option maxRecDepth 100000 in
set_option maxHeartbeats 4000000 in
theorem rcut_calls {s : ByteArray} {l : List UInt8} (hs : Str s l) (hl : l.length ≤ 100000) (c : UInt8) (a : Nat) (ha : a ≤ 100000) (w : World) :
    Calls Tryz.prog 43 #[.string s, .int .u8 (c.toNat : Int), .int .i64 a] w fun e w' => ∃ v, e = .returned v ∧ PcO w w' v (cutsP c a l) := by
  have hsz : (s.size : Int) = (l.length : Int) := by rw [hs.size]
  obtain ⟨z, hzc⟩ : ∃ z : Int, (c.toNat : Int) = z := ⟨_, rfl⟩
  rw [hzc]
  have HZ := Lib.hid hzc
  have HS := Lib.hid hs
  have HP := Lib.hid (PcO.start w a)
  have gl : (l.length : Int) ≤ 100000 ∧ (a : Int) ≤ 100000 ∧ (0 : Int) ≤ (a : Int) := by omega
  clear hs hzc
  go_enter Tryz.func43, Tryz.ntmps43
  go_wp2_with fail
  go_loopw [7, 8] (fun v5 v6 wr => ∃ i : Nat, v6 = .int .i64 i ∧ i ≤ l.length ∧ Hid (PcO w wr v5 (cutsP c a (l.take i)))) (fun _ v6 _ => l.length - (intOf v6).toNat)
  case atStart => exact ⟨0, rfl, by omega, HP.out⟩
  case round =>
    obtain ⟨i, rfl, hil, hrel⟩ := hrel
    clear HP
    by_cases hlt : i < l.length
    · have hidx := HS.out.index (i := (i : Int)) i rfl hlt
      have hlt' : (i : Int) < (s.size : Int) := by omega
      have g0 : (0 : Int) ≤ (i : Int) := by omega
      obtain ⟨y, hy⟩ : ∃ y : Int, (l[i].toNat : Int) = y := ⟨_, rfl⟩
      rw [hy] at hidx
      have HY := Lib.hid (And.intro hy (cutsP_step c a l i hlt))
      clear hy
      by_cases hyz : y = z
      · have HE := Lib.hid (show cutsP c a (l.take (i + 1)) = cutsP c a (l.take i) ++ [(a + i + 1, [])] from HY.out.2.1 (UInt8.toNat_inj.1 (by have := HY.out.1; have := HZ.out; omega)))
        subst hyz
        have hlen : (cutsP c a (l.take i)).length ≤ 100001 := by have := cutsP_length c a (l.take i); rw [List.length_take] at this; omega
        have HL := Lib.hid hlen
        clear hlen
        go_wp2_with (first | (at_builtin; refine wpList_append_rows _ rowPiece rfl (.tmp 23) (.tmp 29) rfl w.heap.size u7 (cutsP c a (l.take i)).length (flatP (cutsP c a (l.take i))) rfl (hrel.out.alloc _).own (some ⟨wr.heap.size, 0, none⟩) 1 1 (flatP [(a + i + 1, [])]) rfl rfl (lies_piece wr _ _) flatP_cells (by have := HL.out; omega) (by have := (hrel.out.alloc (.cells #[.int .i64 (a + i + 1 : Int), .string ⟨#[]⟩] 76)).kept.size; exact this) ?_; intro v5 w5 hown5 hgr5 hob5; rw [← flatP_append] at hown5; have HP5 := Lib.hid ((hrel.out.alloc _).push hown5 hgr5); clear hown5 hgr5 hob5))
        refine ⟨⟨i + 1, by go_num, by omega, ?_⟩, by simp [intOf]; omega⟩
        have := HP5.out
        rw [← HE.out] at this
        exact this
      · have hyz' : (y == z) = false := by simpa using hyz
        have HN := Lib.hid (show l[i] ≠ c from fun e => hyz (by rw [← HY.out.1, ← HZ.out, e]))
        clear hyz
        obtain ⟨ps, j, q, e1, e2⟩ := HY.out.2.2 HN.out
        have hrel2 := hrel.out
        rw [e1] at hrel2
        obtain ⟨g, cap, rfl, hg, hlies, hfz⟩ := hrel2.slice (by simp)
        obtain ⟨m, hm⟩ : ∃ m, ps.length = m := ⟨_, rfl⟩
        have hlm : (ps ++ [(j, q)]).length = m + 1 := by simp [hm]
        rw [hlm] at hrel2 ⊢
        have hmle : m ≤ 100001 := by have := cutsP_length c a (l.take i); rw [e1, hlm, List.length_take] at this; omega
        have hql : q.length ≤ 100000 := by
          have := cutsP_le (c := c) (k := a) (l := l.take i) (x := (j, q)) (by rw [e1]; simp)
          rw [List.length_take] at this
          simp only at this
          have h2 := placed_ge (k := a) (ps := cutsB c (l.take i)) (x := (j, q)) (by show _ ∈ cutsP c a (l.take i); rw [e1]; simp)
          simp only at h2
          omega
        have hc1 : wr.cell? ⟨g, m * 2 + 1, none⟩ = some (.string ⟨q.toArray⟩) := by
          obtain ⟨b, off, e, hc⟩ := hlies (m * 2 + 1) (.string ⟨q.toArray⟩) (by rw [flatP_get1, ← hm]; simp)
          injection e with e
          injection e with e3 e4
          subst e3 e4
          simpa using hc
        have hf1 := hfz (m * 2 + 1)
        obtain ⟨t, ht, htw⟩ := HS.out.part (ki := .i64) (kj := .i64) (i := (i : Int)) (j := (i : Int) + 1) i (i + 1) rfl (by omega) (by omega) (by omega)
        have ht1 : Str t [l[i]] := by
          have : (l.drop i).take (i + 1 - i) = [l[i]] := by rw [List.drop_eq_getElem_cons hlt, show i + 1 - i = 1 by omega]; rfl
          rwa [this] at ht
        have hst := Str.mk q
        generalize (⟨q.toArray⟩ : ByteArray) = Q at hst hc1
        have hQz : (Q.size : Int) ≤ 100000 := by rw [hst.size]; omega
        have htz : (t.size : Int) = 1 := by rw [ht1.size]; rfl
        have HT := Lib.hid (show Q ++ t = ⟨(q ++ [l[i]]).toArray⟩ from (hst.append ht1).eq)
        have HR := Lib.hid (And.intro hrel2 (And.intro hm (And.intro hg e2)))
        have gm : (0 : Int) ≤ (m : Int) ∧ (m : Int) ≤ 100001 := by omega
        clear e1 e2 hrel2 hrel hg hlies hfz hm hlm hmle hql ht ht1 hst
        have hbig : ¬ (9223372036854775807 : Int) < (Q.size : Int) + (t.size : Int) := by omega
        go_wp2_with fail
        go_region
        all_goals
          go_wp2_with fail
          refine ⟨⟨i + 1, by go_num, by omega, ?_⟩, by simp [intOf]; omega⟩
          have hp := (HR.out.1.last (by rw [HR.out.2.1]) HR.out.2.2.1 (q ++ [l[i]])).next (Same.below (Same.drewN _ 1))
          rw [HR.out.2.1, ← HT.out, ← HR.out.2.2.2] at hp
          exact hp
    · have hlt' : ¬ (i : Int) < (s.size : Int) := by omega
      obtain rfl : i = l.length := by omega
      have HE := Lib.hid (show PcO w wr u7 (cutsP c a l) by have := hrel.out; rwa [List.take_length] at this)
      go_wp2_with fail
      go_ret
      exact ⟨_, rfl, HE.out⟩
end Go.Proofs.YtbcmchkgamkceaaGreatDoor

/-
  Package metric: allRight, of Decs and of tags. No statement of the seat is proved here.
-/
namespace Go.Proofs.YtbcmchkgamkceaaGreatDoor
open Go.RowKit
open Dc (D D0)

set_option maxRecDepth 100000 in
set_option maxHeartbeats 4000000 in
theorem allD_calls {w : World} {A : Option Addr} {n cap : Nat} {ds : List D} (hn : ds.length = n) (hA : Decs w A ds) (hz : n ≤ 1000) (hf : ∀ d ∈ ds, d.Fits) (lo hi : Int) :
    Calls Tryz.prog 126 #[.slice A n cap, .int .i64 lo, .int .i64 hi, .func (.func 52) #[] #[]] w fun e w' => e = .returned (.bool (okV ds && decide (lo ≤ n ∧ (n : Int) ≤ hi))) ∧ Below w.heap.size w w' := by
  obtain ⟨q, hq⟩ : ∃ q, okV ds = q := ⟨_, rfl⟩
  rw [hq]
  have HQ := Lib.hid hq
  have HA := Lib.hid (And.intro hn (And.intro hA hf))
  clear hq hn hA hf
  go_enter Tryz.func126, Tryz.ntmps126
  by_cases h1 : (n : Int) < lo
  · have HE : Hid ((q && decide (lo ≤ (n : Int) ∧ (n : Int) ≤ hi)) = false) := Lib.hid (by rw [decide_eq_false (by omega), Bool.and_false])
    rw [HE.out]
    go_wp2_with fail
    go_ret
    exact ⟨rfl, Below.refl _ _⟩
  · by_cases h2 : hi < (n : Int)
    · have HE : Hid ((q && decide (lo ≤ (n : Int) ∧ (n : Int) ≤ hi)) = false) := Lib.hid (by rw [decide_eq_false (by omega), Bool.and_false])
      rw [HE.out]
      go_wp2_with fail
      go_ret
      exact ⟨rfl, Below.refl _ _⟩
    · have HE : Hid ((q && decide (lo ≤ (n : Int) ∧ (n : Int) ≤ hi)) = q) := Lib.hid (by rw [decide_eq_true (by omega), Bool.and_true])
      rw [HE.out]
      clear HE
      go_wp2_with fail
      go_loopw [23] (fun v wr => ∃ i : Nat, v = .int .i64 i ∧ i ≤ n ∧ Hid (Below w.heap.size w wr ∧ ∀ j (h : j < ds.length), j < i → Dc.check ds[j] = 0)) (fun v _ => n - (intOf v).toNat)
      case atStart => exact ⟨0, rfl, by omega, ⟨Below.refl _ _, fun j _ hj => absurd hj (by omega)⟩⟩
      case round =>
        obtain ⟨i, rfl, hin, hrel⟩ := hrel
        by_cases hlt : i < n
        · have g1 : (i : Int) < (n : Int) := by omega
          obtain ⟨hn, hA, hf⟩ := HA.out
          have l0 : i < ds.length := by omega
          obtain ⟨b, off, p, x, y, e1, c0, c1, c2, hd⟩ := (hA.keep hrel.out.1).get l0
          subst e1
          have hC := fun W => Dc.check_calls ds[i] (hf _ (List.getElem_mem l0)) W
          unfold Dc.dV at hC
          simp only [← hd.neg, ← hd.c, ← hd.e] at hC
          obtain ⟨r, hr⟩ : ∃ r, Dc.check ds[i] = r := ⟨_, rfl⟩
          rw [hr] at hC
          have HC := Lib.hid hC
          have HR := Lib.hid hr
          have hb1 := hrel.out.1.alloc hrel.out.1.size (.cells #[.bool p, .int .u64 x, .int .i64 y] 51)
          have HB := Lib.hid hb1
          clear hn hA hf hC hr hb1 hd
          go_wp2_with fail
          refine (HC.out _).mono ?_
          rintro e w2 ⟨rfl, hb⟩
          have HB2 := Lib.hid (below_then HB.out hb)
          clear hb HB HC c0 c1 c2
          by_cases hr0 : r = 0
          · have HE := Lib.hid (HR.out.trans hr0)
            go_wp2_with fail
            refine ⟨⟨i + 1, by go_num, by omega, ⟨HB2.out, fun j h hj => ?_⟩⟩, by simp [intOf]; omega⟩
            rcases Nat.lt_or_ge j i with h' | h'
            · exact hrel.out.2 j h h'
            · obtain rfl : i = j := by omega
              exact HE.out
          · have HE := Lib.hid (show q = false by
              rw [← HQ.out]
              refine Bool.eq_false_iff.2 fun h => hr0 ?_
              rw [← HR.out]
              unfold okV at h
              exact of_decide_eq_true (List.all_eq_true.1 h _ (List.getElem_mem l0)))
            go_wp2_with fail
            go_ret
            exact ⟨by rw [HE.out]; first | done | rfl, HB2.out⟩
        · have g1 : ¬ (i : Int) < (n : Int) := by omega
          have HE := Lib.hid (show q = true by
            rw [← HQ.out]
            unfold okV
            refine List.all_eq_true.2 fun d hd => decide_eq_true ?_
            obtain ⟨j, hj, rfl⟩ := List.mem_iff_getElem.1 hd
            exact hrel.out.2 j hj (by have := HA.out.1; omega))
          go_wp2_with fail
          go_ret
          exact ⟨by rw [HE.out]; first | done | rfl, hrel.out.1⟩

theorem chkT_ok {t : Tg} : chkT t = 0 ↔ rightT t = true := by
  unfold chkT; split
  · exact ⟨fun _ => by assumption, fun _ => rfl⟩
  · exact ⟨fun h => absurd h (by decide), fun h => absurd h (by assumption)⟩

set_option maxRecDepth 100000 in
set_option maxHeartbeats 4000000 in
theorem allT_calls {w : World} {A : Option Addr} {n cap : Nat} {ts : List Tg} (hn : ts.length = n) (hA : Tags w A ts) (hz : n ≤ 1000) (hf : ∀ t ∈ ts, t.1.length ≤ 1000 ∧ t.2.length ≤ 1000) (lo hi : Int) :
    Calls Tryz.prog 127 #[.slice A n cap, .int .i64 lo, .int .i64 hi, .func (.func 57) #[] #[]] w fun e w' => e = .returned (.bool (ts.all rightT && decide (lo ≤ n ∧ (n : Int) ≤ hi))) ∧ Below w.heap.size w w' := by
  obtain ⟨q, hq⟩ : ∃ q, ts.all rightT = q := ⟨_, rfl⟩
  rw [hq]
  have HQ := Lib.hid hq
  have HA := Lib.hid (And.intro hn (And.intro hA hf))
  clear hq hn hA hf
  go_enter Tryz.func127, Tryz.ntmps127
  by_cases h1 : (n : Int) < lo
  · have HE : Hid ((q && decide (lo ≤ (n : Int) ∧ (n : Int) ≤ hi)) = false) := Lib.hid (by rw [decide_eq_false (by omega), Bool.and_false])
    rw [HE.out]
    go_wp2_with fail
    go_ret
    exact ⟨rfl, Below.refl _ _⟩
  · by_cases h2 : hi < (n : Int)
    · have HE : Hid ((q && decide (lo ≤ (n : Int) ∧ (n : Int) ≤ hi)) = false) := Lib.hid (by rw [decide_eq_false (by omega), Bool.and_false])
      rw [HE.out]
      go_wp2_with fail
      go_ret
      exact ⟨rfl, Below.refl _ _⟩
    · have HE : Hid ((q && decide (lo ≤ (n : Int) ∧ (n : Int) ≤ hi)) = q) := Lib.hid (by rw [decide_eq_true (by omega), Bool.and_true])
      rw [HE.out]
      clear HE
      go_wp2_with fail
      go_loopw [23] (fun v wr => ∃ i : Nat, v = .int .i64 i ∧ i ≤ n ∧ Hid (Below w.heap.size w wr ∧ ∀ j (h : j < ts.length), j < i → rightT ts[j] = true)) (fun v _ => n - (intOf v).toNat)
      case atStart => exact ⟨0, rfl, by omega, ⟨Below.refl _ _, fun j _ hj => absurd hj (by omega)⟩⟩
      case round =>
        obtain ⟨i, rfl, hin, hrel⟩ := hrel
        by_cases hlt : i < n
        · have g1 : (i : Int) < (n : Int) := by omega
          obtain ⟨hn, hA, hf⟩ := HA.out
          have l0 : i < ts.length := by omega
          obtain ⟨b, off, s, u, e1, c0, c1, hs, hu⟩ := (hA.keep hrel.out.1).get l0
          subst e1
          have hl := hf _ (List.getElem_mem l0)
          have n1 := hs.size
          have n2 := hu.size
          have hC := fun W => check_calls hs hu (by omega) (by omega) W
          obtain ⟨r, hr⟩ : ∃ r, chkT ts[i] = r := ⟨_, rfl⟩
          rw [hr] at hC
          have HC := Lib.hid hC
          have HR := Lib.hid hr
          have hb1 := hrel.out.1.alloc hrel.out.1.size (.cells #[.string s, .string u] 53)
          have HB := Lib.hid hb1
          clear hn hA hf hC hr hb1 hs hu hl n1 n2
          go_wp2_with fail
          refine (HC.out _).mono ?_
          rintro e w2 ⟨rfl, hb⟩
          have HB2 := Lib.hid (below_then HB.out hb)
          clear hb HB HC c0 c1
          by_cases hr0 : r = 0
          · have HE := Lib.hid (chkT_ok.1 (HR.out.trans hr0))
            go_wp2_with fail
            refine ⟨⟨i + 1, by go_num, by omega, ⟨HB2.out, fun j h hj => ?_⟩⟩, by simp [intOf]; omega⟩
            rcases Nat.lt_or_ge j i with h' | h'
            · exact hrel.out.2 j h h'
            · obtain rfl : i = j := by omega
              exact HE.out
          · have HE := Lib.hid (show q = false by
              rw [← HQ.out]
              refine Bool.eq_false_iff.2 fun h => hr0 ?_
              rw [← HR.out]
              exact chkT_ok.2 (List.all_eq_true.1 h _ (List.getElem_mem l0)))
            go_wp2_with fail
            go_ret
            exact ⟨by rw [HE.out]; first | done | rfl, HB2.out⟩
        · have g1 : ¬ (i : Int) < (n : Int) := by omega
          have HE := Lib.hid (show q = true by
            rw [← HQ.out]
            refine List.all_eq_true.2 fun d hd => ?_
            obtain ⟨j, hj, rfl⟩ := List.mem_iff_getElem.1 hd
            exact hrel.out.2 j hj (by have := HA.out.1; omega))
          go_wp2_with fail
          go_ret
          exact ⟨by rw [HE.out]; first | done | rfl, hrel.out.1⟩
end Go.Proofs.YtbcmchkgamkceaaGreatDoor

/-
  Package metric: what has to be right of a metric, part by part. No statement of the seat is proved here.
-/
namespace Go.Proofs.YtbcmchkgamkceaaGreatDoor
open Go.RowKit
open Dc (D D0)

/-- A metric as a value. -/
def mV (s : ByteArray) (kd : Int) (A : Option Addr) (n ca : Nat) (rt : Int) (B : Option Addr) (k cb : Nat) (tm : Int) : Value :=
  .agg #[.string s, .int .i64 kd, .slice A n ca, .int .i64 rt, .slice B k cb, .int .i64 tm]
/-- Its cells read as this metric. -/
structure MIs (w : World) (s : ByteArray) (A : Option Addr) (n : Nat) (B : Option Addr) (k : Nat) (m : Mt) : Prop where
  name : Str s m.name
  vlen : m.vals.length = n
  vals : Decs w A m.vals
  tlen : m.tags.length = k
  tags : Tags w B m.tags
section
variable {w w' : World} {s : ByteArray} {A B : Option Addr} {n k : Nat} {m : Mt}
theorem MIs.keep (h : MIs w s A n B k m) (hb : Below w.heap.size w w') : MIs w' s A n B k m := ⟨h.name, h.vlen, h.vals.keep hb, h.tlen, h.tags.keep hb⟩
theorem MIs.alloc (h : MIs w s A n B k m) (o : Obj) : MIs (w.alloc o) s A n B k m := h.keep ((Below.refl _ _).alloc (Nat.le_refl _) o)
theorem MIs.drew (h : MIs w s A n B k m) : MIs w.drew s A n B k m := h.keep (Same.below (Same.drewN w 1))
end

/-- These blocks, and these metrics, lie so, and nothing old has changed. -/
structure Kb (w0 : World) (L : List (Nat × TypeId × List Value)) (M : List (ByteArray × Option Addr × Nat × Option Addr × Nat × Mt)) (w : World) : Prop where
  kept : Below w0.heap.size w0 w
  box : ∀ x ∈ L, Box w x.1 x.2.1 x.2.2
  met : ∀ x ∈ M, MIs w x.1 x.2.1 x.2.2.1 x.2.2.2.1 x.2.2.2.2.1 x.2.2.2.2.2
section
variable {w0 w w' : World} {L : List (Nat × TypeId × List Value)} {M : List (ByteArray × Option Addr × Nat × Option Addr × Nat × Mt)}
theorem Kb.start (w : World) : Kb w [] [] w := ⟨Below.refl _ _, by simp, by simp⟩
theorem Kb.next (h : Kb w0 L M w) (k : Below w.heap.size w w') : Kb w0 L M w' := ⟨below_then h.kept k, fun x hx => (h.box x hx).keep k, fun x hx => (h.met x hx).keep k⟩
theorem Kb.drew (h : Kb w0 L M w) : Kb w0 L M w.drew := h.next (Same.below (Same.drewN w 1))
theorem Kb.alloc (h : Kb w0 L M w) (o : Obj) : Kb w0 L M (w.alloc o) := h.next ((Below.refl _ _).alloc (Nat.le_refl _) o)
theorem Kb.add (h : Kb w0 L M w) {g : Nat} {t : TypeId} {cs : List Value} (hb : Box w g t cs) : Kb w0 ((g, t, cs) :: L) M w := ⟨h.kept, fun x hx => by
  rcases List.mem_cons.1 hx with rfl | hx
  · exact hb
  · exact h.box x hx, h.met⟩
theorem Kb.push (h : Kb w0 L M w) (t : TypeId) (cs : List Value) : Kb w0 ((w.heap.size, t, cs) :: L) M (w.alloc (.cells cs.toArray t)) := (h.alloc _).add (Box.new w t cs)
theorem Kb.pushAt (h : Kb w0 L M w) {g : Nat} (hg : w.heap.size = g) (t : TypeId) (cs : List Value) : Kb w0 ((g, t, cs) :: L) M (w.alloc (.cells cs.toArray t)) := by subst hg; exact h.push t cs
theorem Kb.mAdd (h : Kb w0 L M w) {s : ByteArray} {A B : Option Addr} {n k : Nat} {m : Mt} (hm : MIs w s A n B k m) : Kb w0 L ((s, A, n, B, k, m) :: M) w := ⟨h.kept, h.box, fun x hx => by
  rcases List.mem_cons.1 hx with rfl | hx
  · exact hm
  · exact h.met x hx⟩
theorem Kb.cell (h : Kb w0 L M w) {g i : Nat} {t : TypeId} {cs : List Value} {v : Value} (hm : (g, t, cs) ∈ L) (hv : cs[i]? = some v) : w.cell? ⟨g, i, none⟩ = some v := ((h.box _ hm).cell i).trans hv
theorem Kb.m (h : Kb w0 L M w) {s : ByteArray} {A B : Option Addr} {n k : Nat} {m : Mt} (hm : (s, A, n, B, k, m) ∈ M) : MIs w s A n B k m := h.met _ hm
end

def codeIf (b : Bool) (c : Int) : Int := if b = true then 0 else c
def mC (s : ByteArray) (kd : Int) (A : Option Addr) (n ca : Nat) (rt : Int) (B : Option Addr) (k cb : Nat) (tm : Int) : List Value :=
  [.string s, .int .i64 kd, .slice A n ca, .int .i64 rt, .slice B k cb, .int .i64 tm]

section
variable {s : ByteArray} {A B : Option Addr} {n k ca cb : Nat} {m : Mt} {kd rt tm : Int}

structure NameS (w0 : World) (s : ByteArray) (g : Nat) (w : World) : Prop where
  kept : Below w0.heap.size w0 w
  str : w.cell? ⟨w0.heap.size, 0, none⟩ = some (.string s)
  none_ : Box w (w0.heap.size + 1) 42 [.int .i64 0, .int .i64 0]
theorem NameS.next {w0 w w' : World} {g : Nat} (h : NameS w0 s g w) (k : Below w.heap.size w w') : NameS w0 s g w' := ⟨below_then h.kept k, (k.cell (cell_lt h.str)).trans h.str, h.none_.keep k⟩
theorem NameS.cells {w0 w : World} {g : Nat} (h : NameS w0 s g w) : w.cell? ⟨w0.heap.size, 0, none⟩ = some (.string s) ∧ w.cell? ⟨w0.heap.size + 1, 0, none⟩ = some (.int .i64 0) ∧ w.cell? ⟨w0.heap.size + 1, 1, none⟩ = some (.int .i64 0) ∧ NameS w0 s g w := ⟨h.str, h.none_.cell 0, h.none_.cell 1, h⟩
theorem NameS.of {w0 w : World} {g : Nat} {P1 P2 P3 : Prop} (h : P1 ∧ P2 ∧ P3 ∧ NameS w0 s g w) : NameS w0 s g w := h.2.2.2
theorem NameS.start (w : World) (t : TypeId) (cs : List Value) : NameS w s 0 ((w.alloc (.cells (Value.string s :: cs).toArray t)).alloc (.cells #[.int .i64 0, .int .i64 0] 42)) :=
  ⟨((Below.refl _ _).alloc (Nat.le_refl _) _).alloc (by rw [size_alloc]; omega) _, ((Box.new w t (Value.string s :: cs)).alloc _).cell 0, by have := Box.new (w.alloc (.cells (Value.string s :: cs).toArray t)) 42 [.int .i64 0, .int .i64 0]; rwa [size_alloc] at this⟩

set_option maxRecDepth 100000 in
set_option maxHeartbeats 2000000 in
theorem name_calls {l : List UInt8} (hs : Str s l) (hz : l.length ≤ 1000) (w : World) :
    Calls Tryz.prog 81 #[mV s kd A n ca rt B k cb tm] w fun e w' => e = .returned (.int .i64 (codeIf (nameR l) 15)) ∧ Below w.heap.size w w' := by
  obtain ⟨x, y, hxy⟩ : ∃ x y, faultOf 1 l 1 200 = (x, y) := ⟨_, _, rfl⟩
  have n1 := hs.size
  obtain ⟨p, hp⟩ : ∃ p, decide ((x, y) = ((0, 0) : Int × Int)) = p := ⟨_, rfl⟩
  have hc : nameR l = p := by unfold nameR; rw [hxy, hp]
  have HK := Lib.hid (fun w' (h : NameS w s 0 w') => (ctext_says (c := 1) (lo := 1) (hi := 200) hs (by omega) hxy w').mono fun e w'' (k : _ ∧ _) => And.intro k.1 (h.next k.2))
  have k1 := fne_run hp
  have hg := fguard
  rw [hc]
  unfold mV
  have HS := Lib.hid ((NameS.start (s := s) w 107 [.int .i64 kd, .slice A n ca, .int .i64 rt, .slice B k cb, .int .i64 tm]).next (Same.below (Same.drewN _ 1)))
  clear hxy hs hp hc n1
  go_enter Tryz.func81, Tryz.ntmps81
  go_wp2_with fail
  go_region_held3 (fun w' => w'.cell? ⟨w.heap.size, 0, none⟩ = some (.string s) ∧ w'.cell? ⟨w.heap.size + 1, 0, none⟩ = some (.int .i64 0) ∧ w'.cell? ⟨w.heap.size + 1, 1, none⟩ = some (.int .i64 0) ∧ NameS w s 0 w')
    (first | exact NameS.cells HS.out | exact NameS.cells HB6.out)
    (first | (go_at_call 69; refine (HK.out _ (NameS.of (by assumption))).mono ?_; rintro e w6 ⟨rfl, hb6⟩; have HB6 := Lib.hid hb6; clear hb6))
  all_goals
    cases p
    all_goals
      go_wp2_with fail
      go_ret
      exact ⟨rfl, HB6.out.kept⟩

theorem m_below (w : World) (o : Obj) : Below w.heap.size w (w.alloc o) := (Below.refl _ _).alloc (Nat.le_refl _) _

set_option maxRecDepth 100000 in
theorem kind_calls (w : World) : Calls Tryz.prog 82 #[mV s kd A n ca rt B k cb tm] w fun e w' => e = .returned (.int .i64 (codeIf (kindR kd) 16)) ∧ Below w.heap.size w w' := by
  unfold mV
  have HB := Lib.hid (m_below w (.cells #[.string s, .int .i64 kd, .slice A n ca, .int .i64 rt, .slice B k cb, .int .i64 tm] 107))
  obtain ⟨q, hq⟩ : ∃ q, codeIf (kindR kd) 16 = q := ⟨_, rfl⟩
  rw [hq]
  have HQ := Lib.hid hq
  clear hq
  go_enter Tryz.func82, Tryz.ntmps82
  rcases (by omega : kd < 1 ∨ (¬ kd < 1 ∧ 5 < kd) ∨ (¬ kd < 1 ∧ ¬ 5 < kd)) with h | ⟨h, h2⟩ | ⟨h, h2⟩
  · have HE := Lib.hid (show q = 16 by rw [← HQ.out]; unfold kindR; rw [decide_eq_false (by omega)]; rfl)
    go_wp2_with fail
    go_ret
    exact ⟨by rw [HE.out]; rfl, HB.out⟩
  · have HE := Lib.hid (show q = 16 by rw [← HQ.out]; unfold kindR; rw [decide_eq_false (by omega)]; rfl)
    go_wp2_with fail
    go_ret
    exact ⟨by rw [HE.out]; rfl, HB.out⟩
  · have HE := Lib.hid (show q = 0 by rw [← HQ.out]; unfold kindR; rw [decide_eq_true (by omega)]; rfl)
    go_wp2_with fail
    go_ret
    exact ⟨by rw [HE.out]; rfl, HB.out⟩

set_option maxRecDepth 100000 in
theorem time_calls (w : World) : Calls Tryz.prog 86 #[mV s kd A n ca rt B k cb tm] w fun e w' => e = .returned (.int .i64 (codeIf (timeR tm) 20)) ∧ Below w.heap.size w w' := by
  unfold mV
  have HB := Lib.hid (m_below w (.cells #[.string s, .int .i64 kd, .slice A n ca, .int .i64 rt, .slice B k cb, .int .i64 tm] 107))
  obtain ⟨q, hq⟩ : ∃ q, codeIf (timeR tm) 20 = q := ⟨_, rfl⟩
  rw [hq]
  have HQ := Lib.hid hq
  clear hq
  go_enter Tryz.func86, Tryz.ntmps86
  rcases (by omega : tm < 0 ∨ (¬ tm < 0 ∧ 1099511627776 < tm) ∨ (¬ tm < 0 ∧ ¬ 1099511627776 < tm)) with h | ⟨h, h2⟩ | ⟨h, h2⟩
  · have HE := Lib.hid (show q = 20 by rw [← HQ.out]; unfold timeR; rw [decide_eq_false (by omega)]; rfl)
    go_wp2_with fail
    go_ret
    exact ⟨by rw [HE.out]; rfl, HB.out⟩
  · have HE := Lib.hid (show q = 20 by rw [← HQ.out]; unfold timeR; rw [decide_eq_false (by omega)]; rfl)
    go_wp2_with fail
    go_ret
    exact ⟨by rw [HE.out]; rfl, HB.out⟩
  · have HE := Lib.hid (show q = 0 by rw [← HQ.out]; unfold timeR; rw [decide_eq_true (by omega)]; rfl)
    go_wp2_with fail
    go_ret
    exact ⟨by rw [HE.out]; rfl, HB.out⟩

set_option maxRecDepth 100000 in
theorem rate_calls (w : World) : Calls Tryz.prog 84 #[mV s kd A n ca rt B k cb tm] w fun e w' => e = .returned (.int .i64 (codeIf (rateR kd rt) 18)) ∧ Below w.heap.size w w' := by
  unfold mV
  have HB := Lib.hid (m_below w (.cells #[.string s, .int .i64 kd, .slice A n ca, .int .i64 rt, .slice B k cb, .int .i64 tm] 107))
  obtain ⟨q, hq⟩ : ∃ q, codeIf (rateR kd rt) 18 = q := ⟨_, rfl⟩
  rw [hq]
  have HQ := Lib.hid hq
  clear hq
  go_enter Tryz.func84, Tryz.ntmps84
  rcases (by omega : rt < 1 ∨ (¬ rt < 1 ∧ 1000000 < rt) ∨ (¬ rt < 1 ∧ ¬ 1000000 < rt ∧ kd = 2 ∧ rt ≠ 1000000) ∨ (kd = 2 ∧ rt = 1000000) ∨ (¬ rt < 1 ∧ ¬ 1000000 < rt ∧ kd ≠ 2)) with h | ⟨h, h2⟩ | ⟨h, h2, h3, h4⟩ | ⟨h, h2⟩ | ⟨h, h2, h3⟩
  · have HE := Lib.hid (show q = 18 by rw [← HQ.out]; unfold rateR; rw [decide_eq_false (by omega)]; rfl)
    go_wp2_with fail
    go_ret
    exact ⟨by rw [HE.out]; rfl, HB.out⟩
  · have HE := Lib.hid (show q = 18 by rw [← HQ.out]; unfold rateR; rw [decide_eq_false (by omega)]; rfl)
    go_wp2_with fail
    go_ret
    exact ⟨by rw [HE.out]; rfl, HB.out⟩
  · subst h3
    have HE := Lib.hid (show q = 18 by rw [← HQ.out]; unfold rateR; rw [decide_eq_false (by omega)]; rfl)
    go_wp2_with fail
    go_ret
    exact ⟨by rw [HE.out]; rfl, HB.out⟩
  · subst h h2
    have HE := Lib.hid (show q = 0 by rw [← HQ.out]; unfold rateR; rw [decide_eq_true (by omega)]; rfl)
    go_wp2_with fail
    go_ret
    exact ⟨by rw [HE.out]; rfl, HB.out⟩
  · have HE := Lib.hid (show q = 0 by rw [← HQ.out]; unfold rateR; rw [decide_eq_true (by omega)]; rfl)
    go_wp2_with fail
    go_ret
    exact ⟨by rw [HE.out]; rfl, HB.out⟩

set_option maxRecDepth 100000 in
theorem values_calls {ds : List D} {w : World} (hn : ds.length = n) (hA : Decs w A ds) (hz : n ≤ 1000) (hf : ∀ d ∈ ds, d.Fits) : Calls Tryz.prog 83 #[mV s kd A n ca rt B k cb tm] w fun e w' => e = .returned (.int .i64 (codeIf (valsR (okV ds) ds.length) 17)) ∧ Below w.heap.size w w' := by
  have hb := m_below w (.cells #[.string s, .int .i64 kd, .slice A n ca, .int .i64 rt, .slice B k cb, .int .i64 tm] 107)
  have hC := allD_calls (cap := ca) hn (hA.keep hb) hz hf 1 64
  obtain ⟨q, hq⟩ : ∃ q, (okV ds && decide ((1 : Int) ≤ n ∧ (n : Int) ≤ 64)) = q := ⟨_, rfl⟩
  have hv : valsR (okV ds) ds.length = q := by
    rw [← hq, hn]; unfold valsR; congr 1; exact decide_eq_decide.2 (by omega)
  rw [hv]
  rw [hq] at hC
  have HC := Lib.hid hC
  have HB := Lib.hid hb
  clear hn hA hf hb hC hq hv
  unfold mV
  go_enter Tryz.func83, Tryz.ntmps83
  go_wp2_with fail
  refine HC.out.mono ?_
  rintro e w2 ⟨rfl, hb⟩
  have HB2 := Lib.hid (below_then HB.out hb)
  clear hb HB HC
  cases q
  all_goals
    go_wp2_with fail
    go_ret
    exact ⟨rfl, HB2.out⟩

set_option maxRecDepth 100000 in
theorem tags_calls {ts : List Tg} {w : World} (hn : ts.length = k) (hA : Tags w B ts) (hz : k ≤ 1000) (hf : ∀ t ∈ ts, t.1.length ≤ 1000 ∧ t.2.length ≤ 1000) : Calls Tryz.prog 85 #[mV s kd A n ca rt B k cb tm] w fun e w' => e = .returned (.int .i64 (codeIf (tagsR ts) 19)) ∧ Below w.heap.size w w' := by
  have hb := m_below w (.cells #[.string s, .int .i64 kd, .slice A n ca, .int .i64 rt, .slice B k cb, .int .i64 tm] 107)
  have hC := allT_calls (cap := cb) hn (hA.keep hb) hz hf 0 32
  obtain ⟨q, hq⟩ : ∃ q, (ts.all rightT && decide ((0 : Int) ≤ k ∧ (k : Int) ≤ 32)) = q := ⟨_, rfl⟩
  have hv : tagsR ts = q := by
    rw [← hq]; unfold tagsR; rw [hn, Bool.and_comm]; congr 1; exact decide_eq_decide.2 (by omega)
  rw [hv]
  rw [hq] at hC
  have HC := Lib.hid hC
  have HB := Lib.hid hb
  clear hn hA hf hb hC hq hv
  unfold mV
  go_enter Tryz.func85, Tryz.ntmps85
  go_wp2_with fail
  refine HC.out.mono ?_
  rintro e w2 ⟨rfl, hb⟩
  have HB2 := Lib.hid (below_then HB.out hb)
  clear hb HB HC
  cases q
  all_goals
    go_wp2_with fail
    go_ret
    exact ⟨rfl, HB2.out⟩
end
end Go.Proofs.YtbcmchkgamkceaaGreatDoor

/-
  Package metric: Check. No statement of the seat is proved here.
-/
namespace Go.Proofs.YtbcmchkgamkceaaGreatDoor
open Go.RowKit
open Dc (D D0)

theorem check_first {m : Mt} {c0 c1 c2 c3 c4 c5 : Int} (h0 : codeIf (nameR m.name) 15 = c0) (h1 : codeIf (kindR m.kind) 16 = c1) (h2 : codeIf (valsR (okV m.vals) m.vals.length) 17 = c2) (h3 : codeIf (rateR m.kind m.rate) 18 = c3) (h4 : codeIf (tagsR m.tags) 19 = c4) (h5 : codeIf (timeR m.time) 20 = c5) :
    checkM m = if c0 ≠ 0 then c0 else if c1 ≠ 0 then c1 else if c2 ≠ 0 then c2 else if c3 ≠ 0 then c3 else if c4 ≠ 0 then c4 else if c5 ≠ 0 then c5 else 0 := by
  subst h0 h1 h2 h3 h4 h5
  unfold checkM restM codeIf
  cases nameR m.name <;> cases kindR m.kind <;> cases valsR (okV m.vals) m.vals.length <;> cases rateR m.kind m.rate <;> cases tagsR m.tags <;> cases timeR m.time <;> simp

/-- The row of what has to be right. -/
def rowV (v : Value) : List Value := [.func (.func 81) #[v] #[], .func (.func 82) #[v] #[], .func (.func 83) #[v] #[], .func (.func 84) #[v] #[], .func (.func 85) #[v] #[], .func (.func 86) #[v] #[]]

set_option maxRecDepth 100000 in
set_option maxHeartbeats 8000000 in
theorem mcheck_calls {w : World} {s : ByteArray} {A B : Option Addr} {n k ca cb : Nat} {m : Mt} (h : MIs w s A n B k m) (hz : Small m) :
    Calls Tryz.prog 47 #[mV s m.kind A n ca m.rate B k cb m.time] w fun e w' => e = .returned (.int .i64 (checkM m)) ∧ Below w.heap.size w w' := by
  obtain ⟨c0, h0⟩ : ∃ c, codeIf (nameR m.name) 15 = c := ⟨_, rfl⟩
  obtain ⟨c1, h1⟩ : ∃ c, codeIf (kindR m.kind) 16 = c := ⟨_, rfl⟩
  obtain ⟨c2, h2⟩ : ∃ c, codeIf (valsR (okV m.vals) m.vals.length) 17 = c := ⟨_, rfl⟩
  obtain ⟨c3, h3⟩ : ∃ c, codeIf (rateR m.kind m.rate) 18 = c := ⟨_, rfl⟩
  obtain ⟨c4, h4⟩ : ∃ c, codeIf (tagsR m.tags) 19 = c := ⟨_, rfl⟩
  obtain ⟨c5, h5⟩ : ∃ c, codeIf (timeR m.time) 20 = c := ⟨_, rfl⟩
  have hq := check_first h0 h1 h2 h3 h4 h5
  obtain ⟨q, hq0⟩ : ∃ q, checkM m = q := ⟨_, rfl⟩
  rw [hq0] at hq ⊢
  have HQ := Lib.hid hq
  have hN := fun W => name_calls (kd := m.kind) (A := A) (n := n) (ca := ca) (rt := m.rate) (B := B) (k := k) (cb := cb) (tm := m.time) h.name hz.name W
  have hK := fun W => kind_calls (s := s) (kd := m.kind) (A := A) (n := n) (ca := ca) (rt := m.rate) (B := B) (k := k) (cb := cb) (tm := m.time) W
  have hV := fun W (b : Below w.heap.size w W) => values_calls (s := s) (kd := m.kind) (ca := ca) (rt := m.rate) (B := B) (k := k) (cb := cb) (tm := m.time) h.vlen (h.vals.keep b) (by have := h.vlen; have := hz.vals; omega) hz.fits
  have hR := fun W => rate_calls (s := s) (kd := m.kind) (A := A) (n := n) (ca := ca) (rt := m.rate) (B := B) (k := k) (cb := cb) (tm := m.time) W
  have hT := fun W (b : Below w.heap.size w W) => tags_calls (s := s) (kd := m.kind) (A := A) (n := n) (ca := ca) (rt := m.rate) (cb := cb) (tm := m.time) h.tlen (h.tags.keep b) (by have := h.tlen; have := hz.tags; omega) hz.lens
  have hM := fun W => time_calls (s := s) (kd := m.kind) (A := A) (n := n) (ca := ca) (rt := m.rate) (B := B) (k := k) (cb := cb) (tm := m.time) W
  rw [h0] at hN
  rw [h1] at hK
  rw [h2] at hV
  rw [h3] at hR
  rw [h4] at hT
  rw [h5] at hM
  clear h0 h1 h2 h3 h4 h5 hq hq0 h hz
  generalize m.kind = kd at *
  generalize m.rate = rt at *
  generalize m.time = tm at *
  have HB0 := Lib.hid (((Kb.start w).push 35 (mC s kd A n ca rt B k cb tm)).push 107 (mC s kd A n ca rt B k cb tm) |>.push 108 (rowV (mV s kd A n ca rt B k cb tm)))
  rw [size_alloc, size_alloc] at HB0
  unfold mC rowV at HB0
  unfold mV at HB0 hN hK hV hR hT hM ⊢
  have HN := Lib.hid hN
  have HK := Lib.hid hK
  have HV := Lib.hid hV
  have HR := Lib.hid hR
  have HT := Lib.hid hT
  have HM := Lib.hid hM
  clear hN hK hV hR hT hM
  go_enter Tryz.func47, Tryz.ntmps47
  go_wp2_with fail
  go_loopw [22] (fun v wr => ∃ i : Nat, v = .int .i64 i ∧ i ≤ 6 ∧ Hid (Below w.heap.size w wr ∧ Box wr (w.heap.size + 1 + 1) 108 (rowV (.agg #[.string s, .int .i64 kd, .slice A n ca, .int .i64 rt, .slice B k cb, .int .i64 tm])) ∧ (0 < i → c0 = 0) ∧ (1 < i → c1 = 0) ∧ (2 < i → c2 = 0) ∧ (3 < i → c3 = 0) ∧ (4 < i → c4 = 0) ∧ (5 < i → c5 = 0))) (fun v _ => 6 - (intOf v).toNat)
  case atStart => exact ⟨0, rfl, by omega, ⟨HB0.out.kept, HB0.out.box _ (by simp; left; rfl), by omega, by omega, by omega, by omega, by omega, by omega⟩⟩
  case round =>
    obtain ⟨i, rfl, hi, hrel⟩ := hrel
    clear HB0
    obtain ⟨k0, k1, k2, k3, k4, k5⟩ := hrel.out.2.2
    rcases (by omega : i = 0 ∨ i = 1 ∨ i = 2 ∨ i = 3 ∨ i = 4 ∨ i = 5 ∨ i = 6) with rfl | rfl | rfl | rfl | rfl | rfl | rfl
    · have cc : wr.cell? ⟨w.heap.size + 1 + 1, 0, none⟩ = some (.func (.func 81) #[.agg #[.string s, .int .i64 kd, .slice A n ca, .int .i64 rt, .slice B k cb, .int .i64 tm]] #[]) := hrel.out.2.1.cell 0
      have HKK := Lib.hid (And.intro k0 (And.intro k1 (And.intro k2 (And.intro k3 (And.intro k4 k5)))))
      clear k0 k1 k2 k3 k4 k5
      go_wp2_with fail
      refine (HN.out _).mono ?_
      rintro e w2 ⟨rfl, hb⟩
      have HB2 := Lib.hid (And.intro (below_then hrel.out.1 hb) (hrel.out.2.1.keep hb))
      clear hb cc
      by_cases hc : c0 = 0
      · have HC := Lib.hid hc
        go_wp2_with fail
        refine ⟨⟨1, by first | rfl | go_num, by omega, ⟨HB2.out.1, HB2.out.2, fun _ => HC.out, by omega, by omega, by omega, by omega, by omega⟩⟩, by simp [intOf]⟩
      · have HE := Lib.hid (show q = c0 by
          have h := HQ.out
          obtain ⟨k0, k1, k2, k3, k4, k5⟩ := HKK.out
          rw [ if_pos hc] at h
          exact h)
        go_wp2_with fail
        go_ret
        exact ⟨by rw [HE.out]; rfl, HB2.out.1⟩
    · have cc : wr.cell? ⟨w.heap.size + 1 + 1, 1, none⟩ = some (.func (.func 82) #[.agg #[.string s, .int .i64 kd, .slice A n ca, .int .i64 rt, .slice B k cb, .int .i64 tm]] #[]) := hrel.out.2.1.cell 1
      have HKK := Lib.hid (And.intro k0 (And.intro k1 (And.intro k2 (And.intro k3 (And.intro k4 k5)))))
      clear k0 k1 k2 k3 k4 k5
      go_wp2_with fail
      refine (HK.out _).mono ?_
      rintro e w2 ⟨rfl, hb⟩
      have HB2 := Lib.hid (And.intro (below_then hrel.out.1 hb) (hrel.out.2.1.keep hb))
      clear hb cc
      by_cases hc : c1 = 0
      · have HC := Lib.hid hc
        go_wp2_with fail
        refine ⟨⟨2, by first | rfl | go_num, by omega, ⟨HB2.out.1, HB2.out.2, fun _ => HKK.out.1 (by omega), fun _ => HC.out, by omega, by omega, by omega, by omega⟩⟩, by simp [intOf]⟩
      · have HE := Lib.hid (show q = c1 by
          have h := HQ.out
          obtain ⟨k0, k1, k2, k3, k4, k5⟩ := HKK.out
          rw [if_neg (not_not_intro (k0 (by omega))), if_pos hc] at h
          exact h)
        go_wp2_with fail
        go_ret
        exact ⟨by rw [HE.out]; rfl, HB2.out.1⟩
    · have cc : wr.cell? ⟨w.heap.size + 1 + 1, 2, none⟩ = some (.func (.func 83) #[.agg #[.string s, .int .i64 kd, .slice A n ca, .int .i64 rt, .slice B k cb, .int .i64 tm]] #[]) := hrel.out.2.1.cell 2
      have HKK := Lib.hid (And.intro k0 (And.intro k1 (And.intro k2 (And.intro k3 (And.intro k4 k5)))))
      clear k0 k1 k2 k3 k4 k5
      go_wp2_with fail
      refine (HV.out _ hrel.out.1).mono ?_
      rintro e w2 ⟨rfl, hb⟩
      have HB2 := Lib.hid (And.intro (below_then hrel.out.1 hb) (hrel.out.2.1.keep hb))
      clear hb cc
      by_cases hc : c2 = 0
      · have HC := Lib.hid hc
        go_wp2_with fail
        refine ⟨⟨3, by first | rfl | go_num, by omega, ⟨HB2.out.1, HB2.out.2, fun _ => HKK.out.1 (by omega), fun _ => HKK.out.2.1 (by omega), fun _ => HC.out, by omega, by omega, by omega⟩⟩, by simp [intOf]⟩
      · have HE := Lib.hid (show q = c2 by
          have h := HQ.out
          obtain ⟨k0, k1, k2, k3, k4, k5⟩ := HKK.out
          rw [if_neg (not_not_intro (k0 (by omega))), if_neg (not_not_intro (k1 (by omega))), if_pos hc] at h
          exact h)
        go_wp2_with fail
        go_ret
        exact ⟨by rw [HE.out]; rfl, HB2.out.1⟩
    · have cc : wr.cell? ⟨w.heap.size + 1 + 1, 3, none⟩ = some (.func (.func 84) #[.agg #[.string s, .int .i64 kd, .slice A n ca, .int .i64 rt, .slice B k cb, .int .i64 tm]] #[]) := hrel.out.2.1.cell 3
      have HKK := Lib.hid (And.intro k0 (And.intro k1 (And.intro k2 (And.intro k3 (And.intro k4 k5)))))
      clear k0 k1 k2 k3 k4 k5
      go_wp2_with fail
      refine (HR.out _).mono ?_
      rintro e w2 ⟨rfl, hb⟩
      have HB2 := Lib.hid (And.intro (below_then hrel.out.1 hb) (hrel.out.2.1.keep hb))
      clear hb cc
      by_cases hc : c3 = 0
      · have HC := Lib.hid hc
        go_wp2_with fail
        refine ⟨⟨4, by first | rfl | go_num, by omega, ⟨HB2.out.1, HB2.out.2, fun _ => HKK.out.1 (by omega), fun _ => HKK.out.2.1 (by omega), fun _ => HKK.out.2.2.1 (by omega), fun _ => HC.out, by omega, by omega⟩⟩, by simp [intOf]⟩
      · have HE := Lib.hid (show q = c3 by
          have h := HQ.out
          obtain ⟨k0, k1, k2, k3, k4, k5⟩ := HKK.out
          rw [if_neg (not_not_intro (k0 (by omega))), if_neg (not_not_intro (k1 (by omega))), if_neg (not_not_intro (k2 (by omega))), if_pos hc] at h
          exact h)
        go_wp2_with fail
        go_ret
        exact ⟨by rw [HE.out]; rfl, HB2.out.1⟩
    · have cc : wr.cell? ⟨w.heap.size + 1 + 1, 4, none⟩ = some (.func (.func 85) #[.agg #[.string s, .int .i64 kd, .slice A n ca, .int .i64 rt, .slice B k cb, .int .i64 tm]] #[]) := hrel.out.2.1.cell 4
      have HKK := Lib.hid (And.intro k0 (And.intro k1 (And.intro k2 (And.intro k3 (And.intro k4 k5)))))
      clear k0 k1 k2 k3 k4 k5
      go_wp2_with fail
      refine (HT.out _ hrel.out.1).mono ?_
      rintro e w2 ⟨rfl, hb⟩
      have HB2 := Lib.hid (And.intro (below_then hrel.out.1 hb) (hrel.out.2.1.keep hb))
      clear hb cc
      by_cases hc : c4 = 0
      · have HC := Lib.hid hc
        go_wp2_with fail
        refine ⟨⟨5, by first | rfl | go_num, by omega, ⟨HB2.out.1, HB2.out.2, fun _ => HKK.out.1 (by omega), fun _ => HKK.out.2.1 (by omega), fun _ => HKK.out.2.2.1 (by omega), fun _ => HKK.out.2.2.2.1 (by omega), fun _ => HC.out, by omega⟩⟩, by simp [intOf]⟩
      · have HE := Lib.hid (show q = c4 by
          have h := HQ.out
          obtain ⟨k0, k1, k2, k3, k4, k5⟩ := HKK.out
          rw [if_neg (not_not_intro (k0 (by omega))), if_neg (not_not_intro (k1 (by omega))), if_neg (not_not_intro (k2 (by omega))), if_neg (not_not_intro (k3 (by omega))), if_pos hc] at h
          exact h)
        go_wp2_with fail
        go_ret
        exact ⟨by rw [HE.out]; rfl, HB2.out.1⟩
    · have cc : wr.cell? ⟨w.heap.size + 1 + 1, 5, none⟩ = some (.func (.func 86) #[.agg #[.string s, .int .i64 kd, .slice A n ca, .int .i64 rt, .slice B k cb, .int .i64 tm]] #[]) := hrel.out.2.1.cell 5
      have HKK := Lib.hid (And.intro k0 (And.intro k1 (And.intro k2 (And.intro k3 (And.intro k4 k5)))))
      clear k0 k1 k2 k3 k4 k5
      go_wp2_with fail
      refine (HM.out _).mono ?_
      rintro e w2 ⟨rfl, hb⟩
      have HB2 := Lib.hid (And.intro (below_then hrel.out.1 hb) (hrel.out.2.1.keep hb))
      clear hb cc
      by_cases hc : c5 = 0
      · have HC := Lib.hid hc
        go_wp2_with fail
        refine ⟨⟨6, by first | rfl | go_num, by omega, ⟨HB2.out.1, HB2.out.2, fun _ => HKK.out.1 (by omega), fun _ => HKK.out.2.1 (by omega), fun _ => HKK.out.2.2.1 (by omega), fun _ => HKK.out.2.2.2.1 (by omega), fun _ => HKK.out.2.2.2.2.1 (by omega), fun _ => HC.out⟩⟩, by simp [intOf]⟩
      · have HE := Lib.hid (show q = c5 by
          have h := HQ.out
          obtain ⟨k0, k1, k2, k3, k4, k5⟩ := HKK.out
          rw [if_neg (not_not_intro (k0 (by omega))), if_neg (not_not_intro (k1 (by omega))), if_neg (not_not_intro (k2 (by omega))), if_neg (not_not_intro (k3 (by omega))), if_neg (not_not_intro (k4 (by omega))), if_pos hc] at h
          exact h)
        go_wp2_with fail
        go_ret
        exact ⟨by rw [HE.out]; rfl, HB2.out.1⟩
    · have HE := Lib.hid (show q = 0 by
        have h := HQ.out
        rw [if_neg (not_not_intro (k0 (by omega))), if_neg (not_not_intro (k1 (by omega))), if_neg (not_not_intro (k2 (by omega))), if_neg (not_not_intro (k3 (by omega))), if_neg (not_not_intro (k4 (by omega))), if_neg (not_not_intro (k5 (by omega)))] at h
        exact h)
      clear k0 k1 k2 k3 k4 k5
      go_wp2_with fail
      go_ret
      exact ⟨by rw [HE.out]; first | done | rfl, hrel.out.1⟩
end Go.Proofs.YtbcmchkgamkceaaGreatDoor

/-
  Package metric: oneForms. No statement of the seat is proved here.
-/
namespace Go.Proofs.YtbcmchkgamkceaaGreatDoor
open Go.RowKit
open Dc (D D0)

theorem own_slice_at {w : World} {base n : Nat} {v : Value} {ds : List D} (h : w.ownsRow base 51 3 v n (flatD ds)) : ∃ A cap, v = .slice A n cap ∧ n ≤ cap := by
  obtain ⟨A, cap, e, h1, _⟩ := own_slice h
  exact ⟨A, cap, e, h1⟩

set_option maxRecDepth 100000 in
set_option maxHeartbeats 4000000 in
theorem forms_calls {w : World} {A : Option Addr} {n cap : Nat} {ds : List D} (hn : ds.length = n) (hA : Decs w A ds) (hz : n ≤ 1000) (hf : ∀ d ∈ ds, d.Fits) :
    Calls Tryz.prog 46 #[.slice A n cap] w fun e w' => (∃ v, e = .returned v ∧ w'.ownsRow w.heap.size 51 3 v n (flatD (ds.map form))) ∧ Below w.heap.size w w' := by
  have HA := Lib.hid (And.intro hn (And.intro hA hf))
  clear hn hA hf
  obtain ⟨ti, hi, hz0, hz1, hz2⟩ := info_parts (rowDec).info
  obtain ⟨wm, hmk, hown, hgr⟩ := run_make_own (P := Tryz.prog) w w.heap.size 32 51 ti _ 3 Tryz.underlying32 hi hz0 hz1 .i64 .i64 n (by rw [hz2]; omega) (by unfold maxLen; omega) (Nat.le_refl _)
  have HM := Lib.hid (And.intro hown ((Below.refl w.heap.size w).grown hgr (Nat.le_refl _) (by intro k hk; cases hk)))
  clear hi hz0 hz1 hz2 hown hgr
  go_enter Tryz.func46, Tryz.ntmps46
  go_wp2_with fail
  go_loopw [3, 13] (fun v3 v13 wr => ∃ i : Nat, v13 = .int .i64 i ∧ i ≤ n ∧ Hid (Below w.heap.size w wr ∧ wr.ownsRow w.heap.size 51 3 v3 i (flatD ((ds.take i).map form)))) (fun _ v13 _ => n - (intOf v13).toNat)
  case atStart => exact ⟨0, rfl, by omega, ⟨HM.out.2, HM.out.1⟩⟩
  case round =>
    obtain ⟨i, rfl, hi, hrel⟩ := hrel
    clear HM hmk
    by_cases hlt : i < n
    · have g1 : (i : Int) < (n : Int) := by omega
      have g2 : (0 : Int) ≤ (i : Int) := by omega
      obtain ⟨hn, hA, hf⟩ := HA.out
      have l0 : i < ds.length := by omega
      obtain ⟨b, off, p, x, y, e1, c0, c1, c2, hd⟩ := (hA.keep hrel.out.1).get l0
      subst e1
      have hC := fun W => Dc.normal_calls ds[i] (hf _ (List.getElem_mem l0)) W
      unfold Dc.dV at hC
      simp only [← hd.neg, ← hd.c, ← hd.e] at hC
      obtain ⟨x', hx'⟩ : ∃ x : Int, x = ((Dc.nVal ds[i]).c : Int) := ⟨_, rfl⟩
      obtain ⟨y', hy'⟩ : ∃ y : Int, y = (Dc.nVal ds[i]).e := ⟨_, rfl⟩
      obtain ⟨p', hp'⟩ : ∃ n : Bool, n = (Dc.nVal ds[i]).neg := ⟨_, rfl⟩
      obtain ⟨ok, hok⟩ : ∃ ok, (Dc.normal ds[i]).isSome = ok := ⟨_, rfl⟩
      have hE : Dc.nErr ds[i] = if ok then 0 else 10 := by unfold Dc.nErr; rw [hok]
      simp only [← hx', ← hy', ← hp', hE] at hC
      have hfm : Dl p x y (form ds[i]) ∨ ok = true := by
        cases ok
        · left
          have : form ds[i] = ds[i] := by
            unfold form
            cases hq : Dc.normal ds[i] with
            | none => rfl
            | some q => rw [hq] at hok; cases hok
          rw [this]; exact hd
        · exact .inr rfl
      have hfm2 : ok = true → Dl p' x' y' (form ds[i]) := fun h => by
        rw [← form_nVal (by rw [hok]; exact h)]
        exact ⟨hp', hx', hy'⟩
      have HD := Lib.hid (And.intro hfm (And.intro hfm2 (show (ds.take (i + 1)).map form = (ds.take i).map form ++ [form ds[i]] by rw [List.take_add_one, List.getElem?_eq_getElem l0]; simp only [Option.toList, List.map_append, List.map_cons, List.map_nil])))
      have HC := Lib.hid hC
      have HB := Lib.hid (Box.new wr 51 [.bool p, .int .u64 x, .int .i64 y])
      clear hn hA hf hC hd hx' hy' hp' hok hE hfm hfm2
      go_wp2_with fail
      refine (HC.out _).mono ?_
      rintro e w2 ⟨rfl, hb⟩
      have b5 := (HB.out.keep hb).alloc (.cells #[.bool p', .int .u64 x', .int .i64 y'] 51)
      have hb2 : Below wr.heap.size wr (w2.alloc (.cells #[.bool p', .int .u64 x', .int .i64 y'] 51)) := (((Below.refl _ _).alloc (Nat.le_refl _) _).trans (hb.mono (by simp))).alloc (Nat.le_trans (by simp) hb.size) _
      have a0 := b5.cell 0
      have a1 := b5.cell 1
      have a2 := b5.cell 2
      simp only [List.getElem?_cons_zero, List.getElem?_cons_succ] at a0 a1 a2
      have f0 := b5.frozen 0
      have f1 := b5.frozen 1
      have f2 := b5.frozen 2
      have HB2 := Lib.hid (And.intro b5 hb2)
      clear hb HB HC b5 hb2 c0 c1 c2
      cases ok
      · have HG := Lib.hid (show Dl p x y (form ds[i]) by rcases HD.out.1 with h | h; exact h; cases h)
        have HW1 := Lib.hid (HB2.out.2.alloc HB2.out.2.size (.cells #[.bool p, .int .u64 x, .int .i64 y] 51))
        have HW := Lib.hid (below_then hrel.out.1 HW1.out)
        have HO := Lib.hid (own_keep hrel.out.2 HW1.out)
        go_wp2_with (first | (at_builtin; refine wpList_append_rows _ rowDec rfl (.tmp 25) (.tmp 27) rfl w.heap.size u3 i _ rfl HO.out (some ⟨w2.heap.size + 1, 0, none⟩) 1 1 (flatD [form ds[i]]) rfl rfl (decs_at (size_alloc _ _) HG.out) flatD_cells (by omega) HW.out.size ?_; intro v8 w8 hown8 hgr8 hob8; have HW8 := Lib.hid (And.intro (grown_own HW.out HO.out hgr8) hown8); clear hown8 hgr8 hob8))
        refine ⟨⟨i + 1, by go_num, by omega, ⟨HW8.out.1, ?_⟩⟩, by simp [intOf]; omega⟩
        rw [HD.out.2.2, flatD_append]
        exact HW8.out.2
      · have HG := Lib.hid (HD.out.2.1 rfl)
        have HW0 := Lib.hid (below_set (below_set (below_set HB2.out.2 (Nat.le_refl _) 0 (.bool p')) (Nat.le_refl _) 1 (.int .u64 x')) (Nat.le_refl _) 2 (.int .i64 y'))
        have HW1 := Lib.hid (HW0.out.alloc HW0.out.size (.cells #[.bool p', .int .u64 x', .int .i64 y'] 51))
        have HW := Lib.hid (below_then hrel.out.1 HW1.out)
        have HO := Lib.hid (own_keep hrel.out.2 HW1.out)
        go_wp2_with (first | (at_builtin; refine wpList_append_rows _ rowDec rfl (.tmp 25) (.tmp 27) rfl w.heap.size u3 i _ rfl HO.out (some ⟨w2.heap.size + 1, 0, none⟩) 1 1 (flatD [form ds[i]]) rfl rfl (decs_at (by simp) HG.out) flatD_cells (by omega) HW.out.size ?_; intro v8 w8 hown8 hgr8 hob8; have HW8 := Lib.hid (And.intro (grown_own HW.out HO.out hgr8) hown8); clear hown8 hgr8 hob8))
        refine ⟨⟨i + 1, by go_num, by omega, ⟨HW8.out.1, ?_⟩⟩, by simp [intOf]; omega⟩
        rw [HD.out.2.2, flatD_append]
        exact HW8.out.2
    · have g1 : ¬ (i : Int) < (n : Int) := by omega
      go_wp2_with fail
      go_ret
      obtain rfl : i = n := by omega
      have h2 := hrel.out.2
      rw [List.take_of_length_le (by have := HA.out.1; omega)] at h2
      exact ⟨⟨_, rfl, h2⟩, hrel.out.1⟩
end Go.Proofs.YtbcmchkgamkceaaGreatDoor

/-
  Package metric: equalRows and Equal. No statement of the seat is proved here.
-/
namespace Go.Proofs.YtbcmchkgamkceaaGreatDoor
open Go.RowKit
open Dc (D D0)

set_option maxRecDepth 100000 in
set_option maxHeartbeats 4000000 in
theorem eqD_calls {w : World} {A B : Option Addr} {n m ca cb : Nat} {ts us : List D} (hn : ts.length = n) (hm : us.length = m) (hA : Decs w A ts) (hB : Decs w B us) (zn : n ≤ 1000000) :
    Calls Tryz.prog 49 #[.slice A n ca, .slice B m cb] w fun e w' => e = .returned (.bool (decide (ts = us))) ∧ Below w.heap.size w w' := by
  obtain ⟨q, hq⟩ : ∃ q, decide (ts = us) = q := ⟨_, rfl⟩
  rw [hq]
  have HQ := Lib.hid hq
  clear hq
  by_cases hnm : n = m
  · subst hnm
    have HH := Lib.hid (And.intro hA (And.intro hB (And.intro hn hm)))
    have hg := dguard
    clear hA hB hn hm
    go_enter Tryz.func49, Tryz.ntmps49
    go_wp2_with fail
    go_loopw [13] (fun v wr => ∃ i : Nat, v = .int .i64 i ∧ i ≤ n ∧ Hid (Below w.heap.size w wr ∧ ∀ j (h : j < ts.length) (g : j < us.length), j < i → ts[j] = us[j])) (fun v _ => n - (intOf v).toNat)
    case atStart => exact ⟨0, rfl, by omega, ⟨Below.refl _ _, fun j _ _ hj => absurd hj (by omega)⟩⟩
    case round =>
      obtain ⟨i, rfl, hin, hrel⟩ := hrel
      by_cases hlt : i < n
      · have g1 : (i : Int) < (n : Int) := by omega
        have g2 : (0 : Int) ≤ (i : Int) := by omega
        obtain ⟨hA, hB, hn, hm⟩ := HH.out
        have l1 : i < ts.length := by omega
        have l2 : i < us.length := by omega
        obtain ⟨b, off, p, x, y, e1, c0, c1, c2, hd⟩ := (hA.keep hrel.out.1).get l1
        obtain ⟨b', off', p', x', y', e2, d0, d1, d2, hd'⟩ := (hB.keep hrel.out.1).get l2
        subst e1 e2
        by_cases he : ts[i] = us[i]
        · have k := dne_run hd hd' (decide_eq_true he)
          have HE := Lib.hid he
          clear hA hB hn hm hd hd' he
          go_wp2_with fail
          go_quiet (fail)
          go_wp2_with fail
          refine ⟨⟨i + 1, by go_num, by omega, ⟨hrel.out.1.trans (Same.drewN _ _).below, fun j h g hj => ?_⟩⟩, by simp [intOf]; omega⟩
          rcases Nat.lt_or_ge j i with h' | h'
          · exact hrel.out.2 j h g h'
          · obtain rfl : i = j := by omega
            exact HE.out
        · have k := dne_run hd hd' (decide_eq_false he)
          have HE := Lib.hid (show q = false by rw [← HQ.out]; exact decide_eq_false fun h => he (by subst h; rfl))
          clear hA hB hn hm hd hd' he
          go_wp2_with fail
          go_quiet (fail)
          go_wp2_with fail
          go_ret
          exact ⟨by rw [HE.out]; first | done | rfl, hrel.out.1.trans (Same.drewN _ _).below⟩
      · have g1 : ¬ (i : Int) < (n : Int) := by omega
        have HE := Lib.hid (show q = true by
          rw [← HQ.out]
          obtain ⟨_, _, hn, hm⟩ := HH.out
          exact decide_eq_true (List.ext_getElem (by omega) fun j h g => hrel.out.2 j h g (by omega)))
        go_wp2_with fail
        go_ret
        exact ⟨by rw [HE.out]; first | done | rfl, hrel.out.1⟩
  · have HE := Lib.hid (show q = false by rw [← HQ.out]; exact decide_eq_false fun h => hnm (by rw [← hn, ← hm, h]))
    have h1 : ((n : Int) == (m : Int)) = false := by simp; omega
    clear hA hB hn hm hnm
    go_enter Tryz.func49, Tryz.ntmps49
    go_wp2_with fail
    go_ret
    exact ⟨by rw [HE.out]; first | done | rfl, Below.refl _ _⟩

set_option maxRecDepth 100000 in
set_option maxHeartbeats 4000000 in
theorem eqT_calls {w : World} {A B : Option Addr} {n m ca cb : Nat} {ts us : List Tg} (hn : ts.length = n) (hm : us.length = m) (hA : Tags w A ts) (hB : Tags w B us) (zn : n ≤ 1000000) :
    Calls Tryz.prog 50 #[.slice A n ca, .slice B m cb] w fun e w' => e = .returned (.bool (decide (ts = us))) ∧ Below w.heap.size w w' := by
  obtain ⟨q, hq⟩ : ∃ q, decide (ts = us) = q := ⟨_, rfl⟩
  rw [hq]
  have HQ := Lib.hid hq
  clear hq
  by_cases hnm : n = m
  · subst hnm
    have HH := Lib.hid (And.intro hA (And.intro hB (And.intro hn hm)))
    have hg := tguard
    clear hA hB hn hm
    go_enter Tryz.func50, Tryz.ntmps50
    go_wp2_with fail
    go_loopw [13] (fun v wr => ∃ i : Nat, v = .int .i64 i ∧ i ≤ n ∧ Hid (Below w.heap.size w wr ∧ ∀ j (h : j < ts.length) (g : j < us.length), j < i → ts[j] = us[j])) (fun v _ => n - (intOf v).toNat)
    case atStart => exact ⟨0, rfl, by omega, ⟨Below.refl _ _, fun j _ _ hj => absurd hj (by omega)⟩⟩
    case round =>
      obtain ⟨i, rfl, hin, hrel⟩ := hrel
      by_cases hlt : i < n
      · have g1 : (i : Int) < (n : Int) := by omega
        have g2 : (0 : Int) ≤ (i : Int) := by omega
        obtain ⟨hA, hB, hn, hm⟩ := HH.out
        have l1 : i < ts.length := by omega
        have l2 : i < us.length := by omega
        obtain ⟨b, off, s, t, e1, c0, c1, hs, ht⟩ := (hA.keep hrel.out.1).get l1
        obtain ⟨b', off', s', t', e2, d0, d1, hs', ht'⟩ := (hB.keep hrel.out.1).get l2
        subst e1 e2
        by_cases he : ts[i] = us[i]
        · have k := tne_run hs ht hs' ht' (decide_eq_true he)
          have HE := Lib.hid he
          clear hA hB hn hm hs ht hs' ht' he
          go_wp2_with fail
          go_quiet (fail)
          go_wp2_with fail
          refine ⟨⟨i + 1, by go_num, by omega, ⟨hrel.out.1.trans (Same.drewN _ _).below, fun j h g hj => ?_⟩⟩, by simp [intOf]; omega⟩
          rcases Nat.lt_or_ge j i with h' | h'
          · exact hrel.out.2 j h g h'
          · obtain rfl : i = j := by omega
            exact HE.out
        · have k := tne_run hs ht hs' ht' (decide_eq_false he)
          have HE := Lib.hid (show q = false by rw [← HQ.out]; exact decide_eq_false fun h => he (by subst h; rfl))
          clear hA hB hn hm hs ht hs' ht' he
          go_wp2_with fail
          go_quiet (fail)
          go_wp2_with fail
          go_ret
          exact ⟨by rw [HE.out]; first | done | rfl, hrel.out.1.trans (Same.drewN _ _).below⟩
      · have g1 : ¬ (i : Int) < (n : Int) := by omega
        have HE := Lib.hid (show q = true by
          rw [← HQ.out]
          obtain ⟨_, _, hn, hm⟩ := HH.out
          exact decide_eq_true (List.ext_getElem (by omega) fun j h g => hrel.out.2 j h g (by omega)))
        go_wp2_with fail
        go_ret
        exact ⟨by rw [HE.out]; first | done | rfl, hrel.out.1⟩
  · have HE := Lib.hid (show q = false by rw [← HQ.out]; exact decide_eq_false fun h => hnm (by rw [← hn, ← hm, h]))
    have h1 : ((n : Int) == (m : Int)) = false := by simp; omega
    clear hA hB hn hm hnm
    go_enter Tryz.func50, Tryz.ntmps50
    go_wp2_with fail
    go_ret
    exact ⟨by rw [HE.out]; first | done | rfl, Below.refl _ _⟩

section
variable {w : World} {s s' : ByteArray} {A B A' B' : Option Addr} {n k n' k' ca cb ca' cb' : Nat} {a b : Mt}
theorem mt_ext {a b : Mt} : a = b ↔ a.name = b.name ∧ a.kind = b.kind ∧ a.rate = b.rate ∧ a.time = b.time ∧ a.vals = b.vals ∧ a.tags = b.tags := by
  obtain ⟨a1, a2, a3, a4, a5, a6⟩ := a
  obtain ⟨b1, b2, b3, b4, b5, b6⟩ := b
  simp only [Mt.mk.injEq]
  exact ⟨fun ⟨h1, h2, h3, h4, h5, h6⟩ => ⟨h1, h2, h4, h6, h3, h5⟩, fun ⟨h1, h2, h3, h4, h5, h6⟩ => ⟨h1, h2, h5, h3, h6, h4⟩⟩

set_option maxRecDepth 100000 in
set_option maxHeartbeats 4000000 in
theorem equal_calls (ha : MIs w s A n B k a) (hb : MIs w s' A' n' B' k' b) (za : Small a) :
    Calls Tryz.prog 22 #[mV s a.kind A n ca a.rate B k cb a.time, mV s' b.kind A' n' ca' b.rate B' k' cb' b.time] w fun e w' => e = .returned (.bool (decide (a = b))) ∧ Below w.heap.size w w' := by
  obtain ⟨q, hq⟩ : ∃ q, decide (a = b) = q := ⟨_, rfl⟩
  rw [hq]
  have HQ := Lib.hid hq
  clear hq
  have hE := fun W (h : Below w.heap.size w W) => eqD_calls (ca := ca) (cb := ca') ha.vlen hb.vlen (ha.vals.keep h) (hb.vals.keep h) (by have := ha.vlen; have := za.vals; omega)
  have hF := fun W (h : Below w.heap.size w W) => eqT_calls (ca := cb) (cb := cb') ha.tlen hb.tlen (ha.tags.keep h) (hb.tags.keep h) (by have := ha.tlen; have := za.tags; omega)
  obtain ⟨qv, hqv⟩ : ∃ q, decide (a.vals = b.vals) = q := ⟨_, rfl⟩
  obtain ⟨qt, hqt⟩ : ∃ q, decide (a.tags = b.tags) = q := ⟨_, rfl⟩
  rw [hqv] at hE
  rw [hqt] at hF
  have HX := Lib.hid (And.intro hqv hqt)
  have HE := Lib.hid hE
  have HF := Lib.hid hF
  obtain ⟨kd, hkd⟩ : ∃ x, x = a.kind := ⟨_, rfl⟩
  obtain ⟨rt, hrt⟩ : ∃ x, x = a.rate := ⟨_, rfl⟩
  obtain ⟨tm, htm⟩ : ∃ x, x = a.time := ⟨_, rfl⟩
  obtain ⟨kd', hkd'⟩ : ∃ x, x = b.kind := ⟨_, rfl⟩
  obtain ⟨rt', hrt'⟩ : ∃ x, x = b.rate := ⟨_, rfl⟩
  obtain ⟨tm', htm'⟩ : ∃ x, x = b.time := ⟨_, rfl⟩
  rw [← hkd, ← hrt, ← htm, ← hkd', ← hrt', ← htm']
  have HY := Lib.hid (And.intro hkd (And.intro hrt (And.intro htm (And.intro hkd' (And.intro hrt' htm')))))
  have hse := str_eq ha.name hb.name
  obtain ⟨qn, hqn⟩ : ∃ q, (a.name == b.name) = q := ⟨_, rfl⟩
  rw [hqn] at hse
  have HN := Lib.hid hqn
  have HL := Lib.hid (((Kb.start w).push 35 (mC s kd A n ca rt B k cb tm)).push 35 (mC s' kd' A' n' ca' rt' B' k' cb' tm'))
  rw [size_alloc] at HL
  unfold mC at HL
  unfold mV
  clear hE hF hqv hqt hkd hrt htm hkd' hrt' htm' hqn ha hb za
  go_enter Tryz.func22, Tryz.ntmps22
  cases qn
  · have HZ := Lib.hid (show q = false by
      rw [← HQ.out]; exact decide_eq_false fun h => by have := HN.out; rw [(mt_ext.1 h).1] at this; simp at this)
    go_wp2_with fail
    go_ret
    exact ⟨by rw [HZ.out]; first | done | rfl, HL.out.kept⟩
  rcases (by omega : kd ≠ kd' ∨ (kd = kd' ∧ rt ≠ rt') ∨ (kd = kd' ∧ rt = rt' ∧ tm ≠ tm') ∨ (kd = kd' ∧ rt = rt' ∧ tm = tm')) with h | ⟨rfl, h⟩ | ⟨rfl, rfl, h⟩ | ⟨rfl, rfl, rfl⟩
  · have HZ := Lib.hid (show q = false by
      obtain ⟨h1, h2, h3, h4, h5, h6⟩ := HY.out
      rw [← HQ.out]; exact decide_eq_false fun e => h (by rw [h1, h4, e]))
    have h1 : (kd == kd') = false := by simpa using h
    go_wp2_with fail
    go_ret
    exact ⟨by rw [HZ.out]; first | done | rfl, HL.out.kept⟩
  · have HZ := Lib.hid (show q = false by
      obtain ⟨h1, h2, h3, h4, h5, h6⟩ := HY.out
      rw [← HQ.out]; exact decide_eq_false fun e => h (by rw [h2, h5, e]))
    have h1 : (rt == rt') = false := by simpa using h
    go_wp2_with fail
    go_ret
    exact ⟨by rw [HZ.out]; first | done | rfl, HL.out.kept⟩
  · have HZ := Lib.hid (show q = false by
      obtain ⟨h1, h2, h3, h4, h5, h6⟩ := HY.out
      rw [← HQ.out]; exact decide_eq_false fun e => h (by rw [h3, h6, e]))
    have h1 : (tm == tm') = false := by simpa using h
    go_wp2_with fail
    go_ret
    exact ⟨by rw [HZ.out]; first | done | rfl, HL.out.kept⟩
  · have HZ := Lib.hid (show q = (qv && qt) by
      obtain ⟨h1, h2, h3, h4, h5, h6⟩ := HY.out
      have hn : a.name = b.name := by simpa using HN.out
      rw [← HQ.out, ← HX.out.1, ← HX.out.2, Bool.eq_iff_iff, Bool.and_eq_true, decide_eq_true_eq, decide_eq_true_eq, decide_eq_true_eq, mt_ext]
      exact ⟨fun h => ⟨h.2.2.2.2.1, h.2.2.2.2.2⟩, fun h => ⟨hn, by rw [← h1, h4], by rw [← h2, h5], by rw [← h3, h6], h.1, h.2⟩⟩)
    go_wp2_with fail
    refine (HE.out _ HL.out.kept).mono ?_
    rintro e w2 ⟨rfl, hb⟩
    have HL2 := Lib.hid (HL.out.next hb)
    clear hb HL HE
    cases qv
    · go_wp2_with fail
      go_ret
      exact ⟨by rw [HZ.out]; first | done | rfl, HL2.out.kept⟩
    · have d4 : w2.cell? ⟨w.heap.size, 4, none⟩ = some (.slice B k cb) := HL2.out.cell (.tail _ (.head _)) rfl
      have e4 : w2.cell? ⟨w.heap.size + 1, 4, none⟩ = some (.slice B' k' cb') := HL2.out.cell (.head _) rfl
      go_wp2_with fail
      refine (HF.out _ HL2.out.kept).mono ?_
      rintro e w3 ⟨rfl, hb⟩
      have HL3 := Lib.hid (HL2.out.next hb)
      clear hb HL2 HF
      go_wp2_with fail
      go_ret
      exact ⟨by rw [HZ.out]; first | done | rfl | simp, HL3.out.kept⟩
end
end Go.Proofs.YtbcmchkgamkceaaGreatDoor
