/-
  MRows, MParts1, MParts2, MCheck, MForms, MEqual, MNormal, MSame, MRefEq, MAwake, DStr, MClone. No statement of the seat is proved here.
-/
import Derived.Test.YtmaiggoinjldpaaDoorGrDigs
import Derived.Test.YtmaiggoinjldpaaDoorGrTLess
import Derived.Test.YtmaiggoinjldpaaDoorGrDLift
import Derived.Test.YtmaiggoinjldpaaDoorGrTText
import Derived.Test.YtmaiggoinjldpaaDoorGrMMath
import Derived.OwnWalk
import Derived.Test.YtmaiggoinjldpaaDoorShelf
/-
  Rows of Decs, and appends onto rows of our own of any element. No statement of the seat is proved here.
-/
namespace Go.Proofs.YtmaiggoinjldpaaDoor
open Go.RowKit
open Dc (D D0)

/-! Appends, whatever the elements are. -/
section
variable (w : World)
/-- What is known of a row's type. -/
structure RowTy (sl el : TypeId) (z : Value) (size bytes : Nat) : Prop where
  under : Tryd.prog.underlying sl = some (.slice el)
  info : (Tryd.prog.info? el).map (fun i => (i.zero, i.size, i.bytes)) = some (some z, size, bytes)
  cells : z.cells.size = size
  pos : 0 < size
  few : bytes ≤ 128

set_option maxRecDepth 100000 in
theorem run_append_rows {sl el : TypeId} {z : Value} {size bytes : Nat} (T : RowTy sl el z size bytes) (base : Nat) (ty : TypeId) (v : Value) (n : Nat) (xs : List Value) (hown : w.ownsRow base el size v n xs)
    (A : Option Addr) (m c : Nat) (ys : List Value) (hl : ys.length = m * size) (hv : Lies w A ys) (h1 : ∀ u ∈ ys, u.oneCell' = true) (hfit : n + m ≤ 1000000) (hbase : base ≤ w.heap.size) :
    ∃ v' w', (Builtin.append_ #[sl, sl] ty #[v, .slice A m c]).run Tryd.prog w = .ok v' w' ∧ w'.ownsRow base el size v' (n + m) (xs ++ ys) ∧ w.grownBy w' v.ownBlock ∧
      (v'.ownBlock = v.ownBlock ∨ v'.ownBlock = some w.heap.size) := by
  obtain ⟨i, hi, hz, hs1, hb1⟩ := info_parts T.info
  have hby : (n + m) * bytes ≤ 140737488355328 := Nat.le_trans (Nat.mul_le_mul hfit T.few) (by omega)
  rcases A with _ | a
  · have h0 : ys = [] := by
      rcases ys with _ | ⟨u, us⟩
      · rfl
      · obtain ⟨b, off, e, _⟩ := hv 0 _ rfl
        cases e
    subst h0
    have hm : m = 0 := by
      have := T.pos
      rcases Nat.eq_zero_or_pos m with h | h
      · exact h
      · have := Nat.mul_pos h T.pos
        simp at hl
        omega
    subst hm
    refine ⟨v, w, ?_, by simpa using hown, World.grownBy.refl w _, .inl rfl⟩
    rcases hown.2 with ⟨rfl, rfl⟩ | ⟨g, cap, cur, rfl, _, _, hnc, _⟩
    · simp [Builtin.append_, run_underlying T.under, sizeOf, typeInfo, hi, Builtin.lenOf, Builtin.firstCells]
    · simp [Builtin.append_, run_underlying T.under, sizeOf, typeInfo, hi, Builtin.lenOf, Builtin.firstCells, hnc, storeCells]
  · obtain ⟨v', w', hr, h2, h3, _, h5⟩ := run_append_own_at (P := Tryd.prog) w base sl ty el _ z size bytes T.under hi hz hs1 hb1 T.cells T.pos v n xs hown a m c ys hl (fun j u hu => by
      obtain ⟨b, off, e, hc⟩ := hv j u hu
      injection e with e
      subst e
      rcases Nat.eq_zero_or_pos j with rfl | hj
      · simpa [Addr.add] using hc
      · simpa [Addr.add, Nat.ne_of_gt hj] using hc) h1 (by unfold maxLen; omega) hby hbase
    exact ⟨v', w', hr, h2, h3, h5⟩

theorem wpList_append_rows {sl el : TypeId} {z : Value} {size bytes : Nat} (T : RowTy sl el z size bytes) {ops : Array Oper} {rest : List Oper} {o : Oper} {a : Act} {Q : Exit → Act → World → Prop} (hgd : o.guard = none) (s x : Operand)
    (ho : o.op = .call { callee := .builtin .append, args := #[s, x], argTypes := #[sl, sl] })
    (base : Nat) (v : Value) (n : Nat) (xs : List Value) (hs : a.eval s = v) (hown : w.ownsRow base el size v n xs)
    (A : Option Addr) (m c : Nat) (ys : List Value) (hx : a.eval x = .slice A m c) (hl : ys.length = m * size) (hv : Lies w A ys) (h1 : ∀ u ∈ ys, u.oneCell' = true)
    (hfit : n + m ≤ 1000000) (hbase : base ≤ w.heap.size)
    (h : ∀ v' w', w'.ownsRow base el size v' (n + m) (xs ++ ys) → w.grownBy w' v.ownBlock → (v'.ownBlock = v.ownBlock ∨ v'.ownBlock = some w.heap.size) → wpList Tryd.prog ops Q rest (a.put o.dst v') w') :
    wpList Tryd.prog ops Q (o :: rest) a w := by
  refine wpList_plain hgd fun K hK => ?_
  obtain ⟨v', w', hr, h2, h3, h4⟩ := run_append_rows w T base o.type v n xs hown A m c ys hl hv h1 hfit hbase
  unfold Oper.wp execOp
  simp only [ho, resolve, invoke, builtin, Sem.run_bind, Sem.run_pure, Result.andThen_ok, List.map_toArray, List.map_cons, List.map_nil, hs, hx, hr]
  exact hK _ _ (h v' w' h2 h3 h4)

theorem grown_own {w W w8 : World} {el : TypeId} {size n : Nat} {v : Value} {xs : List Value} (hb : Below w.heap.size w W) (hown : W.ownsRow w.heap.size el size v n xs) (hg : W.grownBy w8 v.ownBlock) : Below w.heap.size w w8 :=
  hb.grown hg hb.size fun k hk => by
    rcases hown.2 with ⟨rfl, _⟩ | ⟨g, cap, cur, rfl, h, _⟩
    · cases hk
    · injection hk with hk; subst hk; exact h
theorem rowDec : RowTy 23 42 (.agg #[.bool false, .int .u64 0, .int .i64 0]) 3 24 := ⟨Tryd.underlying23, by kernel_rfl, rfl, by omega, by omega⟩
theorem rowTag : RowTy 24 57 (.agg #[.string ⟨#[]⟩, .string ⟨#[]⟩]) 2 32 := ⟨Tryd.underlying24, by kernel_rfl, rfl, by omega, by omega⟩
end

/-! Decs. -/
/-- A Dec's three cells. -/
structure Dl (n : Bool) (x y : Int) (d : D) : Prop where
  neg : n = d.neg
  c : x = (d.c : Int)
  e : y = d.e
theorem Dl.mk_ (d : D) : Dl d.neg d.c d.e d := ⟨rfl, rfl, rfl⟩
def encD (d : D) : List Value := [.bool d.neg, .int .u64 d.c, .int .i64 d.e]
def flatD (ds : List D) : List Value := ds.flatMap encD
theorem flatD_nil : flatD [] = [] := rfl
theorem flatD_cons (d : D) (ds : List D) : flatD (d :: ds) = .bool d.neg :: .int .u64 d.c :: .int .i64 d.e :: flatD ds := rfl
theorem flatD_append (a b : List D) : flatD (a ++ b) = flatD a ++ flatD b := by unfold flatD; rw [List.flatMap_append]
theorem flatD_length : ∀ ds : List D, (flatD ds).length = ds.length * 3
  | [] => rfl
  | d :: ds => by rw [flatD_cons, List.length_cons, List.length_cons, List.length_cons, flatD_length ds, List.length_cons]; omega
theorem flatD_get0 : ∀ (ds : List D) (i : Nat), (flatD ds)[i * 3]? = ds[i]?.map fun d => .bool d.neg
  | [], i => by simp [flatD_nil]
  | t :: ts, 0 => rfl
  | t :: ts, i + 1 => by rw [flatD_cons, show (i + 1) * 3 = i * 3 + 1 + 1 + 1 by omega]; simp only [List.getElem?_cons_succ]; exact flatD_get0 ts i
theorem flatD_get1 : ∀ (ds : List D) (i : Nat), (flatD ds)[i * 3 + 1]? = ds[i]?.map fun d => .int .u64 d.c
  | [], i => by simp [flatD_nil]
  | t :: ts, 0 => rfl
  | t :: ts, i + 1 => by rw [flatD_cons, show (i + 1) * 3 + 1 = i * 3 + 1 + 1 + 1 + 1 by omega]; simp only [List.getElem?_cons_succ]; exact flatD_get1 ts i
theorem flatD_get2 : ∀ (ds : List D) (i : Nat), (flatD ds)[i * 3 + 2]? = ds[i]?.map fun d => .int .i64 d.e
  | [], i => by simp [flatD_nil]
  | t :: ts, 0 => rfl
  | t :: ts, i + 1 => by rw [flatD_cons, show (i + 1) * 3 + 2 = i * 3 + 2 + 1 + 1 + 1 by omega]; simp only [List.getElem?_cons_succ]; exact flatD_get2 ts i
theorem flatD_cells : ∀ {ds : List D}, ∀ u ∈ flatD ds, u.oneCell' = true := by
  intro ts u hu
  obtain ⟨t, _, hu⟩ := List.mem_flatMap.1 hu
  simp [encD] at hu
  rcases hu with rfl | rfl | rfl <;> rfl

/-- The slice at A holds these Decs. -/
def Decs (w : World) (A : Option Addr) (ds : List D) : Prop := Lies w A (flatD ds)
section
variable {w w' : World} {A : Option Addr} {ds : List D}
theorem Decs.nil : Decs w A [] := Lies.nil
theorem Decs.keep (h : Decs w A ds) (hb : Below w.heap.size w w') : Decs w' A ds := Lies.keep h hb
theorem Decs.get {i : Nat} (h : Decs w A ds) (hi : i < ds.length) : ∃ b off n x y, A = some ⟨b, off, none⟩ ∧ w.cell? ⟨b, off + i * 3, none⟩ = some (.bool n) ∧ w.cell? ⟨b, off + i * 3 + 1, none⟩ = some (.int .u64 x) ∧ w.cell? ⟨b, off + i * 3 + 2, none⟩ = some (.int .i64 y) ∧ Dl n x y ds[i] := by
  obtain ⟨b, off, e, h0⟩ := h (i * 3) _ (by rw [flatD_get0, List.getElem?_eq_getElem hi]; rfl)
  obtain ⟨b', off', e', h1⟩ := h (i * 3 + 1) _ (by rw [flatD_get1, List.getElem?_eq_getElem hi]; rfl)
  obtain ⟨b2, off2, e2, h2⟩ := h (i * 3 + 2) _ (by rw [flatD_get2, List.getElem?_eq_getElem hi]; rfl)
  rw [e] at e' e2
  injection e' with e'
  injection e' with e1 e3
  subst e1 e3
  injection e2 with e2
  injection e2 with e1 e3
  subst e1 e3
  exact ⟨b, off, _, _, _, e, h0, h1, h2, Dl.mk_ _⟩
theorem Decs.of_own {base n cap : Nat} (h : w.ownsRow base 42 3 (.slice A n cap) n (flatD ds)) : Decs w A ds := Lies.of_own h
theorem Decs.nil_of (h : Decs w none ds) : ds = [] := by
  rcases ds with _ | ⟨t, ts⟩
  · rfl
  · obtain ⟨b, off, e, _⟩ := h 0 _ rfl
    cases e
theorem Decs.drew (h : Decs w A ds) : Decs w.drew A ds := h.keep (Same.below (Same.drewN w 1))
theorem Decs.alloc (h : Decs w A ds) (o : Obj) : Decs (w.alloc o) A ds := h.keep ((Below.refl _ _).alloc (Nat.le_refl _) o)
theorem own_lenD {base n : Nat} {v : Value} (h : w.ownsRow base 42 3 v n (flatD ds)) : ds.length = n := by have := h.1; rw [flatD_length] at this; omega
end
theorem decs_lit {w : World} {n : Nat} (hn : w.heap.size = n) (ds : List D) : Decs (w.alloc (.cells (flatD ds).toArray 42)) (some ⟨n, 0, none⟩) ds := by
  subst hn
  intro i u hu
  exact ⟨w.heap.size, 0, rfl, by rw [Nat.zero_add, (Box.new w 42 (flatD ds)).cell i]; exact hu⟩
theorem decs_at {w : World} {n : Nat} {p : Bool} {x y : Int} {d : D} (hn : w.heap.size = n) (h : Dl p x y d) : Decs (w.alloc (.cells #[.bool p, .int .u64 x, .int .i64 y] 42)) (some ⟨n, 0, none⟩) [d] := by
  rw [h.neg, h.c, h.e]; exact decs_lit hn [d]
theorem own_emptyD (w : World) : (w.alloc (.cells #[] 42)).ownsRow w.heap.size 42 3 (.slice (some ⟨w.heap.size, 0, none⟩) 0 0) 0 (flatD []) :=
  ⟨rfl, .inr ⟨w.heap.size, 0, #[], rfl, Nat.le_refl _, Box.new w 42 [], by omega, by unfold maxLen; omega, rfl, rfl⟩⟩
theorem own_nilD (w : World) (base : Nat) : w.ownsRow base 42 3 (.slice none 0 0) 0 (flatD []) := ⟨rfl, .inl ⟨rfl, rfl⟩⟩

section
variable {n n' : Bool} {x y x' y' : Int} {a b : D}
theorem deq_in (h : Dl n x y a) (h' : Dl n' x' y' b) (w : World) : (Op.equalIn 10000 42 (.agg #[.bool n, .int .u64 x, .int .i64 y]) (.agg #[.bool n', .int .u64 x', .int .i64 y'])).run Tryd.prog w = .ok (decide (a = b)) w := by
  have u3 := Tryd.underlying3
  have a3 := Tryd.isAgg3
  have z3 := Tryd.sizeOf3
  have u4 := Tryd.underlying4
  have a4 := Tryd.isAgg4
  have z4 := Tryd.sizeOf4
  have u5 := Tryd.underlying40
  have a5 := Tryd.isAgg40
  have z5 := Tryd.sizeOf40
  have hS : Tryd.prog.underlying 42 = some (.struct (Tryd.prog.fieldsOf 42)) := by kernel_rfl
  have hp : Tryd.prog.stoodInHeld 42 = false := by kernel_rfl
  rw [show (10000 : Nat) = 9999 + 1 from rfl, run_equalIn_agg w 9999 42 _ _ hS hp]
  simp only [Program.fieldsOf, Tryd.underlying42]
  go_simp
  obtain ⟨h1, h2, h3⟩ := h
  obtain ⟨k1, k2, k3⟩ := h'
  have key : (a = b) ↔ (n = n' ∧ x = x' ∧ y = y') := by
    obtain ⟨p, q, r⟩ := a
    obtain ⟨p', q', r'⟩ := b
    simp only [Dc.D.mk.injEq]
    simp only [] at h1 h2 h3 k1 k2 k3
    subst h1 h3 k1 k3
    exact ⟨fun ⟨e1, e2, e3⟩ => ⟨e1, by omega, e3⟩, fun ⟨e1, e2, e3⟩ => ⟨e1, by omega, e3⟩⟩
  rw [show decide (a = b) = decide (n = n' ∧ x = x' ∧ y = y') from decide_eq_decide.2 key]
  by_cases e1 : n = n' <;> by_cases e2 : x = x' <;> by_cases e3 : y = y' <;> simp [e1, e2, e3]
theorem deq_run (h : Dl n x y a) (h' : Dl n' x' y' b) {q : Bool} (hq : decide (a = b) = q) (w : World) : (binOp .eql 42 (.agg #[.bool n, .int .u64 x, .int .i64 y]) (.agg #[.bool n', .int .u64 x', .int .i64 y'])).run Tryd.prog w = .ok (.bool q) w := by
  rw [run_eql_struct, deq_in h h', hq]; rfl
theorem dne_run (h : Dl n x y a) (h' : Dl n' x' y' b) {q : Bool} (hq : decide (a = b) = q) (w : World) : (binOp .neq 42 (.agg #[.bool n, .int .u64 x, .int .i64 y]) (.agg #[.bool n', .int .u64 x', .int .i64 y'])).run Tryd.prog w = .ok (.bool (!q)) w := by
  rw [run_neq_struct, deq_in h h', hq]; rfl
theorem dguard (op : BinOp) (p q : Operand) (xs ys : Array Value) (w : World) : (eqGuard op 42 p q (.agg xs) (.agg ys)).run Tryd.prog w = .ok () w := run_eqGuard_agg w op _ p q xs ys (by kernel_rfl)
end
end Go.Proofs.YtmaiggoinjldpaaDoor

/-
  Package metric: allRight, of Decs and of tags. No statement of the seat is proved here.
-/
namespace Go.Proofs.YtmaiggoinjldpaaDoor
open Go.RowKit
open Dc (D D0)

set_option maxRecDepth 100000 in
set_option maxHeartbeats 4000000 in
theorem allD_calls {w : World} {A : Option Addr} {n cap : Nat} {ds : List D} (hn : ds.length = n) (hA : Decs w A ds) (hz : n ≤ 1000) (hf : ∀ d ∈ ds, d.Fits) (lo hi : Int) :
    Calls Tryd.prog 63 #[.slice A n cap, .int .i64 lo, .int .i64 hi, .func (.func 49) #[] #[]] w fun e w' => e = .returned (.bool (okV ds && decide (lo ≤ n ∧ (n : Int) ≤ hi))) ∧ Below w.heap.size w w' := by
  obtain ⟨q, hq⟩ : ∃ q, okV ds = q := ⟨_, rfl⟩
  rw [hq]
  have HQ := Lib.hid hq
  have HA := Lib.hid (And.intro hn (And.intro hA hf))
  clear hq hn hA hf
  go_enter Tryd.func63, Tryd.ntmps63
  by_cases h1 : (n : Int) < lo
  · have HE : Hid ((q && decide (lo ≤ (n : Int) ∧ (n : Int) ≤ hi)) = false) := Lib.hid (by rw [decide_eq_false (by omega), Bool.and_false])
    rw [HE.out]
    go_wp2_with fail
    go_ret
    exact ⟨rfl, Below.refl _ _⟩
  · by_cases h2 : hi < (n : Int)
    · have HE : Hid ((q && decide (lo ≤ (n : Int) ∧ (n : Int) ≤ hi)) = false) := Lib.hid (by rw [decide_eq_false (by omega), Bool.and_false])
      rw [HE.out]
      go_wp2_with fail
      go_ret
      exact ⟨rfl, Below.refl _ _⟩
    · have HE : Hid ((q && decide (lo ≤ (n : Int) ∧ (n : Int) ≤ hi)) = q) := Lib.hid (by rw [decide_eq_true (by omega), Bool.and_true])
      rw [HE.out]
      clear HE
      go_wp2_with fail
      go_loopw [23] (fun v wr => ∃ i : Nat, v = .int .i64 i ∧ i ≤ n ∧ Hid (Below w.heap.size w wr ∧ ∀ j (h : j < ds.length), j < i → Dc.check ds[j] = 0)) (fun v _ => n - (intOf v).toNat)
      case atStart => exact ⟨0, rfl, by omega, ⟨Below.refl _ _, fun j _ hj => absurd hj (by omega)⟩⟩
      case round =>
        obtain ⟨i, rfl, hin, hrel⟩ := hrel
        by_cases hlt : i < n
        · have g1 : (i : Int) < (n : Int) := by omega
          obtain ⟨hn, hA, hf⟩ := HA.out
          have l0 : i < ds.length := by omega
          obtain ⟨b, off, p, x, y, e1, c0, c1, c2, hd⟩ := (hA.keep hrel.out.1).get l0
          subst e1
          have hC := fun W => Dc.check_calls ds[i] (hf _ (List.getElem_mem l0)) W
          unfold Dc.dV at hC
          simp only [← hd.neg, ← hd.c, ← hd.e] at hC
          obtain ⟨r, hr⟩ : ∃ r, Dc.check ds[i] = r := ⟨_, rfl⟩
          rw [hr] at hC
          have HC := Lib.hid hC
          have HR := Lib.hid hr
          have hb1 := hrel.out.1.alloc hrel.out.1.size (.cells #[.bool p, .int .u64 x, .int .i64 y] 42)
          have HB := Lib.hid hb1
          clear hn hA hf hC hr hb1 hd
          go_wp2_with fail
          refine (HC.out _).mono ?_
          rintro e w2 ⟨rfl, hb⟩
          have HB2 := Lib.hid (below_then HB.out hb)
          clear hb HB HC c0 c1 c2
          by_cases hr0 : r = 0
          · have HE := Lib.hid (HR.out.trans hr0)
            go_wp2_with fail
            refine ⟨⟨i + 1, by go_num, by omega, ⟨HB2.out, fun j h hj => ?_⟩⟩, by simp [intOf]; omega⟩
            rcases Nat.lt_or_ge j i with h' | h'
            · exact hrel.out.2 j h h'
            · obtain rfl : i = j := by omega
              exact HE.out
          · have HE := Lib.hid (show q = false by
              rw [← HQ.out]
              refine Bool.eq_false_iff.2 fun h => hr0 ?_
              rw [← HR.out]
              unfold okV at h
              exact of_decide_eq_true (List.all_eq_true.1 h _ (List.getElem_mem l0)))
            go_wp2_with fail
            go_ret
            exact ⟨by rw [HE.out]; first | done | rfl, HB2.out⟩
        · have g1 : ¬ (i : Int) < (n : Int) := by omega
          have HE := Lib.hid (show q = true by
            rw [← HQ.out]
            unfold okV
            refine List.all_eq_true.2 fun d hd => decide_eq_true ?_
            obtain ⟨j, hj, rfl⟩ := List.mem_iff_getElem.1 hd
            exact hrel.out.2 j hj (by have := HA.out.1; omega))
          go_wp2_with fail
          go_ret
          exact ⟨by rw [HE.out]; first | done | rfl, hrel.out.1⟩

theorem chkT_ok {t : Tg} : chkT t = 0 ↔ rightT t = true := by
  unfold chkT; split
  · exact ⟨fun _ => by assumption, fun _ => rfl⟩
  · exact ⟨fun h => absurd h (by decide), fun h => absurd h (by assumption)⟩

set_option maxRecDepth 100000 in
set_option maxHeartbeats 4000000 in
theorem allT_calls {w : World} {A : Option Addr} {n cap : Nat} {ts : List Tg} (hn : ts.length = n) (hA : Tags w A ts) (hz : n ≤ 1000) (hf : ∀ t ∈ ts, t.1.length ≤ 1000 ∧ t.2.length ≤ 1000) (lo hi : Int) :
    Calls Tryd.prog 64 #[.slice A n cap, .int .i64 lo, .int .i64 hi, .func (.func 65) #[] #[]] w fun e w' => e = .returned (.bool (ts.all rightT && decide (lo ≤ n ∧ (n : Int) ≤ hi))) ∧ Below w.heap.size w w' := by
  obtain ⟨q, hq⟩ : ∃ q, ts.all rightT = q := ⟨_, rfl⟩
  rw [hq]
  have HQ := Lib.hid hq
  have HA := Lib.hid (And.intro hn (And.intro hA hf))
  clear hq hn hA hf
  go_enter Tryd.func64, Tryd.ntmps64
  by_cases h1 : (n : Int) < lo
  · have HE : Hid ((q && decide (lo ≤ (n : Int) ∧ (n : Int) ≤ hi)) = false) := Lib.hid (by rw [decide_eq_false (by omega), Bool.and_false])
    rw [HE.out]
    go_wp2_with fail
    go_ret
    exact ⟨rfl, Below.refl _ _⟩
  · by_cases h2 : hi < (n : Int)
    · have HE : Hid ((q && decide (lo ≤ (n : Int) ∧ (n : Int) ≤ hi)) = false) := Lib.hid (by rw [decide_eq_false (by omega), Bool.and_false])
      rw [HE.out]
      go_wp2_with fail
      go_ret
      exact ⟨rfl, Below.refl _ _⟩
    · have HE : Hid ((q && decide (lo ≤ (n : Int) ∧ (n : Int) ≤ hi)) = q) := Lib.hid (by rw [decide_eq_true (by omega), Bool.and_true])
      rw [HE.out]
      clear HE
      go_wp2_with fail
      go_loopw [23] (fun v wr => ∃ i : Nat, v = .int .i64 i ∧ i ≤ n ∧ Hid (Below w.heap.size w wr ∧ ∀ j (h : j < ts.length), j < i → rightT ts[j] = true)) (fun v _ => n - (intOf v).toNat)
      case atStart => exact ⟨0, rfl, by omega, ⟨Below.refl _ _, fun j _ hj => absurd hj (by omega)⟩⟩
      case round =>
        obtain ⟨i, rfl, hin, hrel⟩ := hrel
        by_cases hlt : i < n
        · have g1 : (i : Int) < (n : Int) := by omega
          obtain ⟨hn, hA, hf⟩ := HA.out
          have l0 : i < ts.length := by omega
          obtain ⟨b, off, s, u, e1, c0, c1, hs, hu⟩ := (hA.keep hrel.out.1).get l0
          subst e1
          have hl := hf _ (List.getElem_mem l0)
          have n1 := hs.size
          have n2 := hu.size
          have hC := fun W => check_calls hs hu (by omega) (by omega) W
          obtain ⟨r, hr⟩ : ∃ r, chkT ts[i] = r := ⟨_, rfl⟩
          rw [hr] at hC
          have HC := Lib.hid hC
          have HR := Lib.hid hr
          have hb1 := hrel.out.1.alloc hrel.out.1.size (.cells #[.string s, .string u] 57)
          have HB := Lib.hid hb1
          clear hn hA hf hC hr hb1 hs hu hl n1 n2
          go_wp2_with fail
          refine (HC.out _).mono ?_
          rintro e w2 ⟨rfl, hb⟩
          have HB2 := Lib.hid (below_then HB.out hb)
          clear hb HB HC c0 c1
          by_cases hr0 : r = 0
          · have HE := Lib.hid (chkT_ok.1 (HR.out.trans hr0))
            go_wp2_with fail
            refine ⟨⟨i + 1, by go_num, by omega, ⟨HB2.out, fun j h hj => ?_⟩⟩, by simp [intOf]; omega⟩
            rcases Nat.lt_or_ge j i with h' | h'
            · exact hrel.out.2 j h h'
            · obtain rfl : i = j := by omega
              exact HE.out
          · have HE := Lib.hid (show q = false by
              rw [← HQ.out]
              refine Bool.eq_false_iff.2 fun h => hr0 ?_
              rw [← HR.out]
              exact chkT_ok.2 (List.all_eq_true.1 h _ (List.getElem_mem l0)))
            go_wp2_with fail
            go_ret
            exact ⟨by rw [HE.out]; first | done | rfl, HB2.out⟩
        · have g1 : ¬ (i : Int) < (n : Int) := by omega
          have HE := Lib.hid (show q = true by
            rw [← HQ.out]
            refine List.all_eq_true.2 fun d hd => ?_
            obtain ⟨j, hj, rfl⟩ := List.mem_iff_getElem.1 hd
            exact hrel.out.2 j hj (by have := HA.out.1; omega))
          go_wp2_with fail
          go_ret
          exact ⟨by rw [HE.out]; first | done | rfl, hrel.out.1⟩
end Go.Proofs.YtmaiggoinjldpaaDoor

/-
  Package metric: what has to be right of a metric, part by part. No statement of the seat is proved here.
-/
namespace Go.Proofs.YtmaiggoinjldpaaDoor
open Go.RowKit
open Dc (D D0)

/-- A metric as a value. -/
def mV (s : ByteArray) (kd : Int) (A : Option Addr) (n ca : Nat) (rt : Int) (B : Option Addr) (k cb : Nat) (tm : Int) : Value :=
  .agg #[.string s, .int .i64 kd, .slice A n ca, .int .i64 rt, .slice B k cb, .int .i64 tm]
/-- Its cells read as this metric. -/
structure MIs (w : World) (s : ByteArray) (A : Option Addr) (n : Nat) (B : Option Addr) (k : Nat) (m : Mt) : Prop where
  name : Str s m.name
  vlen : m.vals.length = n
  vals : Decs w A m.vals
  tlen : m.tags.length = k
  tags : Tags w B m.tags
section
variable {w w' : World} {s : ByteArray} {A B : Option Addr} {n k : Nat} {m : Mt}
theorem MIs.keep (h : MIs w s A n B k m) (hb : Below w.heap.size w w') : MIs w' s A n B k m := ⟨h.name, h.vlen, h.vals.keep hb, h.tlen, h.tags.keep hb⟩
theorem MIs.alloc (h : MIs w s A n B k m) (o : Obj) : MIs (w.alloc o) s A n B k m := h.keep ((Below.refl _ _).alloc (Nat.le_refl _) o)
theorem MIs.drew (h : MIs w s A n B k m) : MIs w.drew s A n B k m := h.keep (Same.below (Same.drewN w 1))
end

/-- These blocks, and these metrics, lie so, and nothing old has changed. -/
structure Kb (w0 : World) (L : List (Nat × TypeId × List Value)) (M : List (ByteArray × Option Addr × Nat × Option Addr × Nat × Mt)) (w : World) : Prop where
  kept : Below w0.heap.size w0 w
  box : ∀ x ∈ L, Box w x.1 x.2.1 x.2.2
  met : ∀ x ∈ M, MIs w x.1 x.2.1 x.2.2.1 x.2.2.2.1 x.2.2.2.2.1 x.2.2.2.2.2
section
variable {w0 w w' : World} {L : List (Nat × TypeId × List Value)} {M : List (ByteArray × Option Addr × Nat × Option Addr × Nat × Mt)}
theorem Kb.start (w : World) : Kb w [] [] w := ⟨Below.refl _ _, by simp, by simp⟩
theorem Kb.next (h : Kb w0 L M w) (k : Below w.heap.size w w') : Kb w0 L M w' := ⟨below_then h.kept k, fun x hx => (h.box x hx).keep k, fun x hx => (h.met x hx).keep k⟩
theorem Kb.drew (h : Kb w0 L M w) : Kb w0 L M w.drew := h.next (Same.below (Same.drewN w 1))
theorem Kb.alloc (h : Kb w0 L M w) (o : Obj) : Kb w0 L M (w.alloc o) := h.next ((Below.refl _ _).alloc (Nat.le_refl _) o)
theorem Kb.add (h : Kb w0 L M w) {g : Nat} {t : TypeId} {cs : List Value} (hb : Box w g t cs) : Kb w0 ((g, t, cs) :: L) M w := ⟨h.kept, fun x hx => by
  rcases List.mem_cons.1 hx with rfl | hx
  · exact hb
  · exact h.box x hx, h.met⟩
theorem Kb.push (h : Kb w0 L M w) (t : TypeId) (cs : List Value) : Kb w0 ((w.heap.size, t, cs) :: L) M (w.alloc (.cells cs.toArray t)) := (h.alloc _).add (Box.new w t cs)
theorem Kb.pushAt (h : Kb w0 L M w) {g : Nat} (hg : w.heap.size = g) (t : TypeId) (cs : List Value) : Kb w0 ((g, t, cs) :: L) M (w.alloc (.cells cs.toArray t)) := by subst hg; exact h.push t cs
theorem Kb.mAdd (h : Kb w0 L M w) {s : ByteArray} {A B : Option Addr} {n k : Nat} {m : Mt} (hm : MIs w s A n B k m) : Kb w0 L ((s, A, n, B, k, m) :: M) w := ⟨h.kept, h.box, fun x hx => by
  rcases List.mem_cons.1 hx with rfl | hx
  · exact hm
  · exact h.met x hx⟩
theorem Kb.cell (h : Kb w0 L M w) {g i : Nat} {t : TypeId} {cs : List Value} {v : Value} (hm : (g, t, cs) ∈ L) (hv : cs[i]? = some v) : w.cell? ⟨g, i, none⟩ = some v := ((h.box _ hm).cell i).trans hv
theorem Kb.m (h : Kb w0 L M w) {s : ByteArray} {A B : Option Addr} {n k : Nat} {m : Mt} (hm : (s, A, n, B, k, m) ∈ M) : MIs w s A n B k m := h.met _ hm
end

def codeIf (b : Bool) (c : Int) : Int := if b = true then 0 else c
def mC (s : ByteArray) (kd : Int) (A : Option Addr) (n ca : Nat) (rt : Int) (B : Option Addr) (k cb : Nat) (tm : Int) : List Value :=
  [.string s, .int .i64 kd, .slice A n ca, .int .i64 rt, .slice B k cb, .int .i64 tm]

section
variable {s : ByteArray} {A B : Option Addr} {n k ca cb : Nat} {m : Mt} {kd rt tm : Int}

structure NameS (w0 : World) (s : ByteArray) (g : Nat) (w : World) : Prop where
  kept : Below w0.heap.size w0 w
  str : w.cell? ⟨w0.heap.size, 0, none⟩ = some (.string s)
  none_ : Box w (w0.heap.size + 1) 29 [.int .i64 0, .int .i64 0]
theorem NameS.next {w0 w w' : World} {g : Nat} (h : NameS w0 s g w) (k : Below w.heap.size w w') : NameS w0 s g w' := ⟨below_then h.kept k, (k.cell (cell_lt h.str)).trans h.str, h.none_.keep k⟩
theorem NameS.cells {w0 w : World} {g : Nat} (h : NameS w0 s g w) : w.cell? ⟨w0.heap.size, 0, none⟩ = some (.string s) ∧ w.cell? ⟨w0.heap.size + 1, 0, none⟩ = some (.int .i64 0) ∧ w.cell? ⟨w0.heap.size + 1, 1, none⟩ = some (.int .i64 0) ∧ NameS w0 s g w := ⟨h.str, h.none_.cell 0, h.none_.cell 1, h⟩
theorem NameS.of {w0 w : World} {g : Nat} {P1 P2 P3 : Prop} (h : P1 ∧ P2 ∧ P3 ∧ NameS w0 s g w) : NameS w0 s g w := h.2.2.2
theorem NameS.start (w : World) (t : TypeId) (cs : List Value) : NameS w s 0 ((w.alloc (.cells (Value.string s :: cs).toArray t)).alloc (.cells #[.int .i64 0, .int .i64 0] 29)) :=
  ⟨((Below.refl _ _).alloc (Nat.le_refl _) _).alloc (by rw [size_alloc]; omega) _, ((Box.new w t (Value.string s :: cs)).alloc _).cell 0, by have := Box.new (w.alloc (.cells (Value.string s :: cs).toArray t)) 29 [.int .i64 0, .int .i64 0]; rwa [size_alloc] at this⟩

set_option maxRecDepth 100000 in
set_option maxHeartbeats 2000000 in
theorem name_calls {l : List UInt8} (hs : Str s l) (hz : l.length ≤ 1000) (w : World) :
    Calls Tryd.prog 35 #[mV s kd A n ca rt B k cb tm] w fun e w' => e = .returned (.int .i64 (codeIf (nameR l) 15)) ∧ Below w.heap.size w w' := by
  obtain ⟨x, y, hxy⟩ : ∃ x y, faultOf 1 l 1 200 = (x, y) := ⟨_, _, rfl⟩
  have n1 := hs.size
  obtain ⟨p, hp⟩ : ∃ p, decide ((x, y) = ((0, 0) : Int × Int)) = p := ⟨_, rfl⟩
  have hc : nameR l = p := by unfold nameR; rw [hxy, hp]
  have HK := Lib.hid (fun w' (h : NameS w s 0 w') => (ctext_says (c := 1) (lo := 1) (hi := 200) hs (by omega) hxy w').mono fun e w'' (k : _ ∧ _) => And.intro k.1 (h.next k.2))
  have k1 := fne_run hp
  have hg := fguard
  rw [hc]
  unfold mV
  have HS := Lib.hid ((NameS.start (s := s) w 77 [.int .i64 kd, .slice A n ca, .int .i64 rt, .slice B k cb, .int .i64 tm]).next (Same.below (Same.drewN _ 1)))
  clear hxy hs hp hc n1
  go_enter Tryd.func35, Tryd.ntmps35
  go_wp2_with fail
  go_region_held3 (fun w' => w'.cell? ⟨w.heap.size, 0, none⟩ = some (.string s) ∧ w'.cell? ⟨w.heap.size + 1, 0, none⟩ = some (.int .i64 0) ∧ w'.cell? ⟨w.heap.size + 1, 1, none⟩ = some (.int .i64 0) ∧ NameS w s 0 w')
    (first | exact NameS.cells HS.out | exact NameS.cells HB6.out)
    (first | (go_at_call 20; refine (HK.out _ (NameS.of (by assumption))).mono ?_; rintro e w6 ⟨rfl, hb6⟩; have HB6 := Lib.hid hb6; clear hb6))
  all_goals
    cases p
    all_goals
      go_wp2_with fail
      go_ret
      exact ⟨rfl, HB6.out.kept⟩

theorem m_below (w : World) (o : Obj) : Below w.heap.size w (w.alloc o) := (Below.refl _ _).alloc (Nat.le_refl _) _

set_option maxRecDepth 100000 in
theorem kind_calls (w : World) : Calls Tryd.prog 36 #[mV s kd A n ca rt B k cb tm] w fun e w' => e = .returned (.int .i64 (codeIf (kindR kd) 16)) ∧ Below w.heap.size w w' := by
  unfold mV
  have HB := Lib.hid (m_below w (.cells #[.string s, .int .i64 kd, .slice A n ca, .int .i64 rt, .slice B k cb, .int .i64 tm] 77))
  obtain ⟨q, hq⟩ : ∃ q, codeIf (kindR kd) 16 = q := ⟨_, rfl⟩
  rw [hq]
  have HQ := Lib.hid hq
  clear hq
  go_enter Tryd.func36, Tryd.ntmps36
  rcases (by omega : kd < 1 ∨ (¬ kd < 1 ∧ 5 < kd) ∨ (¬ kd < 1 ∧ ¬ 5 < kd)) with h | ⟨h, h2⟩ | ⟨h, h2⟩
  · have HE := Lib.hid (show q = 16 by rw [← HQ.out]; unfold kindR; rw [decide_eq_false (by omega)]; rfl)
    go_wp2_with fail
    go_ret
    exact ⟨by rw [HE.out]; rfl, HB.out⟩
  · have HE := Lib.hid (show q = 16 by rw [← HQ.out]; unfold kindR; rw [decide_eq_false (by omega)]; rfl)
    go_wp2_with fail
    go_ret
    exact ⟨by rw [HE.out]; rfl, HB.out⟩
  · have HE := Lib.hid (show q = 0 by rw [← HQ.out]; unfold kindR; rw [decide_eq_true (by omega)]; rfl)
    go_wp2_with fail
    go_ret
    exact ⟨by rw [HE.out]; rfl, HB.out⟩

set_option maxRecDepth 100000 in
theorem time_calls (w : World) : Calls Tryd.prog 40 #[mV s kd A n ca rt B k cb tm] w fun e w' => e = .returned (.int .i64 (codeIf (timeR tm) 20)) ∧ Below w.heap.size w w' := by
  unfold mV
  have HB := Lib.hid (m_below w (.cells #[.string s, .int .i64 kd, .slice A n ca, .int .i64 rt, .slice B k cb, .int .i64 tm] 77))
  obtain ⟨q, hq⟩ : ∃ q, codeIf (timeR tm) 20 = q := ⟨_, rfl⟩
  rw [hq]
  have HQ := Lib.hid hq
  clear hq
  go_enter Tryd.func40, Tryd.ntmps40
  rcases (by omega : tm < 0 ∨ (¬ tm < 0 ∧ 1099511627776 < tm) ∨ (¬ tm < 0 ∧ ¬ 1099511627776 < tm)) with h | ⟨h, h2⟩ | ⟨h, h2⟩
  · have HE := Lib.hid (show q = 20 by rw [← HQ.out]; unfold timeR; rw [decide_eq_false (by omega)]; rfl)
    go_wp2_with fail
    go_ret
    exact ⟨by rw [HE.out]; rfl, HB.out⟩
  · have HE := Lib.hid (show q = 20 by rw [← HQ.out]; unfold timeR; rw [decide_eq_false (by omega)]; rfl)
    go_wp2_with fail
    go_ret
    exact ⟨by rw [HE.out]; rfl, HB.out⟩
  · have HE := Lib.hid (show q = 0 by rw [← HQ.out]; unfold timeR; rw [decide_eq_true (by omega)]; rfl)
    go_wp2_with fail
    go_ret
    exact ⟨by rw [HE.out]; rfl, HB.out⟩

set_option maxRecDepth 100000 in
theorem rate_calls (w : World) : Calls Tryd.prog 38 #[mV s kd A n ca rt B k cb tm] w fun e w' => e = .returned (.int .i64 (codeIf (rateR kd rt) 18)) ∧ Below w.heap.size w w' := by
  unfold mV
  have HB := Lib.hid (m_below w (.cells #[.string s, .int .i64 kd, .slice A n ca, .int .i64 rt, .slice B k cb, .int .i64 tm] 77))
  obtain ⟨q, hq⟩ : ∃ q, codeIf (rateR kd rt) 18 = q := ⟨_, rfl⟩
  rw [hq]
  have HQ := Lib.hid hq
  clear hq
  go_enter Tryd.func38, Tryd.ntmps38
  rcases (by omega : rt < 1 ∨ (¬ rt < 1 ∧ 1000000 < rt) ∨ (¬ rt < 1 ∧ ¬ 1000000 < rt ∧ kd = 2 ∧ rt ≠ 1000000) ∨ (kd = 2 ∧ rt = 1000000) ∨ (¬ rt < 1 ∧ ¬ 1000000 < rt ∧ kd ≠ 2)) with h | ⟨h, h2⟩ | ⟨h, h2, h3, h4⟩ | ⟨h, h2⟩ | ⟨h, h2, h3⟩
  · have HE := Lib.hid (show q = 18 by rw [← HQ.out]; unfold rateR; rw [decide_eq_false (by omega)]; rfl)
    go_wp2_with fail
    go_ret
    exact ⟨by rw [HE.out]; rfl, HB.out⟩
  · have HE := Lib.hid (show q = 18 by rw [← HQ.out]; unfold rateR; rw [decide_eq_false (by omega)]; rfl)
    go_wp2_with fail
    go_ret
    exact ⟨by rw [HE.out]; rfl, HB.out⟩
  · subst h3
    have HE := Lib.hid (show q = 18 by rw [← HQ.out]; unfold rateR; rw [decide_eq_false (by omega)]; rfl)
    go_wp2_with fail
    go_ret
    exact ⟨by rw [HE.out]; rfl, HB.out⟩
  · subst h h2
    have HE := Lib.hid (show q = 0 by rw [← HQ.out]; unfold rateR; rw [decide_eq_true (by omega)]; rfl)
    go_wp2_with fail
    go_ret
    exact ⟨by rw [HE.out]; rfl, HB.out⟩
  · have HE := Lib.hid (show q = 0 by rw [← HQ.out]; unfold rateR; rw [decide_eq_true (by omega)]; rfl)
    go_wp2_with fail
    go_ret
    exact ⟨by rw [HE.out]; rfl, HB.out⟩

set_option maxRecDepth 100000 in
theorem values_calls {ds : List D} {w : World} (hn : ds.length = n) (hA : Decs w A ds) (hz : n ≤ 1000) (hf : ∀ d ∈ ds, d.Fits) : Calls Tryd.prog 37 #[mV s kd A n ca rt B k cb tm] w fun e w' => e = .returned (.int .i64 (codeIf (valsR (okV ds) ds.length) 17)) ∧ Below w.heap.size w w' := by
  have hb := m_below w (.cells #[.string s, .int .i64 kd, .slice A n ca, .int .i64 rt, .slice B k cb, .int .i64 tm] 77)
  have hC := allD_calls (cap := ca) hn (hA.keep hb) hz hf 1 64
  obtain ⟨q, hq⟩ : ∃ q, (okV ds && decide ((1 : Int) ≤ n ∧ (n : Int) ≤ 64)) = q := ⟨_, rfl⟩
  have hv : valsR (okV ds) ds.length = q := by
    rw [← hq, hn]; unfold valsR; congr 1; exact decide_eq_decide.2 (by omega)
  rw [hv]
  rw [hq] at hC
  have HC := Lib.hid hC
  have HB := Lib.hid hb
  clear hn hA hf hb hC hq hv
  unfold mV
  go_enter Tryd.func37, Tryd.ntmps37
  go_wp2_with fail
  refine HC.out.mono ?_
  rintro e w2 ⟨rfl, hb⟩
  have HB2 := Lib.hid (below_then HB.out hb)
  clear hb HB HC
  cases q
  all_goals
    go_wp2_with fail
    go_ret
    exact ⟨rfl, HB2.out⟩

set_option maxRecDepth 100000 in
theorem tags_calls {ts : List Tg} {w : World} (hn : ts.length = k) (hA : Tags w B ts) (hz : k ≤ 1000) (hf : ∀ t ∈ ts, t.1.length ≤ 1000 ∧ t.2.length ≤ 1000) : Calls Tryd.prog 39 #[mV s kd A n ca rt B k cb tm] w fun e w' => e = .returned (.int .i64 (codeIf (tagsR ts) 19)) ∧ Below w.heap.size w w' := by
  have hb := m_below w (.cells #[.string s, .int .i64 kd, .slice A n ca, .int .i64 rt, .slice B k cb, .int .i64 tm] 77)
  have hC := allT_calls (cap := cb) hn (hA.keep hb) hz hf 0 32
  obtain ⟨q, hq⟩ : ∃ q, (ts.all rightT && decide ((0 : Int) ≤ k ∧ (k : Int) ≤ 32)) = q := ⟨_, rfl⟩
  have hv : tagsR ts = q := by
    rw [← hq]; unfold tagsR; rw [hn, Bool.and_comm]; congr 1; exact decide_eq_decide.2 (by omega)
  rw [hv]
  rw [hq] at hC
  have HC := Lib.hid hC
  have HB := Lib.hid hb
  clear hn hA hf hb hC hq hv
  unfold mV
  go_enter Tryd.func39, Tryd.ntmps39
  go_wp2_with fail
  refine HC.out.mono ?_
  rintro e w2 ⟨rfl, hb⟩
  have HB2 := Lib.hid (below_then HB.out hb)
  clear hb HB HC
  cases q
  all_goals
    go_wp2_with fail
    go_ret
    exact ⟨rfl, HB2.out⟩
end
end Go.Proofs.YtmaiggoinjldpaaDoor

/-
  Package metric: Check. No statement of the seat is proved here.
-/
namespace Go.Proofs.YtmaiggoinjldpaaDoor
open Go.RowKit
open Dc (D D0)

theorem check_first {m : Mt} {c0 c1 c2 c3 c4 c5 : Int} (h0 : codeIf (nameR m.name) 15 = c0) (h1 : codeIf (kindR m.kind) 16 = c1) (h2 : codeIf (valsR (okV m.vals) m.vals.length) 17 = c2) (h3 : codeIf (rateR m.kind m.rate) 18 = c3) (h4 : codeIf (tagsR m.tags) 19 = c4) (h5 : codeIf (timeR m.time) 20 = c5) :
    checkM m = if c0 ≠ 0 then c0 else if c1 ≠ 0 then c1 else if c2 ≠ 0 then c2 else if c3 ≠ 0 then c3 else if c4 ≠ 0 then c4 else if c5 ≠ 0 then c5 else 0 := by
  subst h0 h1 h2 h3 h4 h5
  unfold checkM restM codeIf
  cases nameR m.name <;> cases kindR m.kind <;> cases valsR (okV m.vals) m.vals.length <;> cases rateR m.kind m.rate <;> cases tagsR m.tags <;> cases timeR m.time <;> simp

/-- The row of what has to be right. -/
def rowV (v : Value) : List Value := [.func (.func 35) #[v] #[], .func (.func 36) #[v] #[], .func (.func 37) #[v] #[], .func (.func 38) #[v] #[], .func (.func 39) #[v] #[], .func (.func 40) #[v] #[]]

set_option maxRecDepth 100000 in
set_option maxHeartbeats 8000000 in
theorem mcheck_calls {w : World} {s : ByteArray} {A B : Option Addr} {n k ca cb : Nat} {m : Mt} (h : MIs w s A n B k m) (hz : Small m) :
    Calls Tryd.prog 18 #[mV s m.kind A n ca m.rate B k cb m.time] w fun e w' => e = .returned (.int .i64 (checkM m)) ∧ Below w.heap.size w w' := by
  obtain ⟨c0, h0⟩ : ∃ c, codeIf (nameR m.name) 15 = c := ⟨_, rfl⟩
  obtain ⟨c1, h1⟩ : ∃ c, codeIf (kindR m.kind) 16 = c := ⟨_, rfl⟩
  obtain ⟨c2, h2⟩ : ∃ c, codeIf (valsR (okV m.vals) m.vals.length) 17 = c := ⟨_, rfl⟩
  obtain ⟨c3, h3⟩ : ∃ c, codeIf (rateR m.kind m.rate) 18 = c := ⟨_, rfl⟩
  obtain ⟨c4, h4⟩ : ∃ c, codeIf (tagsR m.tags) 19 = c := ⟨_, rfl⟩
  obtain ⟨c5, h5⟩ : ∃ c, codeIf (timeR m.time) 20 = c := ⟨_, rfl⟩
  have hq := check_first h0 h1 h2 h3 h4 h5
  obtain ⟨q, hq0⟩ : ∃ q, checkM m = q := ⟨_, rfl⟩
  rw [hq0] at hq ⊢
  have HQ := Lib.hid hq
  have hN := fun W => name_calls (kd := m.kind) (A := A) (n := n) (ca := ca) (rt := m.rate) (B := B) (k := k) (cb := cb) (tm := m.time) h.name hz.name W
  have hK := fun W => kind_calls (s := s) (kd := m.kind) (A := A) (n := n) (ca := ca) (rt := m.rate) (B := B) (k := k) (cb := cb) (tm := m.time) W
  have hV := fun W (b : Below w.heap.size w W) => values_calls (s := s) (kd := m.kind) (ca := ca) (rt := m.rate) (B := B) (k := k) (cb := cb) (tm := m.time) h.vlen (h.vals.keep b) (by have := h.vlen; have := hz.vals; omega) hz.fits
  have hR := fun W => rate_calls (s := s) (kd := m.kind) (A := A) (n := n) (ca := ca) (rt := m.rate) (B := B) (k := k) (cb := cb) (tm := m.time) W
  have hT := fun W (b : Below w.heap.size w W) => tags_calls (s := s) (kd := m.kind) (A := A) (n := n) (ca := ca) (rt := m.rate) (cb := cb) (tm := m.time) h.tlen (h.tags.keep b) (by have := h.tlen; have := hz.tags; omega) hz.lens
  have hM := fun W => time_calls (s := s) (kd := m.kind) (A := A) (n := n) (ca := ca) (rt := m.rate) (B := B) (k := k) (cb := cb) (tm := m.time) W
  rw [h0] at hN
  rw [h1] at hK
  rw [h2] at hV
  rw [h3] at hR
  rw [h4] at hT
  rw [h5] at hM
  clear h0 h1 h2 h3 h4 h5 hq hq0 h hz
  generalize m.kind = kd at *
  generalize m.rate = rt at *
  generalize m.time = tm at *
  have HB0 := Lib.hid (((Kb.start w).push 26 (mC s kd A n ca rt B k cb tm)).push 77 (mC s kd A n ca rt B k cb tm) |>.push 78 (rowV (mV s kd A n ca rt B k cb tm)))
  rw [size_alloc, size_alloc] at HB0
  unfold mC rowV at HB0
  unfold mV at HB0 hN hK hV hR hT hM ⊢
  have HN := Lib.hid hN
  have HK := Lib.hid hK
  have HV := Lib.hid hV
  have HR := Lib.hid hR
  have HT := Lib.hid hT
  have HM := Lib.hid hM
  clear hN hK hV hR hT hM
  go_enter Tryd.func18, Tryd.ntmps18
  go_wp2_with fail
  go_loopw [22] (fun v wr => ∃ i : Nat, v = .int .i64 i ∧ i ≤ 6 ∧ Hid (Below w.heap.size w wr ∧ Box wr (w.heap.size + 1 + 1) 78 (rowV (.agg #[.string s, .int .i64 kd, .slice A n ca, .int .i64 rt, .slice B k cb, .int .i64 tm])) ∧ (0 < i → c0 = 0) ∧ (1 < i → c1 = 0) ∧ (2 < i → c2 = 0) ∧ (3 < i → c3 = 0) ∧ (4 < i → c4 = 0) ∧ (5 < i → c5 = 0))) (fun v _ => 6 - (intOf v).toNat)
  case atStart => exact ⟨0, rfl, by omega, ⟨HB0.out.kept, HB0.out.box _ (by simp; left; rfl), by omega, by omega, by omega, by omega, by omega, by omega⟩⟩
  case round =>
    obtain ⟨i, rfl, hi, hrel⟩ := hrel
    clear HB0
    obtain ⟨k0, k1, k2, k3, k4, k5⟩ := hrel.out.2.2
    rcases (by omega : i = 0 ∨ i = 1 ∨ i = 2 ∨ i = 3 ∨ i = 4 ∨ i = 5 ∨ i = 6) with rfl | rfl | rfl | rfl | rfl | rfl | rfl
    · have cc : wr.cell? ⟨w.heap.size + 1 + 1, 0, none⟩ = some (.func (.func 35) #[.agg #[.string s, .int .i64 kd, .slice A n ca, .int .i64 rt, .slice B k cb, .int .i64 tm]] #[]) := hrel.out.2.1.cell 0
      have HKK := Lib.hid (And.intro k0 (And.intro k1 (And.intro k2 (And.intro k3 (And.intro k4 k5)))))
      clear k0 k1 k2 k3 k4 k5
      go_wp2_with fail
      refine (HN.out _).mono ?_
      rintro e w2 ⟨rfl, hb⟩
      have HB2 := Lib.hid (And.intro (below_then hrel.out.1 hb) (hrel.out.2.1.keep hb))
      clear hb cc
      by_cases hc : c0 = 0
      · have HC := Lib.hid hc
        go_wp2_with fail
        refine ⟨⟨1, by first | rfl | go_num, by omega, ⟨HB2.out.1, HB2.out.2, fun _ => HC.out, by omega, by omega, by omega, by omega, by omega⟩⟩, by simp [intOf]⟩
      · have HE := Lib.hid (show q = c0 by
          have h := HQ.out
          obtain ⟨k0, k1, k2, k3, k4, k5⟩ := HKK.out
          rw [ if_pos hc] at h
          exact h)
        go_wp2_with fail
        go_ret
        exact ⟨by rw [HE.out]; rfl, HB2.out.1⟩
    · have cc : wr.cell? ⟨w.heap.size + 1 + 1, 1, none⟩ = some (.func (.func 36) #[.agg #[.string s, .int .i64 kd, .slice A n ca, .int .i64 rt, .slice B k cb, .int .i64 tm]] #[]) := hrel.out.2.1.cell 1
      have HKK := Lib.hid (And.intro k0 (And.intro k1 (And.intro k2 (And.intro k3 (And.intro k4 k5)))))
      clear k0 k1 k2 k3 k4 k5
      go_wp2_with fail
      refine (HK.out _).mono ?_
      rintro e w2 ⟨rfl, hb⟩
      have HB2 := Lib.hid (And.intro (below_then hrel.out.1 hb) (hrel.out.2.1.keep hb))
      clear hb cc
      by_cases hc : c1 = 0
      · have HC := Lib.hid hc
        go_wp2_with fail
        refine ⟨⟨2, by first | rfl | go_num, by omega, ⟨HB2.out.1, HB2.out.2, fun _ => HKK.out.1 (by omega), fun _ => HC.out, by omega, by omega, by omega, by omega⟩⟩, by simp [intOf]⟩
      · have HE := Lib.hid (show q = c1 by
          have h := HQ.out
          obtain ⟨k0, k1, k2, k3, k4, k5⟩ := HKK.out
          rw [if_neg (not_not_intro (k0 (by omega))), if_pos hc] at h
          exact h)
        go_wp2_with fail
        go_ret
        exact ⟨by rw [HE.out]; rfl, HB2.out.1⟩
    · have cc : wr.cell? ⟨w.heap.size + 1 + 1, 2, none⟩ = some (.func (.func 37) #[.agg #[.string s, .int .i64 kd, .slice A n ca, .int .i64 rt, .slice B k cb, .int .i64 tm]] #[]) := hrel.out.2.1.cell 2
      have HKK := Lib.hid (And.intro k0 (And.intro k1 (And.intro k2 (And.intro k3 (And.intro k4 k5)))))
      clear k0 k1 k2 k3 k4 k5
      go_wp2_with fail
      refine (HV.out _ hrel.out.1).mono ?_
      rintro e w2 ⟨rfl, hb⟩
      have HB2 := Lib.hid (And.intro (below_then hrel.out.1 hb) (hrel.out.2.1.keep hb))
      clear hb cc
      by_cases hc : c2 = 0
      · have HC := Lib.hid hc
        go_wp2_with fail
        refine ⟨⟨3, by first | rfl | go_num, by omega, ⟨HB2.out.1, HB2.out.2, fun _ => HKK.out.1 (by omega), fun _ => HKK.out.2.1 (by omega), fun _ => HC.out, by omega, by omega, by omega⟩⟩, by simp [intOf]⟩
      · have HE := Lib.hid (show q = c2 by
          have h := HQ.out
          obtain ⟨k0, k1, k2, k3, k4, k5⟩ := HKK.out
          rw [if_neg (not_not_intro (k0 (by omega))), if_neg (not_not_intro (k1 (by omega))), if_pos hc] at h
          exact h)
        go_wp2_with fail
        go_ret
        exact ⟨by rw [HE.out]; rfl, HB2.out.1⟩
    · have cc : wr.cell? ⟨w.heap.size + 1 + 1, 3, none⟩ = some (.func (.func 38) #[.agg #[.string s, .int .i64 kd, .slice A n ca, .int .i64 rt, .slice B k cb, .int .i64 tm]] #[]) := hrel.out.2.1.cell 3
      have HKK := Lib.hid (And.intro k0 (And.intro k1 (And.intro k2 (And.intro k3 (And.intro k4 k5)))))
      clear k0 k1 k2 k3 k4 k5
      go_wp2_with fail
      refine (HR.out _).mono ?_
      rintro e w2 ⟨rfl, hb⟩
      have HB2 := Lib.hid (And.intro (below_then hrel.out.1 hb) (hrel.out.2.1.keep hb))
      clear hb cc
      by_cases hc : c3 = 0
      · have HC := Lib.hid hc
        go_wp2_with fail
        refine ⟨⟨4, by first | rfl | go_num, by omega, ⟨HB2.out.1, HB2.out.2, fun _ => HKK.out.1 (by omega), fun _ => HKK.out.2.1 (by omega), fun _ => HKK.out.2.2.1 (by omega), fun _ => HC.out, by omega, by omega⟩⟩, by simp [intOf]⟩
      · have HE := Lib.hid (show q = c3 by
          have h := HQ.out
          obtain ⟨k0, k1, k2, k3, k4, k5⟩ := HKK.out
          rw [if_neg (not_not_intro (k0 (by omega))), if_neg (not_not_intro (k1 (by omega))), if_neg (not_not_intro (k2 (by omega))), if_pos hc] at h
          exact h)
        go_wp2_with fail
        go_ret
        exact ⟨by rw [HE.out]; rfl, HB2.out.1⟩
    · have cc : wr.cell? ⟨w.heap.size + 1 + 1, 4, none⟩ = some (.func (.func 39) #[.agg #[.string s, .int .i64 kd, .slice A n ca, .int .i64 rt, .slice B k cb, .int .i64 tm]] #[]) := hrel.out.2.1.cell 4
      have HKK := Lib.hid (And.intro k0 (And.intro k1 (And.intro k2 (And.intro k3 (And.intro k4 k5)))))
      clear k0 k1 k2 k3 k4 k5
      go_wp2_with fail
      refine (HT.out _ hrel.out.1).mono ?_
      rintro e w2 ⟨rfl, hb⟩
      have HB2 := Lib.hid (And.intro (below_then hrel.out.1 hb) (hrel.out.2.1.keep hb))
      clear hb cc
      by_cases hc : c4 = 0
      · have HC := Lib.hid hc
        go_wp2_with fail
        refine ⟨⟨5, by first | rfl | go_num, by omega, ⟨HB2.out.1, HB2.out.2, fun _ => HKK.out.1 (by omega), fun _ => HKK.out.2.1 (by omega), fun _ => HKK.out.2.2.1 (by omega), fun _ => HKK.out.2.2.2.1 (by omega), fun _ => HC.out, by omega⟩⟩, by simp [intOf]⟩
      · have HE := Lib.hid (show q = c4 by
          have h := HQ.out
          obtain ⟨k0, k1, k2, k3, k4, k5⟩ := HKK.out
          rw [if_neg (not_not_intro (k0 (by omega))), if_neg (not_not_intro (k1 (by omega))), if_neg (not_not_intro (k2 (by omega))), if_neg (not_not_intro (k3 (by omega))), if_pos hc] at h
          exact h)
        go_wp2_with fail
        go_ret
        exact ⟨by rw [HE.out]; rfl, HB2.out.1⟩
    · have cc : wr.cell? ⟨w.heap.size + 1 + 1, 5, none⟩ = some (.func (.func 40) #[.agg #[.string s, .int .i64 kd, .slice A n ca, .int .i64 rt, .slice B k cb, .int .i64 tm]] #[]) := hrel.out.2.1.cell 5
      have HKK := Lib.hid (And.intro k0 (And.intro k1 (And.intro k2 (And.intro k3 (And.intro k4 k5)))))
      clear k0 k1 k2 k3 k4 k5
      go_wp2_with fail
      refine (HM.out _).mono ?_
      rintro e w2 ⟨rfl, hb⟩
      have HB2 := Lib.hid (And.intro (below_then hrel.out.1 hb) (hrel.out.2.1.keep hb))
      clear hb cc
      by_cases hc : c5 = 0
      · have HC := Lib.hid hc
        go_wp2_with fail
        refine ⟨⟨6, by first | rfl | go_num, by omega, ⟨HB2.out.1, HB2.out.2, fun _ => HKK.out.1 (by omega), fun _ => HKK.out.2.1 (by omega), fun _ => HKK.out.2.2.1 (by omega), fun _ => HKK.out.2.2.2.1 (by omega), fun _ => HKK.out.2.2.2.2.1 (by omega), fun _ => HC.out⟩⟩, by simp [intOf]⟩
      · have HE := Lib.hid (show q = c5 by
          have h := HQ.out
          obtain ⟨k0, k1, k2, k3, k4, k5⟩ := HKK.out
          rw [if_neg (not_not_intro (k0 (by omega))), if_neg (not_not_intro (k1 (by omega))), if_neg (not_not_intro (k2 (by omega))), if_neg (not_not_intro (k3 (by omega))), if_neg (not_not_intro (k4 (by omega))), if_pos hc] at h
          exact h)
        go_wp2_with fail
        go_ret
        exact ⟨by rw [HE.out]; rfl, HB2.out.1⟩
    · have HE := Lib.hid (show q = 0 by
        have h := HQ.out
        rw [if_neg (not_not_intro (k0 (by omega))), if_neg (not_not_intro (k1 (by omega))), if_neg (not_not_intro (k2 (by omega))), if_neg (not_not_intro (k3 (by omega))), if_neg (not_not_intro (k4 (by omega))), if_neg (not_not_intro (k5 (by omega)))] at h
        exact h)
      clear k0 k1 k2 k3 k4 k5
      go_wp2_with fail
      go_ret
      exact ⟨by rw [HE.out]; first | done | rfl, hrel.out.1⟩
end Go.Proofs.YtmaiggoinjldpaaDoor

/-
  Package metric: oneForms. No statement of the seat is proved here.
-/
namespace Go.Proofs.YtmaiggoinjldpaaDoor
open Go.RowKit
open Dc (D D0)

theorem own_slice_at {w : World} {base n : Nat} {v : Value} {ds : List D} (h : w.ownsRow base 42 3 v n (flatD ds)) : ∃ A cap, v = .slice A n cap ∧ n ≤ cap := by
  obtain ⟨A, cap, e, h1, _⟩ := own_slice h
  exact ⟨A, cap, e, h1⟩

end Go.Proofs.YtmaiggoinjldpaaDoor

/-
  Package metric: equalRows and Equal. No statement of the seat is proved here.
-/
namespace Go.Proofs.YtmaiggoinjldpaaDoor
open Go.RowKit
open Dc (D D0)

set_option maxRecDepth 100000 in
set_option maxHeartbeats 4000000 in
theorem eqD_calls {w : World} {A B : Option Addr} {n m ca cb : Nat} {ts us : List D} (hn : ts.length = n) (hm : us.length = m) (hA : Decs w A ts) (hB : Decs w B us) (zn : n ≤ 1000000) :
    Calls Tryd.prog 29 #[.slice A n ca, .slice B m cb] w fun e w' => e = .returned (.bool (decide (ts = us))) ∧ Below w.heap.size w w' := by
  obtain ⟨q, hq⟩ : ∃ q, decide (ts = us) = q := ⟨_, rfl⟩
  rw [hq]
  have HQ := Lib.hid hq
  clear hq
  by_cases hnm : n = m
  · subst hnm
    have HH := Lib.hid (And.intro hA (And.intro hB (And.intro hn hm)))
    have hg := dguard
    clear hA hB hn hm
    go_enter Tryd.func29, Tryd.ntmps29
    go_wp2_with fail
    go_loopw [13] (fun v wr => ∃ i : Nat, v = .int .i64 i ∧ i ≤ n ∧ Hid (Below w.heap.size w wr ∧ ∀ j (h : j < ts.length) (g : j < us.length), j < i → ts[j] = us[j])) (fun v _ => n - (intOf v).toNat)
    case atStart => exact ⟨0, rfl, by omega, ⟨Below.refl _ _, fun j _ _ hj => absurd hj (by omega)⟩⟩
    case round =>
      obtain ⟨i, rfl, hin, hrel⟩ := hrel
      by_cases hlt : i < n
      · have g1 : (i : Int) < (n : Int) := by omega
        have g2 : (0 : Int) ≤ (i : Int) := by omega
        obtain ⟨hA, hB, hn, hm⟩ := HH.out
        have l1 : i < ts.length := by omega
        have l2 : i < us.length := by omega
        obtain ⟨b, off, p, x, y, e1, c0, c1, c2, hd⟩ := (hA.keep hrel.out.1).get l1
        obtain ⟨b', off', p', x', y', e2, d0, d1, d2, hd'⟩ := (hB.keep hrel.out.1).get l2
        subst e1 e2
        by_cases he : ts[i] = us[i]
        · have k := dne_run hd hd' (decide_eq_true he)
          have HE := Lib.hid he
          clear hA hB hn hm hd hd' he
          go_wp2_with fail
          go_quiet (fail)
          go_wp2_with fail
          refine ⟨⟨i + 1, by go_num, by omega, ⟨hrel.out.1.trans (Same.drewN _ _).below, fun j h g hj => ?_⟩⟩, by simp [intOf]; omega⟩
          rcases Nat.lt_or_ge j i with h' | h'
          · exact hrel.out.2 j h g h'
          · obtain rfl : i = j := by omega
            exact HE.out
        · have k := dne_run hd hd' (decide_eq_false he)
          have HE := Lib.hid (show q = false by rw [← HQ.out]; exact decide_eq_false fun h => he (by subst h; rfl))
          clear hA hB hn hm hd hd' he
          go_wp2_with fail
          go_quiet (fail)
          go_wp2_with fail
          go_ret
          exact ⟨by rw [HE.out]; first | done | rfl, hrel.out.1.trans (Same.drewN _ _).below⟩
      · have g1 : ¬ (i : Int) < (n : Int) := by omega
        have HE := Lib.hid (show q = true by
          rw [← HQ.out]
          obtain ⟨_, _, hn, hm⟩ := HH.out
          exact decide_eq_true (List.ext_getElem (by omega) fun j h g => hrel.out.2 j h g (by omega)))
        go_wp2_with fail
        go_ret
        exact ⟨by rw [HE.out]; first | done | rfl, hrel.out.1⟩
  · have HE := Lib.hid (show q = false by rw [← HQ.out]; exact decide_eq_false fun h => hnm (by rw [← hn, ← hm, h]))
    have h1 : ((n : Int) == (m : Int)) = false := by simp; omega
    clear hA hB hn hm hnm
    go_enter Tryd.func29, Tryd.ntmps29
    go_wp2_with fail
    go_ret
    exact ⟨by rw [HE.out]; first | done | rfl, Below.refl _ _⟩

set_option maxRecDepth 100000 in
set_option maxHeartbeats 4000000 in
theorem eqT_calls {w : World} {A B : Option Addr} {n m ca cb : Nat} {ts us : List Tg} (hn : ts.length = n) (hm : us.length = m) (hA : Tags w A ts) (hB : Tags w B us) (zn : n ≤ 1000000) :
    Calls Tryd.prog 30 #[.slice A n ca, .slice B m cb] w fun e w' => e = .returned (.bool (decide (ts = us))) ∧ Below w.heap.size w w' := by
  obtain ⟨q, hq⟩ : ∃ q, decide (ts = us) = q := ⟨_, rfl⟩
  rw [hq]
  have HQ := Lib.hid hq
  clear hq
  by_cases hnm : n = m
  · subst hnm
    have HH := Lib.hid (And.intro hA (And.intro hB (And.intro hn hm)))
    have hg := tguard
    clear hA hB hn hm
    go_enter Tryd.func30, Tryd.ntmps30
    go_wp2_with fail
    go_loopw [13] (fun v wr => ∃ i : Nat, v = .int .i64 i ∧ i ≤ n ∧ Hid (Below w.heap.size w wr ∧ ∀ j (h : j < ts.length) (g : j < us.length), j < i → ts[j] = us[j])) (fun v _ => n - (intOf v).toNat)
    case atStart => exact ⟨0, rfl, by omega, ⟨Below.refl _ _, fun j _ _ hj => absurd hj (by omega)⟩⟩
    case round =>
      obtain ⟨i, rfl, hin, hrel⟩ := hrel
      by_cases hlt : i < n
      · have g1 : (i : Int) < (n : Int) := by omega
        have g2 : (0 : Int) ≤ (i : Int) := by omega
        obtain ⟨hA, hB, hn, hm⟩ := HH.out
        have l1 : i < ts.length := by omega
        have l2 : i < us.length := by omega
        obtain ⟨b, off, s, t, e1, c0, c1, hs, ht⟩ := (hA.keep hrel.out.1).get l1
        obtain ⟨b', off', s', t', e2, d0, d1, hs', ht'⟩ := (hB.keep hrel.out.1).get l2
        subst e1 e2
        by_cases he : ts[i] = us[i]
        · have k := tne_run hs ht hs' ht' (decide_eq_true he)
          have HE := Lib.hid he
          clear hA hB hn hm hs ht hs' ht' he
          go_wp2_with fail
          go_quiet (fail)
          go_wp2_with fail
          refine ⟨⟨i + 1, by go_num, by omega, ⟨hrel.out.1.trans (Same.drewN _ _).below, fun j h g hj => ?_⟩⟩, by simp [intOf]; omega⟩
          rcases Nat.lt_or_ge j i with h' | h'
          · exact hrel.out.2 j h g h'
          · obtain rfl : i = j := by omega
            exact HE.out
        · have k := tne_run hs ht hs' ht' (decide_eq_false he)
          have HE := Lib.hid (show q = false by rw [← HQ.out]; exact decide_eq_false fun h => he (by subst h; rfl))
          clear hA hB hn hm hs ht hs' ht' he
          go_wp2_with fail
          go_quiet (fail)
          go_wp2_with fail
          go_ret
          exact ⟨by rw [HE.out]; first | done | rfl, hrel.out.1.trans (Same.drewN _ _).below⟩
      · have g1 : ¬ (i : Int) < (n : Int) := by omega
        have HE := Lib.hid (show q = true by
          rw [← HQ.out]
          obtain ⟨_, _, hn, hm⟩ := HH.out
          exact decide_eq_true (List.ext_getElem (by omega) fun j h g => hrel.out.2 j h g (by omega)))
        go_wp2_with fail
        go_ret
        exact ⟨by rw [HE.out]; first | done | rfl, hrel.out.1⟩
  · have HE := Lib.hid (show q = false by rw [← HQ.out]; exact decide_eq_false fun h => hnm (by rw [← hn, ← hm, h]))
    have h1 : ((n : Int) == (m : Int)) = false := by simp; omega
    clear hA hB hn hm hnm
    go_enter Tryd.func30, Tryd.ntmps30
    go_wp2_with fail
    go_ret
    exact ⟨by rw [HE.out]; first | done | rfl, Below.refl _ _⟩

section
variable {w : World} {s s' : ByteArray} {A B A' B' : Option Addr} {n k n' k' ca cb ca' cb' : Nat} {a b : Mt}
theorem mt_ext {a b : Mt} : a = b ↔ a.name = b.name ∧ a.kind = b.kind ∧ a.rate = b.rate ∧ a.time = b.time ∧ a.vals = b.vals ∧ a.tags = b.tags := by
  obtain ⟨a1, a2, a3, a4, a5, a6⟩ := a
  obtain ⟨b1, b2, b3, b4, b5, b6⟩ := b
  simp only [Mt.mk.injEq]
  exact ⟨fun ⟨h1, h2, h3, h4, h5, h6⟩ => ⟨h1, h2, h4, h6, h3, h5⟩, fun ⟨h1, h2, h3, h4, h5, h6⟩ => ⟨h1, h2, h5, h3, h6, h4⟩⟩

set_option maxRecDepth 100000 in
set_option maxHeartbeats 4000000 in
theorem equal_calls (ha : MIs w s A n B k a) (hb : MIs w s' A' n' B' k' b) (za : Small a) :
    Calls Tryd.prog 14 #[mV s a.kind A n ca a.rate B k cb a.time, mV s' b.kind A' n' ca' b.rate B' k' cb' b.time] w fun e w' => e = .returned (.bool (decide (a = b))) ∧ Below w.heap.size w w' := by
  obtain ⟨q, hq⟩ : ∃ q, decide (a = b) = q := ⟨_, rfl⟩
  rw [hq]
  have HQ := Lib.hid hq
  clear hq
  have hE := fun W (h : Below w.heap.size w W) => eqD_calls (ca := ca) (cb := ca') ha.vlen hb.vlen (ha.vals.keep h) (hb.vals.keep h) (by have := ha.vlen; have := za.vals; omega)
  have hF := fun W (h : Below w.heap.size w W) => eqT_calls (ca := cb) (cb := cb') ha.tlen hb.tlen (ha.tags.keep h) (hb.tags.keep h) (by have := ha.tlen; have := za.tags; omega)
  obtain ⟨qv, hqv⟩ : ∃ q, decide (a.vals = b.vals) = q := ⟨_, rfl⟩
  obtain ⟨qt, hqt⟩ : ∃ q, decide (a.tags = b.tags) = q := ⟨_, rfl⟩
  rw [hqv] at hE
  rw [hqt] at hF
  have HX := Lib.hid (And.intro hqv hqt)
  have HE := Lib.hid hE
  have HF := Lib.hid hF
  obtain ⟨kd, hkd⟩ : ∃ x, x = a.kind := ⟨_, rfl⟩
  obtain ⟨rt, hrt⟩ : ∃ x, x = a.rate := ⟨_, rfl⟩
  obtain ⟨tm, htm⟩ : ∃ x, x = a.time := ⟨_, rfl⟩
  obtain ⟨kd', hkd'⟩ : ∃ x, x = b.kind := ⟨_, rfl⟩
  obtain ⟨rt', hrt'⟩ : ∃ x, x = b.rate := ⟨_, rfl⟩
  obtain ⟨tm', htm'⟩ : ∃ x, x = b.time := ⟨_, rfl⟩
  rw [← hkd, ← hrt, ← htm, ← hkd', ← hrt', ← htm']
  have HY := Lib.hid (And.intro hkd (And.intro hrt (And.intro htm (And.intro hkd' (And.intro hrt' htm')))))
  have hse := str_eq ha.name hb.name
  obtain ⟨qn, hqn⟩ : ∃ q, (a.name == b.name) = q := ⟨_, rfl⟩
  rw [hqn] at hse
  have HN := Lib.hid hqn
  have HL := Lib.hid (((Kb.start w).push 26 (mC s kd A n ca rt B k cb tm)).push 26 (mC s' kd' A' n' ca' rt' B' k' cb' tm'))
  rw [size_alloc] at HL
  unfold mC at HL
  unfold mV
  clear hE hF hqv hqt hkd hrt htm hkd' hrt' htm' hqn ha hb za
  go_enter Tryd.func14, Tryd.ntmps14
  cases qn
  · have HZ := Lib.hid (show q = false by
      rw [← HQ.out]; exact decide_eq_false fun h => by have := HN.out; rw [(mt_ext.1 h).1] at this; simp at this)
    go_wp2_with fail
    go_ret
    exact ⟨by rw [HZ.out]; first | done | rfl, HL.out.kept⟩
  rcases (by omega : kd ≠ kd' ∨ (kd = kd' ∧ rt ≠ rt') ∨ (kd = kd' ∧ rt = rt' ∧ tm ≠ tm') ∨ (kd = kd' ∧ rt = rt' ∧ tm = tm')) with h | ⟨rfl, h⟩ | ⟨rfl, rfl, h⟩ | ⟨rfl, rfl, rfl⟩
  · have HZ := Lib.hid (show q = false by
      obtain ⟨h1, h2, h3, h4, h5, h6⟩ := HY.out
      rw [← HQ.out]; exact decide_eq_false fun e => h (by rw [h1, h4, e]))
    have h1 : (kd == kd') = false := by simpa using h
    go_wp2_with fail
    go_ret
    exact ⟨by rw [HZ.out]; first | done | rfl, HL.out.kept⟩
  · have HZ := Lib.hid (show q = false by
      obtain ⟨h1, h2, h3, h4, h5, h6⟩ := HY.out
      rw [← HQ.out]; exact decide_eq_false fun e => h (by rw [h2, h5, e]))
    have h1 : (rt == rt') = false := by simpa using h
    go_wp2_with fail
    go_ret
    exact ⟨by rw [HZ.out]; first | done | rfl, HL.out.kept⟩
  · have HZ := Lib.hid (show q = false by
      obtain ⟨h1, h2, h3, h4, h5, h6⟩ := HY.out
      rw [← HQ.out]; exact decide_eq_false fun e => h (by rw [h3, h6, e]))
    have h1 : (tm == tm') = false := by simpa using h
    go_wp2_with fail
    go_ret
    exact ⟨by rw [HZ.out]; first | done | rfl, HL.out.kept⟩
  · have HZ := Lib.hid (show q = (qv && qt) by
      obtain ⟨h1, h2, h3, h4, h5, h6⟩ := HY.out
      have hn : a.name = b.name := by simpa using HN.out
      rw [← HQ.out, ← HX.out.1, ← HX.out.2, Bool.eq_iff_iff, Bool.and_eq_true, decide_eq_true_eq, decide_eq_true_eq, decide_eq_true_eq, mt_ext]
      exact ⟨fun h => ⟨h.2.2.2.2.1, h.2.2.2.2.2⟩, fun h => ⟨hn, by rw [← h1, h4], by rw [← h2, h5], by rw [← h3, h6], h.1, h.2⟩⟩)
    go_wp2_with fail
    refine (HE.out _ HL.out.kept).mono ?_
    rintro e w2 ⟨rfl, hb⟩
    have HL2 := Lib.hid (HL.out.next hb)
    clear hb HL HE
    cases qv
    · go_wp2_with fail
      go_ret
      exact ⟨by rw [HZ.out]; first | done | rfl, HL2.out.kept⟩
    · have d4 : w2.cell? ⟨w.heap.size, 4, none⟩ = some (.slice B k cb) := HL2.out.cell (.tail _ (.head _)) rfl
      have e4 : w2.cell? ⟨w.heap.size + 1, 4, none⟩ = some (.slice B' k' cb') := HL2.out.cell (.head _) rfl
      go_wp2_with fail
      refine (HF.out _ HL2.out.kept).mono ?_
      rintro e w3 ⟨rfl, hb⟩
      have HL3 := Lib.hid (HL2.out.next hb)
      clear hb HL2 HF
      go_wp2_with fail
      go_ret
      exact ⟨by rw [HZ.out]; first | done | rfl | simp, HL3.out.kept⟩
end
end Go.Proofs.YtmaiggoinjldpaaDoor

/-
  Package metric: Normal, Is and Same. No statement of the seat is proved here.
-/
namespace Go.Proofs.YtmaiggoinjldpaaDoor
open Go.RowKit
open Dc (D D0)

theorem load_met {w : World} {g : Nat} {a b c d e f : Value} (h : Box w g 26 [a, b, c, d, e, f]) : (loadVar 26 ⟨g, 0, none⟩).run Tryd.prog w = .ok (.agg #[a, b, c, d, e, f]) w := by
  have c0 : w.cell? ⟨g, 0, none⟩ = some a := h.cell 0
  have c1 : w.cell? ⟨g, 1, none⟩ = some b := h.cell 1
  have c2 : w.cell? ⟨g, 2, none⟩ = some c := h.cell 2
  have c3 : w.cell? ⟨g, 3, none⟩ = some d := h.cell 3
  have c4 : w.cell? ⟨g, 4, none⟩ = some e := h.cell 4
  have c5 : w.cell? ⟨g, 5, none⟩ = some f := h.cell 5
  simp [go_sem, c0, c1, c2, c3, c4, c5]
/-- A metric and a number are returned. -/
theorem ret_met {fn : Func} {p u : Tmp} (hres : fn.results = #[.cell p 26, .tmp u]) {R : Ending → World → Prop} {A : Act} {w : World} {g : Nat} {a b c d e f v : Value} (hp : A.tmps.getD p undef = .pointer (some ⟨g, 0, none⟩)) (hu : A.tmps.getD u undef = v) (hd : A.defers = [])
    (hb : Box w g 26 [a, b, c, d, e, f]) (hR : R (.returned (.tuple #[.agg #[a, b, c, d, e, f], v])) w) : bodyPost Tryd.prog fn R .ret A w := by
  refine bodyPost_ret ?_ hd hR
  rw [results_cell_tmp hres, hp, hu, addr_is]
  simp only [Result.andThen]
  rw [load_met hb]
/-- A metric is returned. -/
theorem ret_met1 {fn : Func} {p : Tmp} (hres : fn.results = #[.cell p 26]) {R : Ending → World → Prop} {A : Act} {w : World} {g : Nat} {a b c d e f : Value} (hp : A.tmps.getD p undef = .pointer (some ⟨g, 0, none⟩)) (hd : A.defers = [])
    (hb : Box w g 26 [a, b, c, d, e, f]) (hR : R (.returned (.agg #[a, b, c, d, e, f])) w) : bodyPost Tryd.prog fn R .ret A w := by
  refine bodyPost_ret ?_ hd hR
  rw [results_cell1 hres, hp, addr_is]
  simp only [Result.andThen]
  rw [load_met hb]

/-! A store into a metric's own block leaves rows of Decs, and of tags, alone. -/
section
variable {w : World} {g : Nat} {t : TypeId} {s : ByteArray} {kd rt tm : Int} {A0 B0 : Option Addr} {n0 ca0 k0 cb0 : Nat}
theorem mC_str {j : Nat} {u : ByteArray} (h : (mC s kd A0 n0 ca0 rt B0 k0 cb0 tm)[j]? = some (.string u)) : j = 0 := by
  unfold mC at h
  match j, h with
  | 0, _ => rfl
  | 1, h => simp at h
  | 2, h => simp at h
  | 3, h => simp at h
  | 4, h => simp at h
  | 5, h => simp at h
  | j + 6, h => simp at h
theorem mC_bool {j : Nat} {u : Bool} (h : (mC s kd A0 n0 ca0 rt B0 k0 cb0 tm)[j]? = some (.bool u)) : False := by
  unfold mC at h
  match j, h with
  | 0, h => simp at h
  | 1, h => simp at h
  | 2, h => simp at h
  | 3, h => simp at h
  | 4, h => simp at h
  | 5, h => simp at h
  | j + 6, h => simp at h
theorem cell_far {w : World} {q a : Addr} (h : a.block ≠ q.block) (u : Value) : (w.setCell q u).cell? a = w.cell? a := by unfold World.cell?; rw [Below.heap_setCell w q u a.block h]
theorem Tags.set_met {B : Option Addr} {ts : List Tg} (h : Tags w B ts) (hb : Box w g t (mC s kd A0 n0 ca0 rt B0 k0 cb0 tm)) (i : Nat) (u : Value) : Tags (w.setCell ⟨g, i, none⟩ u) B ts := by
  intro j v hv
  obtain ⟨b, off, e, hc⟩ := h j v hv
  have hne : b ≠ g := by
    rintro rfl
    have hj : j / 2 < ts.length := by
      have := (List.getElem?_eq_some_iff.1 hv).1
      rw [flat_length] at this
      omega
    obtain ⟨b', off', e', k0, k1⟩ := h.at_ hj
    rw [e] at e'
    injection e' with e'
    injection e' with e1 e2
    subst e1 e2
    rw [hb.cell] at k0 k1
    have := mC_str k0
    have := mC_str k1
    omega
  exact ⟨b, off, e, (cell_far (q := ⟨g, i, none⟩) (a := ⟨b, off + j, none⟩) hne u).trans hc⟩
theorem Decs.set_met {A : Option Addr} {ds : List D} (h : Decs w A ds) (hb : Box w g t (mC s kd A0 n0 ca0 rt B0 k0 cb0 tm)) (i : Nat) (u : Value) : Decs (w.setCell ⟨g, i, none⟩ u) A ds := by
  intro j v hv
  obtain ⟨b, off, e, hc⟩ := h j v hv
  have hne : b ≠ g := by
    rintro rfl
    have hj : j / 3 < ds.length := by
      have := (List.getElem?_eq_some_iff.1 hv).1
      rw [flatD_length] at this
      omega
    obtain ⟨b', off', p, x, y, e', k0, k1, k2, _⟩ := h.get hj
    rw [e] at e'
    injection e' with e'
    injection e' with e1 e2
    subst e1 e2
    rw [hb.cell] at k0
    exact mC_bool k0
  exact ⟨b, off, e, (cell_far (q := ⟨g, i, none⟩) (a := ⟨b, off + j, none⟩) hne u).trans hc⟩
theorem MIs.set_met {s' : ByteArray} {A B : Option Addr} {n k : Nat} {m : Mt} (h : MIs w s' A n B k m) (hb : Box w g t (mC s kd A0 n0 ca0 rt B0 k0 cb0 tm)) (i : Nat) (u : Value) : MIs (w.setCell ⟨g, i, none⟩ u) s' A n B k m :=
  ⟨h.name, h.vlen, h.vals.set_met hb i u, h.tlen, h.tags.set_met hb i u⟩
/-- A whole metric is stored. -/
def putM (w : World) (g : Nat) (s : ByteArray) (kd : Int) (A0 : Option Addr) (n0 ca0 : Nat) (rt : Int) (B0 : Option Addr) (k0 cb0 : Nat) (tm : Int) : World :=
  (((((w.setCell ⟨g, 0, none⟩ (.string s)).setCell ⟨g, 1, none⟩ (.int .i64 kd)).setCell ⟨g, 2, none⟩ (.slice A0 n0 ca0)).setCell ⟨g, 3, none⟩ (.int .i64 rt)).setCell ⟨g, 4, none⟩ (.slice B0 k0 cb0)).setCell ⟨g, 5, none⟩ (.int .i64 tm)
theorem putM_is {s' : ByteArray} {kd' rt' tm' : Int} {A1 B1 : Option Addr} {n1 ca1 k1 cb1 : Nat} (hb : Box w g t (mC s kd A0 n0 ca0 rt B0 k0 cb0 tm)) : Box (putM w g s' kd' A1 n1 ca1 rt' B1 k1 cb1 tm') g t (mC s' kd' A1 n1 ca1 rt' B1 k1 cb1 tm') :=
  ((((((hb.set 0 _).set 1 _).set 2 _).set 3 _).set 4 _).set 5 _)
theorem putM_below {w0 : World} {s' : ByteArray} {kd' rt' tm' : Int} {A1 B1 : Option Addr} {n1 ca1 k1 cb1 : Nat} (h : Below w0.heap.size w0 w) (hg : w0.heap.size ≤ g) : Below w0.heap.size w0 (putM w g s' kd' A1 n1 ca1 rt' B1 k1 cb1 tm') :=
  below_set (below_set (below_set (below_set (below_set (below_set h hg _ _) hg _ _) hg _ _) hg _ _) hg _ _) hg _ _
theorem putM_mis {s' s2 : ByteArray} {kd' rt' tm' : Int} {A B A1 B1 : Option Addr} {n k n1 ca1 k1 cb1 : Nat} {m : Mt} (h : MIs w s2 A n B k m) (hb : Box w g t (mC s kd A0 n0 ca0 rt B0 k0 cb0 tm)) : MIs (putM w g s' kd' A1 n1 ca1 rt' B1 k1 cb1 tm') s2 A n B k m := by
  have b0 : Box (w.setCell ⟨g, 0, none⟩ (.string s')) g t (mC s' kd A0 n0 ca0 rt B0 k0 cb0 tm) := hb.set 0 _
  have b1 : Box ((w.setCell ⟨g, 0, none⟩ (.string s')).setCell ⟨g, 1, none⟩ (.int .i64 kd')) g t (mC s' kd' A0 n0 ca0 rt B0 k0 cb0 tm) := b0.set 1 _
  have b2 : Box (((w.setCell ⟨g, 0, none⟩ (.string s')).setCell ⟨g, 1, none⟩ (.int .i64 kd')).setCell ⟨g, 2, none⟩ (.slice A1 n1 ca1)) g t (mC s' kd' A1 n1 ca1 rt B0 k0 cb0 tm) := b1.set 2 _
  have b3 : Box ((((w.setCell ⟨g, 0, none⟩ (.string s')).setCell ⟨g, 1, none⟩ (.int .i64 kd')).setCell ⟨g, 2, none⟩ (.slice A1 n1 ca1)).setCell ⟨g, 3, none⟩ (.int .i64 rt')) g t (mC s' kd' A1 n1 ca1 rt' B0 k0 cb0 tm) := b2.set 3 _
  have b4 : Box (((((w.setCell ⟨g, 0, none⟩ (.string s')).setCell ⟨g, 1, none⟩ (.int .i64 kd')).setCell ⟨g, 2, none⟩ (.slice A1 n1 ca1)).setCell ⟨g, 3, none⟩ (.int .i64 rt')).setCell ⟨g, 4, none⟩ (.slice B1 k1 cb1)) g t (mC s' kd' A1 n1 ca1 rt' B1 k1 cb1 tm) := b3.set 4 _
  exact (((((h.set_met hb 0 _).set_met b0 1 _).set_met b1 2 _).set_met b2 3 _).set_met b3 4 _).set_met b4 5 _
end

/-- What Normal tells. -/
def NormMP (w : World) (m : Mt) (e : Ending) (w' : World) : Prop :=
  (∃ s A n ca B k cb, e = .returned (.tuple #[mV s (nM m).kind A n ca (nM m).rate B k cb (nM m).time, .int .i64 (codeM m)]) ∧ MIs w' s A n B k (nM m)) ∧ Below w.heap.size w w'
/-- The same, its rows in new memory. -/
def NormMF (w : World) (m : Mt) (e : Ending) (w' : World) : Prop :=
  (∃ s A n ca B k cb, e = .returned (.tuple #[mV s (nM m).kind A n ca (nM m).rate B k cb (nM m).time, .int .i64 (codeM m)]) ∧ MIs w' s A n B k (nM m) ∧ Fresh w.heap.size A ∧ Fresh w.heap.size B) ∧ Below w.heap.size w w'
theorem NormMF.p {w w' : World} {m : Mt} {e : Ending} (h : NormMF w m e w') : NormMP w m e w' := by obtain ⟨⟨s, A, n, ca, B, k, cb, h1, h2, _⟩, hb⟩ := h; exact ⟨⟨s, A, n, ca, B, k, cb, h1, h2⟩, hb⟩
theorem mis0 (w : World) (A B : Option Addr) : MIs w ⟨#[]⟩ A 0 B 0 M0 := ⟨rfl, rfl, Decs.nil, rfl, Tags.nil⟩

section
variable {w : World} {s : ByteArray} {A B : Option Addr} {n k ca cb : Nat} {m : Mt}

end
end Go.Proofs.YtmaiggoinjldpaaDoor

/-
  Package metric: Is and Same. No statement of the seat is proved here.
-/
namespace Go.Proofs.YtmaiggoinjldpaaDoor
open Go.RowKit
open Dc (D D0)

section
variable {w : World} {s s' : ByteArray} {A B A' B' : Option Addr} {n k ca cb n' k' ca' cb' : Nat} {m a b : Mt}

set_option maxRecDepth 100000 in
set_option maxHeartbeats 4000000 in
theorem mis_calls (h : MIs w s A n B k m) (hz : Small m) : Calls Tryd.prog 15 #[mV s m.kind A n ca m.rate B k cb m.time] w fun e w' => e = .returned (.bool (isM m)) ∧ Below w.heap.size w w' := by
  have hC := fun W (b : Below w.heap.size w W) => mcheck_calls (ca := ca) (cb := cb) (h.keep b) hz
  have hI := fun W (b : Below w.heap.size w W) => is_calls6 (cap := cb) h.tlen (h.tags.keep b) (by have := h.tlen; have := hz.tags; omega)
  obtain ⟨q, hq⟩ : ∃ q, checkM m = q := ⟨_, rfl⟩
  obtain ⟨p, hp⟩ : ∃ p, decide (m.tags = norm m.tags) = p := ⟨_, rfl⟩
  have hr : isM m = (decide (q = 0) && p) := by unfold isM; rw [hq, hp]
  rw [hr]
  rw [hq] at hC
  rw [hp] at hI
  unfold mV at hC ⊢
  generalize m.kind = kd at *
  generalize m.rate = rt at *
  generalize m.time = tm at *
  have HC := Lib.hid hC
  have HI := Lib.hid hI
  have b0 := (Kb.start w).push 26 (mC s kd A n ca rt B k cb tm)
  unfold mC at b0
  have HB := Lib.hid b0
  clear hC hI hq hp hr b0 h hz
  go_enter Tryd.func15, Tryd.ntmps15
  go_wp2_with fail
  refine (HC.out _ HB.out.kept).mono ?_
  rintro e w1 ⟨rfl, hb⟩
  have HB1 := Lib.hid (HB.out.next hb)
  clear hb HB HC
  by_cases hq0 : q = 0
  · subst hq0
    have c4 : w1.cell? ⟨w.heap.size, 4, none⟩ = some (.slice B k cb) := HB1.out.cell (.head _) rfl
    go_wp2_with fail
    refine (HI.out _ HB1.out.kept).mono ?_
    rintro e w2 ⟨rfl, hb⟩
    have HB2 := Lib.hid (HB1.out.next hb)
    clear hb HB1 HI c4
    go_wp2_with fail
    go_ret
    exact ⟨by simp, HB2.out.kept⟩
  · have h1 : (q == 0) = false := by simpa using hq0
    have HE := Lib.hid (decide_eq_false hq0)
    go_wp2_with fail
    go_ret
    exact ⟨by simp [HE.out], HB1.out.kept⟩

end
end Go.Proofs.YtmaiggoinjldpaaDoor

/-
  Layer 7: the document's Equal. No statement of the seat is proved here.
-/
namespace Go.Proofs.YtmaiggoinjldpaaDoor
open Go.RowKit
open Dc (D D0)

section
variable {w : World} {s s' : ByteArray} {A B A' B' : Option Addr} {n k n' k' ca cb ca' cb' : Nat} {a b : Mt}
/-- Both metrics lie. -/
structure TwoM (w : World) (s : ByteArray) (kd : Int) (A : Option Addr) (n ca : Nat) (rt : Int) (B : Option Addr) (k cb : Nat) (tm : Int) (s' : ByteArray) (kd' : Int) (A' : Option Addr) (n' ca' : Nat) (rt' : Int) (B' : Option Addr) (k' cb' : Nat) (tm' : Int) (w' : World) : Prop where
  kept : Below w.heap.size w w'
  one : Box w' w.heap.size 26 (mC s kd A n ca rt B k cb tm)
  two : Box w' (w.heap.size + 1) 26 (mC s' kd' A' n' ca' rt' B' k' cb' tm')
theorem TwoM.next {w1 w2 : World} {kd rt tm kd' rt' tm' : Int} (h : TwoM w s kd A n ca rt B k cb tm s' kd' A' n' ca' rt' B' k' cb' tm' w1) (hb : Below w1.heap.size w1 w2) : TwoM w s kd A n ca rt B k cb tm s' kd' A' n' ca' rt' B' k' cb' tm' w2 := ⟨below_then h.kept hb, h.one.keep hb, h.two.keep hb⟩
theorem TwoM.drewN {w1 : World} {kd rt tm kd' rt' tm' : Int} (h : TwoM w s kd A n ca rt B k cb tm s' kd' A' n' ca' rt' B' k' cb' tm' w1) (j : Nat) : TwoM w s kd A n ca rt B k cb tm s' kd' A' n' ca' rt' B' k' cb' tm' (w1.drewN j) := h.next (Same.below (Same.drewN _ _))

set_option maxRecDepth 100000 in
set_option maxHeartbeats 8000000 in
theorem requal_calls (ha : MIs w s A n B k a) (hb : MIs w s' A' n' B' k' b) (za : Small a) :
    Calls Tryd.prog 10 #[mV s a.kind A n ca a.rate B k cb a.time, mV s' b.kind A' n' ca' b.rate B' k' cb' b.time] w fun e w' => e = .returned (.bool (decide (a = b))) ∧ Below w.heap.size w w' := by
  obtain ⟨q, hq⟩ : ∃ q, decide (a = b) = q := ⟨_, rfl⟩
  rw [hq]
  have HQ := Lib.hid hq
  clear hq
  obtain ⟨kd, hkd⟩ : ∃ x, x = a.kind := ⟨_, rfl⟩
  obtain ⟨rt, hrt⟩ : ∃ x, x = a.rate := ⟨_, rfl⟩
  obtain ⟨tm, htm⟩ : ∃ x, x = a.time := ⟨_, rfl⟩
  obtain ⟨kd', hkd'⟩ : ∃ x, x = b.kind := ⟨_, rfl⟩
  obtain ⟨rt', hrt'⟩ : ∃ x, x = b.rate := ⟨_, rfl⟩
  obtain ⟨tm', htm'⟩ : ∃ x, x = b.time := ⟨_, rfl⟩
  rw [← hkd, ← hrt, ← htm, ← hkd', ← hrt', ← htm']
  have HY := Lib.hid (And.intro hkd (And.intro hrt (And.intro htm (And.intro hkd' (And.intro hrt' htm')))))
  have hse := str_eq ha.name hb.name
  obtain ⟨qn, hqn⟩ : ∃ q, (a.name == b.name) = q := ⟨_, rfl⟩
  rw [hqn] at hse
  have HN := Lib.hid hqn
  have b0 := ((Kb.start w).push 26 (mC s kd A n ca rt B k cb tm)).push 26 (mC s' kd' A' n' ca' rt' B' k' cb' tm')
  rw [size_alloc] at b0
  have b1 : TwoM w s kd A n ca rt B k cb tm s' kd' A' n' ca' rt' B' k' cb' tm' _ := ⟨b0.kept, b0.box _ (.tail _ (.head _)), b0.box _ (.head _)⟩
  unfold mC at b1
  have HL := Lib.hid b1
  have HH := Lib.hid (And.intro ha (And.intro hb za))
  have z1 : n ≤ 1000 := by have := ha.vlen; have := za.vals; omega
  have z2 : k ≤ 1000 := by have := ha.tlen; have := za.tags; omega
  have hg := dguard
  have hg2 := tguard
  unfold mV
  clear b0 b1 hkd hrt htm hkd' hrt' htm' hqn ha hb za
  go_enter Tryd.func10, Tryd.ntmps10
  have hse' : (s.toList != s'.toList) = !qn := by rw [bne, hse]
  cases qn
  · have HZ := Lib.hid (show q = false by
      rw [← HQ.out]; exact decide_eq_false fun h => by have := HN.out; rw [(mt_ext.1 h).1] at this; simp at this)
    go_wp2_with fail
    go_ret
    exact ⟨by rw [HZ.out]; first | done | rfl, HL.out.kept⟩
  rcases (by omega : kd ≠ kd' ∨ (kd = kd' ∧ rt ≠ rt') ∨ (kd = kd' ∧ rt = rt' ∧ tm ≠ tm') ∨ (kd = kd' ∧ rt = rt' ∧ tm = tm' ∧ n ≠ n') ∨ (kd = kd' ∧ rt = rt' ∧ tm = tm' ∧ n = n' ∧ k ≠ k') ∨ (kd = kd' ∧ rt = rt' ∧ tm = tm' ∧ n = n' ∧ k = k')) with h | ⟨rfl, h⟩ | ⟨rfl, rfl, h⟩ | ⟨rfl, rfl, rfl, h⟩ | ⟨rfl, rfl, rfl, rfl, h⟩ | ⟨rfl, rfl, rfl, rfl, rfl⟩
  · have HZ := Lib.hid (show q = false by
      obtain ⟨h1, h2, h3, h4, h5, h6⟩ := HY.out
      rw [← HQ.out]; exact decide_eq_false fun e => h (by rw [h1, h4, e]))
    have h1 : (kd != kd') = true := by simpa using h
    go_wp2_with fail
    go_ret
    exact ⟨by rw [HZ.out]; first | done | rfl, HL.out.kept⟩
  · have HZ := Lib.hid (show q = false by
      obtain ⟨h1, h2, h3, h4, h5, h6⟩ := HY.out
      rw [← HQ.out]; exact decide_eq_false fun e => h (by rw [h2, h5, e]))
    have h1 : (rt != rt') = true := by simpa using h
    go_wp2_with fail
    go_ret
    exact ⟨by rw [HZ.out]; first | done | rfl, HL.out.kept⟩
  · have HZ := Lib.hid (show q = false by
      obtain ⟨h1, h2, h3, h4, h5, h6⟩ := HY.out
      rw [← HQ.out]; exact decide_eq_false fun e => h (by rw [h3, h6, e]))
    have h1 : (tm != tm') = true := by simpa using h
    go_wp2_with fail
    go_ret
    exact ⟨by rw [HZ.out]; first | done | rfl, HL.out.kept⟩
  · have HZ := Lib.hid (show q = false by
      rw [← HQ.out]; exact decide_eq_false fun e => h (by rw [← HH.out.1.vlen, ← HH.out.2.1.vlen, e]))
    have h1 : ((n : Int) != (n' : Int)) = true := by simp; omega
    go_wp2_with fail
    go_ret
    exact ⟨by rw [HZ.out]; first | done | rfl, HL.out.kept⟩
  · have HZ := Lib.hid (show q = false by
      rw [← HQ.out]; exact decide_eq_false fun e => h (by rw [← HH.out.1.tlen, ← HH.out.2.1.tlen, e]))
    have h1 : ((k : Int) != (k' : Int)) = true := by simp; omega
    go_wp2_with fail
    go_ret
    exact ⟨by rw [HZ.out]; first | done | rfl, HL.out.kept⟩
  go_wp2_with fail
  go_loopw [5] (fun v wr => ∃ i : Nat, v = .int .i64 i ∧ i ≤ n ∧ Hid (TwoM w s kd A n ca rt B k cb tm s' kd A' n ca' rt B' k cb' tm wr ∧ ∀ j (h : j < a.vals.length) (g : j < b.vals.length), j < i → a.vals[j] = b.vals[j])) (fun v _ => n - (intOf v).toNat)
  case atStart => exact ⟨0, rfl, by omega, ⟨HL.out, fun j _ _ hj => absurd hj (by omega)⟩⟩
  case round =>
    obtain ⟨i, rfl, hin, hrel⟩ := hrel
    clear HL
    have m2 : wr.cell? ⟨w.heap.size, 2, none⟩ = some (.slice A n ca) := hrel.out.1.one.cell 2
    by_cases hlt : i < n
    · have g1 : (i : Int) < (n : Int) := by omega
      have g2 : (0 : Int) ≤ (i : Int) := by omega
      have p2 : wr.cell? ⟨w.heap.size + 1, 2, none⟩ = some (.slice A' n ca') := hrel.out.1.two.cell 2
      obtain ⟨ha, hb, _⟩ := HH.out
      have l1 : i < a.vals.length := by rw [ha.vlen]; exact hlt
      have l2 : i < b.vals.length := by rw [hb.vlen]; exact hlt
      obtain ⟨bb, off, p, x, y, e1, c0, c1, c2, hd⟩ := (ha.vals.keep hrel.out.1.kept).get l1
      obtain ⟨b', off', p', x', y', e2, d0, d1, d2, hd'⟩ := (hb.vals.keep hrel.out.1.kept).get l2
      subst e1 e2
      by_cases he : a.vals[i] = b.vals[i]
      · have kk := dne_run hd hd' (decide_eq_true he)
        have HE := Lib.hid he
        clear ha hb hd hd' he
        go_wp2_with fail
        go_quiet (fail)
        go_wp2_with fail
        refine ⟨⟨i + 1, by go_num, by omega, ⟨hrel.out.1.drewN _, fun j h g hj => ?_⟩⟩, by simp [intOf]; omega⟩
        rcases Nat.lt_or_ge j i with h' | h'
        · exact hrel.out.2 j h g h'
        · obtain rfl : i = j := by omega
          exact HE.out
      · have kk := dne_run hd hd' (decide_eq_false he)
        have HE := Lib.hid (show q = false by rw [← HQ.out]; exact decide_eq_false fun h => he (by subst h; rfl))
        clear ha hb hd hd' he
        go_wp2_with fail
        go_quiet (fail)
        go_wp2_with fail
        go_ret
        exact ⟨by rw [HE.out]; first | done | rfl, (hrel.out.1.drewN _).kept⟩
    · have g1 : ¬ (i : Int) < (n : Int) := by omega
      have HV := Lib.hid (show a.vals = b.vals by
        obtain ⟨ha, hb, _⟩ := HH.out
        exact List.ext_getElem (by rw [ha.vlen, hb.vlen]) fun j h g => hrel.out.2 j h g (by have := ha.vlen; omega))
      have HL := Lib.hid hrel.out.1
      clear hrel hlt
      obtain ⟨wo, hwo⟩ : ∃ wo, wo = wr := ⟨_, rfl⟩
      subst hwo
      go_wp2_with fail
      go_loopw [6] (fun v wr => ∃ i : Nat, v = .int .i64 i ∧ i ≤ k ∧ Hid (TwoM w s kd A n ca rt B k cb tm s' kd A' n ca' rt B' k cb' tm wr ∧ ∀ j (h : j < a.tags.length) (g : j < b.tags.length), j < i → a.tags[j] = b.tags[j])) (fun v _ => k - (intOf v).toNat)
      case atStart => exact ⟨0, rfl, by omega, ⟨HL.out, fun j _ _ hj => absurd hj (by omega)⟩⟩
      case round =>
        obtain ⟨i, rfl, hin, hrel⟩ := hrel
        clear HL m2 g1
        have m4 : wr.cell? ⟨w.heap.size, 4, none⟩ = some (.slice B k cb) := hrel.out.1.one.cell 4
        by_cases hlt : i < k
        · have g1 : (i : Int) < (k : Int) := by omega
          have g2 : (0 : Int) ≤ (i : Int) := by omega
          have p4 : wr.cell? ⟨w.heap.size + 1, 4, none⟩ = some (.slice B' k cb') := hrel.out.1.two.cell 4
          obtain ⟨ha, hb, _⟩ := HH.out
          have l1 : i < a.tags.length := by rw [ha.tlen]; exact hlt
          have l2 : i < b.tags.length := by rw [hb.tlen]; exact hlt
          obtain ⟨bb, off, s1, t1, e1, c0, c1, hs, ht⟩ := (ha.tags.keep hrel.out.1.kept).get l1
          obtain ⟨b', off', s2, t2, e2, d0, d1, hs', ht'⟩ := (hb.tags.keep hrel.out.1.kept).get l2
          subst e1 e2
          by_cases he : a.tags[i] = b.tags[i]
          · have kk := tne_run hs ht hs' ht' (decide_eq_true he)
            have HE := Lib.hid he
            clear ha hb hs ht hs' ht' he
            go_wp2_with fail
            go_quiet (fail)
            go_wp2_with fail
            refine ⟨⟨i + 1, by go_num, by omega, ⟨hrel.out.1.drewN _, fun j h g hj => ?_⟩⟩, by simp [intOf]; omega⟩
            rcases Nat.lt_or_ge j i with h' | h'
            · exact hrel.out.2 j h g h'
            · obtain rfl : i = j := by omega
              exact HE.out
          · have kk := tne_run hs ht hs' ht' (decide_eq_false he)
            have HE := Lib.hid (show q = false by rw [← HQ.out]; exact decide_eq_false fun h => he (by subst h; rfl))
            clear ha hb hs ht hs' ht' he
            go_wp2_with fail
            go_quiet (fail)
            go_wp2_with fail
            go_ret
            exact ⟨by rw [HE.out]; first | done | rfl, (hrel.out.1.drewN _).kept⟩
        · have g1 : ¬ (i : Int) < (k : Int) := by omega
          have HE := Lib.hid (show q = true by
            obtain ⟨ha, hb, _⟩ := HH.out
            obtain ⟨h1, h2, h3, h4, h5, h6⟩ := HY.out
            rw [← HQ.out]
            refine decide_eq_true (mt_ext.2 ⟨by simpa using HN.out, by rw [← h1, h4], by rw [← h2, h5], by rw [← h3, h6], HV.out, ?_⟩)
            exact List.ext_getElem (by rw [ha.tlen, hb.tlen]) fun j h g => hrel.out.2 j h g (by have := ha.tlen; omega))
          go_wp2_with fail
          go_ret
          exact ⟨by rw [HE.out]; first | done | rfl, hrel.out.1.kept⟩
end
end Go.Proofs.YtmaiggoinjldpaaDoor

/-
  Layer 7: Few and awake. No statement of the seat is proved here.
-/
namespace Go.Proofs.YtmaiggoinjldpaaDoor
open Go.RowKit
open Dc (D D0)

/-- A name of up to 300 bytes, up to 80 values, up to 40 tags of up to 150 bytes each. -/
def fewM (m : Mt) : Bool := decide (m.name.length ≤ 300 ∧ m.vals.length ≤ 80 ∧ m.tags.length ≤ 40 ∧ ∀ t ∈ m.tags, t.1.length ≤ 150 ∧ t.2.length ≤ 150)
theorem few_small {m : Mt} (h : fewM m = true) (hf : ∀ d ∈ m.vals, d.Fits) : Small m := by
  obtain ⟨h1, h2, h3, h4⟩ := of_decide_eq_true h
  exact ⟨by omega, by omega, hf, by omega, fun t ht => by have := h4 t ht; omega⟩

section
variable {w : World} {s : ByteArray} {A B : Option Addr} {n k ca cb : Nat} {m : Mt}
end

def mA : Mt := ⟨[97], 1, [⟨false, 10, 0⟩], 1000000, [([98], []), ([97], []), ([98], [])], 0⟩
def mB : Mt := ⟨[97], 1, [⟨false, 1, 1⟩], 1000000, [([97], []), ([98], [])], 0⟩
theorem awN : Dc.normal ⟨false, 10, 0⟩ = some ⟨false, 1, 1⟩ := by
  unfold Dc.normal
  show Option.map _ (Dc.norm (1 * 10) 0) = _
  rw [Dc.norm_ten, Dc.norm_fix (.inr ⟨by decide, by decide, by decide, by decide, by decide⟩)]
  rfl
theorem awH : hasN mA.vals = true := by unfold hasN mA; simp [awN]
theorem awC : codeM mA = 0 := by
  show restM mA (hasN mA.vals) = 0
  rw [awH]; decide +kernel
theorem awF : nM mA = mB := by
  rw [nM_ok awC]
  unfold formM mA mB
  simp only [List.map_cons, List.map_nil, Mt.mk.injEq, true_and, and_true]
  refine ⟨by unfold form; rw [awN]; rfl, by decide +kernel⟩
theorem awK : checkM mA = 17 := by
  show restM mA (okV mA.vals) = 17
  have : okV mA.vals = false := by
    unfold okV mA
    simp only [List.all_cons, List.all_nil, Bool.and_true]
    refine decide_eq_false fun h => ?_
    have := Dc.normal_fix (Dc.check_ok.1 h)
    rw [awN] at this
    cases this
  rw [this]; decide +kernel
theorem small_mA : Small mA := ⟨by decide, by decide, by intro d hd; simp [mA] at hd; subst hd; exact ⟨by decide, by decide, by decide⟩, by decide, by decide⟩
theorem small_mB : Small mB := ⟨by decide, by decide, by intro d hd; simp [mB] at hd; subst hd; exact ⟨by decide, by decide, by decide⟩, by decide, by decide⟩
theorem mis_mA {w : World} {g h : Nat} (hg : w.heap.size = g) (hh : w.heap.size + 1 = h) : MIs ((w.alloc (.cells #[.bool false, .int .u64 10, .int .i64 0] 42)).alloc (.cells #[.string ⟨#[98]⟩, .string ⟨#[]⟩, .string ⟨#[97]⟩, .string ⟨#[]⟩, .string ⟨#[98]⟩, .string ⟨#[]⟩] 57)) ⟨#[97]⟩ (some ⟨g, 0, none⟩) 1 (some ⟨h, 0, none⟩) 3 mA :=
  ⟨rfl, rfl, (decs_lit (w := w) hg [⟨false, 10, 0⟩]).alloc _, rfl, tags_lit (by rw [size_alloc]; exact hh) [([98], []), ([97], []), ([98], [])]⟩
theorem mis_mB {w : World} {g h : Nat} (hg : w.heap.size = g) (hh : w.heap.size + 1 = h) : MIs ((w.alloc (.cells #[.bool false, .int .u64 1, .int .i64 1] 42)).alloc (.cells #[.string ⟨#[97]⟩, .string ⟨#[]⟩, .string ⟨#[98]⟩, .string ⟨#[]⟩] 57)) ⟨#[97]⟩ (some ⟨g, 0, none⟩) 1 (some ⟨h, 0, none⟩) 2 mB :=
  ⟨rfl, rfl, (decs_lit (w := w) hg [⟨false, 1, 1⟩]).alloc _, rfl, tags_lit (by rw [size_alloc]; exact hh) [([97], []), ([98], [])]⟩

end Go.Proofs.YtmaiggoinjldpaaDoor

/-
  Strings of our own, beside the shelf. No statement of the seat is proved here.
-/

/-
  Package metric: Clone; the document's Copy. No statement of the seat is proved here.
-/
namespace Go.Proofs.YtmaiggoinjldpaaDoor
open Go.RowKit
open Dc (D D0)

theorem own_set {w : World} {base n size : Nat} {el : TypeId} {v : Value} {xs : List Value} (h : w.ownsRow base el size v n xs) {q : Addr} (hq : q.block < base) (u : Value) : (w.setCell q u).ownsRow base el size v n xs := by
  refine ⟨h.1, ?_⟩
  rcases h.2 with h2 | ⟨g, cap, cur, hv, hg, hh, r⟩
  · exact .inl h2
  · exact .inr ⟨g, cap, cur, hv, hg, (Below.heap_setCell w q u g (by omega)).trans hh, r⟩

section
variable {w : World} {A : Option Addr} {n cap : Nat}
end

/-- What Clone tells: a metric whose rows are its own. -/
structure OwnM (base : Nat) (w : World) (s : ByteArray) (A : Option Addr) (n ca : Nat) (B : Option Addr) (k cb : Nat) (m : Mt) : Prop where
  name : Str s m.name
  vals : w.ownsRow base 42 3 (.slice A n ca) n (flatD m.vals)
  tags : w.ownsRow base 57 2 (.slice B k cb) k (flat m.tags)
theorem own_lenT {w : World} {ts : List Tg} {base n : Nat} {v : Value} (h : w.ownsRow base 57 2 v n (flat ts)) : ts.length = n := by have := h.1; rw [flat_length] at this; omega
theorem OwnM.mis {base : Nat} {w : World} {s : ByteArray} {A B : Option Addr} {n ca k cb : Nat} {m : Mt} (h : OwnM base w s A n ca B k cb m) : MIs w s A n B k m :=
  ⟨h.name, own_lenD h.vals, Decs.of_own h.vals, own_lenT h.tags, Tags.of_own h.tags⟩
theorem OwnM.keep {base : Nat} {w w' : World} {s : ByteArray} {A B : Option Addr} {n ca k cb : Nat} {m : Mt} (h : OwnM base w s A n ca B k cb m) (b : Below w.heap.size w w') : OwnM base w' s A n ca B k cb m := ⟨h.name, own_keep h.vals b, own_keep h.tags b⟩
theorem OwnM.low {base base' : Nat} {w : World} {s : ByteArray} {A B : Option Addr} {n ca k cb : Nat} {m : Mt} (h : OwnM base w s A n ca B k cb m) (b : base' ≤ base) : OwnM base' w s A n ca B k cb m := ⟨h.name, own_base h.vals b, own_base h.tags b⟩
theorem OwnM.put {base : Nat} {w : World} {s : ByteArray} {A B : Option Addr} {n ca k cb : Nat} {m : Mt} (h : OwnM base w s A n ca B k cb m) {q : Addr} (hq : q.block < base) (u : Value) : OwnM base (w.setCell q u) s A n ca B k cb m := ⟨h.name, own_set h.vals hq u, own_set h.tags hq u⟩

section
variable {w : World} {s : ByteArray} {A B : Option Addr} {n k ca cb : Nat} {m : Mt}
/-- What Clone tells. -/
def CloneP (w : World) (s : ByteArray) (n k : Nat) (m : Mt) (e : Ending) (w' : World) : Prop :=
  (∃ A ca B cb, e = .returned (mV s m.kind A n ca m.rate B k cb m.time) ∧ OwnM w.heap.size w' s A n ca B k cb m) ∧ Below w.heap.size w w'

end
end Go.Proofs.YtmaiggoinjldpaaDoor
