/-
  TRows, TLess. No statement of the seat is proved here.
-/
import Derived.Test.YteffankkelbhiaaChecked
import Derived.Test.YteffankkelbhiaaMem
import Derived.Test.YteffankkelbhiaaKStr
import Derived.Test.YteffankkelbhiaaTMath
import Derived.Maps.AppendAt
import Derived.Laws.StructEq
import Derived.Sort.Grow
import Derived.Deep.RegionHeld3
/-
  Rows of tags: a slice that reads as a list of tags, an append of tags onto a row of our own. No statement of the seat is proved here.
-/
namespace Go.Proofs.Yteffankkelbhiaa
open Go.RowKit

/-- The slice at A holds these values, one behind the other. -/
def Lies (w : World) (A : Option Addr) (vs : List Value) : Prop :=
  ∀ i u, vs[i]? = some u → ∃ b off, A = some ⟨b, off, none⟩ ∧ w.cell? ⟨b, off + i, none⟩ = some u

section
variable {w w' : World} {A : Option Addr} {vs : List Value}
theorem cell_lt {a : Addr} {u : Value} (h : w.cell? a = some u) : a.block < w.heap.size := by
  unfold World.cell? at h
  rcases Nat.lt_or_ge a.block w.heap.size with hlt | hge
  · exact hlt
  · rw [Array.getElem?_eq_none hge] at h; simp at h
theorem Lies.nil : Lies w A [] := fun i u h => by simp at h
theorem Lies.keep (h : Lies w A vs) (hb : Below w.heap.size w w') : Lies w' A vs := fun i u hu => by
  obtain ⟨b, off, e, hc⟩ := h i u hu
  exact ⟨b, off, e, (hb.cell (p := ⟨b, off + i, none⟩) (cell_lt hc)).trans hc⟩
theorem Lies.at_ {i : Nat} (h : Lies w A vs) (hi : i < vs.length) : ∃ b off, A = some ⟨b, off, none⟩ ∧ w.cell? ⟨b, off + i, none⟩ = some vs[i] :=
  h i _ (List.getElem?_eq_getElem hi)
/-- A row of the call's own reads as what it holds. -/
theorem Lies.of_own {base n cap size : Nat} {e : TypeId} (h : w.ownsRow base e size (.slice A n cap) n vs) : Lies w A vs := by
  rcases h.2 with ⟨hv, hn⟩ | ⟨g, cap', cur, hv, hg, hh, hnc, hcm, hcs, htake⟩
  · have : vs = [] := List.eq_nil_of_length_eq_zero (by rw [h.1, hn]; simp)
    subst this
    exact .nil
  · injection hv with hA _ _
    subst hA
    intro i u hu
    refine ⟨g, 0, rfl, ?_⟩
    have : cur[i]? = some u := by
      rw [← htake] at hu
      have := List.getElem?_take (l := cur.toList) (i := n * size) (j := i)
      rw [this] at hu
      split at hu
      · simpa using hu
      · cases hu
    simp [World.cell?, hh, this]
theorem Lies.take (h : Lies w A vs) (k : Nat) : Lies w A (vs.take k) := fun i u hu => by
  rw [List.getElem?_take] at hu
  split at hu
  · exact h i u hu
  · cases hu
end

/-- A tag's two cells. -/
def encT (t : Tg) : List Value := [.string ⟨t.1.toArray⟩, .string ⟨t.2.toArray⟩]
def flat (ts : List Tg) : List Value := ts.flatMap encT
theorem flat_nil : flat [] = [] := rfl
theorem flat_cons (t : Tg) (ts : List Tg) : flat (t :: ts) = .string ⟨t.1.toArray⟩ :: .string ⟨t.2.toArray⟩ :: flat ts := rfl
theorem flat_append (a b : List Tg) : flat (a ++ b) = flat a ++ flat b := by unfold flat; rw [List.flatMap_append]
theorem flat_one (t : Tg) : flat [t] = encT t := rfl
theorem flat_length : ∀ ts : List Tg, (flat ts).length = ts.length * 2
  | [] => rfl
  | t :: ts => by rw [flat_cons, List.length_cons, List.length_cons, flat_length ts, List.length_cons]; omega
theorem flat_get0 : ∀ (ts : List Tg) (i : Nat), (flat ts)[i * 2]? = ts[i]?.map fun t => .string ⟨t.1.toArray⟩
  | [], i => by simp [flat_nil]
  | t :: ts, 0 => rfl
  | t :: ts, i + 1 => by rw [flat_cons, show (i + 1) * 2 = i * 2 + 1 + 1 by omega]; simp only [List.getElem?_cons_succ]; exact flat_get0 ts i
theorem flat_get1 : ∀ (ts : List Tg) (i : Nat), (flat ts)[i * 2 + 1]? = ts[i]?.map fun t => .string ⟨t.2.toArray⟩
  | [], i => by simp [flat_nil]
  | t :: ts, 0 => rfl
  | t :: ts, i + 1 => by rw [flat_cons, show (i + 1) * 2 + 1 = i * 2 + 1 + 1 + 1 by omega]; simp only [List.getElem?_cons_succ]; exact flat_get1 ts i
theorem flat_take : ∀ (ts : List Tg) (k : Nat), flat (ts.take k) = (flat ts).take (k * 2)
  | [], k => by simp [flat_nil]
  | t :: ts, 0 => rfl
  | t :: ts, k + 1 => by rw [List.take_succ_cons, flat_cons, flat_cons, flat_take ts k, show (k + 1) * 2 = k * 2 + 1 + 1 by omega]; rfl
theorem flat_cells : ∀ {ts : List Tg}, ∀ u ∈ flat ts, u.oneCell' = true := by
  intro ts u hu
  obtain ⟨t, _, hu⟩ := List.mem_flatMap.1 hu
  simp [encT] at hu
  rcases hu with rfl | rfl <;> rfl

/-- The slice at A holds these tags. -/
def Tags (w : World) (A : Option Addr) (ts : List Tg) : Prop := Lies w A (flat ts)
section
variable {w w' : World} {A : Option Addr} {ts : List Tg}
theorem Tags.nil : Tags w A [] := Lies.nil
theorem Tags.keep (h : Tags w A ts) (hb : Below w.heap.size w w') : Tags w' A ts := Lies.keep h hb
theorem Tags.at_ {i : Nat} (h : Tags w A ts) (hi : i < ts.length) : ∃ b off, A = some ⟨b, off, none⟩ ∧ w.cell? ⟨b, off + i * 2, none⟩ = some (.string ⟨ts[i].1.toArray⟩) ∧ w.cell? ⟨b, off + i * 2 + 1, none⟩ = some (.string ⟨ts[i].2.toArray⟩) := by
  obtain ⟨b, off, e, h0⟩ := h (i * 2) _ (by rw [flat_get0, List.getElem?_eq_getElem hi]; rfl)
  obtain ⟨b', off', e', h1⟩ := h (i * 2 + 1) _ (by rw [flat_get1, List.getElem?_eq_getElem hi]; rfl)
  rw [e] at e'
  injection e' with e'
  injection e' with e1 e2
  subst e1 e2
  exact ⟨b, off, e, h0, h1⟩
theorem Tags.some_ (h : Tags w A ts) (hi : 0 < ts.length) : ∃ b off, A = some ⟨b, off, none⟩ ∧ b < w.heap.size := by
  obtain ⟨b, off, e, h0, _⟩ := h.at_ hi
  exact ⟨b, off, e, cell_lt h0⟩
/-- The cells of all tags, at a slice whose place is known. -/
theorem Tags.cells {b off : Nat} (h : Tags w (some ⟨b, off, none⟩) ts) {i : Nat} (hi : i < ts.length) : w.cell? ⟨b, off + i * 2, none⟩ = some (.string ⟨ts[i].1.toArray⟩) ∧ w.cell? ⟨b, off + i * 2 + 1, none⟩ = some (.string ⟨ts[i].2.toArray⟩) := by
  obtain ⟨b', off', e, h0, h1⟩ := h.at_ hi
  injection e with e
  injection e with e1 e2
  subst e1 e2
  exact ⟨h0, h1⟩
theorem Tags.of_own {base n cap : Nat} (h : w.ownsRow base 47 2 (.slice A n cap) n (flat ts)) : Tags w A ts := Lies.of_own h
theorem Tags.take (h : Tags w A ts) (k : Nat) : Tags w A (ts.take k) := by unfold Tags; rw [flat_take]; exact Lies.take h _
end

section
variable {w w' : World} {base base' size n p : Nat} {e : TypeId} {v : Value} {xs : List Value}
theorem own_base (h : w.ownsRow base e size v n xs) (hb : base' ≤ base) : w.ownsRow base' e size v n xs := by
  refine ⟨h.1, ?_⟩
  rcases h.2 with h2 | ⟨g, cap, cur, hv, hg, r⟩
  · exact .inl h2
  · exact .inr ⟨g, cap, cur, hv, Nat.le_trans hb hg, r⟩
theorem own_lt {g : Nat} {cur : Array Value} (h : w.heap[g]? = some (.cells cur e (0, 0))) : g < w.heap.size := by
  rcases Nat.lt_or_ge g w.heap.size with hlt | hge
  · exact hlt
  · rw [Array.getElem?_eq_none hge] at h; cases h
theorem own_keep (h : w.ownsRow base e size v n xs) (hb : Below w.heap.size w w') : w'.ownsRow base e size v n xs := by
  refine ⟨h.1, ?_⟩
  rcases h.2 with h2 | ⟨g, cap, cur, hv, hg, hh, r⟩
  · exact .inl h2
  · exact .inr ⟨g, cap, cur, hv, hg, (hb.block g (own_lt hh)).trans hh, r⟩
theorem own_slice (h : w.ownsRow base e size v n xs) : ∃ A cap, v = .slice A n cap ∧ n ≤ cap ∧ cap ≤ maxLen ∧ (A = none → cap = 0 ∧ n = 0) ∧ ∀ x, A = some x → base ≤ x.block ∧ x.block < w.heap.size ∧ x = ⟨x.block, 0, none⟩ := by
  rcases h.2 with ⟨rfl, rfl⟩ | ⟨g, cap, cur, rfl, hg, hh, h1, h2, _⟩
  · exact ⟨none, 0, rfl, Nat.le_refl _, Nat.zero_le _, fun _ => ⟨rfl, rfl⟩, fun x hx => by cases hx⟩
  · exact ⟨_, cap, rfl, h1, h2, (fun hx => by cases hx), (fun x hx => by injection hx with hx; subst hx; exact ⟨hg, own_lt hh, rfl⟩)⟩
end

section
variable (w : World)
theorem info_tag : ∃ i, Try.prog.info? 47 = some i ∧ i.zero = some (.agg #[.string ⟨#[]⟩, .string ⟨#[]⟩]) ∧ i.size = 2 ∧ i.bytes = 32 := by
  obtain ⟨i, h1, h2, h3, h4⟩ := info_parts (P := Try.prog) (e := 47) (z := .agg #[.string ⟨#[]⟩, .string ⟨#[]⟩]) (size := 2) (bytes := 32) (by kernel_rfl)
  exact ⟨i, h1, h2, h3, h4⟩

set_option maxRecDepth 100000 in
theorem run_append_tags (base : Nat) (ty : TypeId) (v : Value) (n : Nat) (ts : List Tg) (hown : w.ownsRow base 47 2 v n (flat ts))
    (A : Option Addr) (m c : Nat) (us : List Tg) (hl : us.length = m) (hv : Tags w A us) (hfit : n + m ≤ 1000000) (hbase : base ≤ w.heap.size) :
    ∃ v' w', (Builtin.append_ #[23, 23] ty #[v, .slice A m c]).run Try.prog w = .ok v' w' ∧ w'.ownsRow base 47 2 v' (n + m) (flat (ts ++ us)) ∧ w.grownBy w' v.ownBlock ∧
      (v'.ownBlock = v.ownBlock ∨ v'.ownBlock = some w.heap.size) := by
  obtain ⟨i, hi, hz, hs1, hb1⟩ := info_tag
  have go : ∀ a : Addr, (∀ j u, (flat us)[j]? = some u → w.cell? (a.add j) = some u) → ∃ v' w', (Builtin.append_ #[23, 23] ty #[v, .slice (some a) m c]).run Try.prog w = .ok v' w' ∧ w'.ownsRow base 47 2 v' (n + m) (flat (ts ++ us)) ∧ w.grownBy w' v.ownBlock ∧
      (v'.ownBlock = v.ownBlock ∨ v'.ownBlock = some w.heap.size) := by
    intro a ha
    obtain ⟨v', w', hr, h2, h3, _, h5⟩ := run_append_own_at (P := Try.prog) w base 23 ty 47 _ (.agg #[.string ⟨#[]⟩, .string ⟨#[]⟩]) 2 32 Try.underlying23 hi hz hs1 hb1 rfl (by omega) v n (flat ts) hown a m c (flat us) (by rw [flat_length]; omega) ha flat_cells (by unfold maxLen; omega) (by omega) hbase
    rw [flat_append]
    exact ⟨v', w', hr, h2, h3, h5⟩
  rcases A with _ | a
  · have h0 : us = [] := by
      rcases us with _ | ⟨u, us⟩
      · rfl
      · obtain ⟨b, off, e, _⟩ := hv 0 _ rfl
        cases e
    subst h0
    have hm : m = 0 := by simpa using hl.symm
    subst hm
    refine ⟨v, w, ?_, by simpa using hown, World.grownBy.refl w _, .inl rfl⟩
    rcases hown.2 with ⟨rfl, rfl⟩ | ⟨g, cap, cur, rfl, _, _, hnc, _⟩
    · simp [Builtin.append_, run_underlying Try.underlying23, sizeOf, typeInfo, hi, Builtin.lenOf, Builtin.firstCells]
    · simp [Builtin.append_, run_underlying Try.underlying23, sizeOf, typeInfo, hi, Builtin.lenOf, Builtin.firstCells, hnc, storeCells]
  · refine go a fun j u hu => ?_
    obtain ⟨b, off, e, hc⟩ := hv j u hu
    injection e with e
    subst e
    rcases Nat.eq_zero_or_pos j with rfl | hj
    · simpa [Addr.add] using hc
    · simpa [Addr.add, Nat.ne_of_gt hj] using hc

theorem wpList_append_tags {ops : Array Oper} {rest : List Oper} {o : Oper} {a : Act} {Q : Exit → Act → World → Prop} (hgd : o.guard = none) (s x : Operand)
    (ho : o.op = .call { callee := .builtin .append, args := #[s, x], argTypes := #[23, 23] })
    (base : Nat) (v : Value) (n : Nat) (ts : List Tg) (hs : a.eval s = v) (hown : w.ownsRow base 47 2 v n (flat ts))
    (A : Option Addr) (m c : Nat) (us : List Tg) (hx : a.eval x = .slice A m c) (hl : us.length = m) (hv : Tags w A us)
    (hfit : n + m ≤ 1000000) (hbase : base ≤ w.heap.size)
    (h : ∀ v' w', w'.ownsRow base 47 2 v' (n + m) (flat (ts ++ us)) → w.grownBy w' v.ownBlock → (v'.ownBlock = v.ownBlock ∨ v'.ownBlock = some w.heap.size) → wpList Try.prog ops Q rest (a.put o.dst v') w') :
    wpList Try.prog ops Q (o :: rest) a w := by
  refine wpList_plain hgd fun K hK => ?_
  obtain ⟨v', w', hr, h2, h3, h4⟩ := run_append_tags w base o.type v n ts hown A m c us hl hv hfit hbase
  unfold Oper.wp execOp
  simp only [ho, resolve, invoke, builtin, Sem.run_bind, Sem.run_pure, Result.andThen_ok, List.map_toArray, List.map_cons, List.map_nil, hs, hx, hr]
  exact hK _ _ (h v' w' h2 h3 h4)

/-- The same append as a step of a region that draws its order. -/
theorem step_append_tags {ops : Array Oper} {o : Oper} {a : Act} {K : Act → World → Prop} {Q : Exit → Act → World → Prop} {E : Prop} (hgd : o.guard = none) (s x : Operand)
    (ho : o.op = .call { callee := .builtin .append, args := #[s, x], argTypes := #[23, 23] })
    (base : Nat) (v : Value) (n : Nat) (ts : List Tg) (hs : a.eval s = v) (hown : w.ownsRow base 47 2 v n (flat ts))
    (A : Option Addr) (m c : Nat) (us : List Tg) (hx : a.eval x = .slice A m c) (hl : us.length = m) (hv : Tags w A us)
    (hfit : n + m ≤ 1000000) (hbase : base ≤ w.heap.size)
    (h : ∀ v' w', w'.ownsRow base 47 2 v' (n + m) (flat (ts ++ us)) → w.grownBy w' v.ownBlock → (v'.ownBlock = v.ownBlock ∨ v'.ownBlock = some w.heap.size) → K (a.put o.dst v') w') :
    if Region.wanted o (yielded ops a.tmps) = true then Oper.wp Try.prog o a w K Q else E := by
  have hw : Region.wanted o (yielded ops a.tmps) = true := by simp [Region.wanted, hgd]
  rw [if_pos hw]
  obtain ⟨v', w', hr, h2, h3, h4⟩ := run_append_tags w base o.type v n ts hown A m c us hl hv hfit hbase
  unfold Oper.wp execOp
  simp only [ho, resolve, invoke, builtin, Sem.run_bind, Sem.run_pure, Result.andThen_ok, List.map_toArray, List.map_cons, List.map_nil, hs, hx, hr]
  exact h v' w' h2 h3 h4

/-- One tag, laid in a block of its own. -/
theorem tags_one {s t : ByteArray} {k v : List UInt8} (hs : Str s k) (ht : Str t v) : Tags (w.alloc (.cells #[.string s, .string t] 47)) (some ⟨w.heap.size, 0, none⟩) [(k, v)] := by
  rw [hs.eq, ht.eq]
  intro i u hu
  refine ⟨w.heap.size, 0, rfl, ?_⟩
  have := (Box.new w 47 [.string ⟨k.toArray⟩, .string ⟨v.toArray⟩]).cell i
  rw [Nat.zero_add, this]
  exact hu
theorem tags_at {s t : ByteArray} {x : Tg} {n : Nat} (hn : w.heap.size = n) (hs : Str s x.1) (ht : Str t x.2) : Tags (w.alloc (.cells #[.string s, .string t] 47)) (some ⟨n, 0, none⟩) [x] := by
  subst hn; exact tags_one w hs ht
theorem own_empty : (w.alloc (.cells #[] 47)).ownsRow w.heap.size 47 2 (.slice (some ⟨w.heap.size, 0, none⟩) 0 0) 0 (flat []) :=
  ⟨rfl, .inr ⟨w.heap.size, 0, #[], rfl, Nat.le_refl _, Box.new w 47 [], by omega, by unfold maxLen; omega, rfl, rfl⟩⟩
theorem own_nil (base : Nat) : w.ownsRow base 47 2 (.slice none 0 0) 0 (flat []) := ⟨rfl, .inl ⟨rfl, rfl⟩⟩
end
end Go.Proofs.Yteffankkelbhiaa

/-
  Package tag: Less and order, and how two tags are compared. No statement of the seat is proved here.
-/
namespace Go.Proofs.Yteffankkelbhiaa
open Go.RowKit Go.Sort

theorem str_less {a b : ByteArray} {k l : List UInt8} (h : Str a k) (g : Str b l) : Op.bytesLess a.toList b.toList = ltB k l := by rw [h.toList, g.toList]; rfl
theorem str_eq {a b : ByteArray} {k l : List UInt8} (h : Str a k) (g : Str b l) : (a.toList == b.toList) = (k == l) := by rw [h.toList, g.toList]

section
variable {a b c d : ByteArray} {x y : Tg}
theorem teq_is (ha : Str a x.1) (hb : Str b x.2) (hc : Str c y.1) (hd : Str d y.2) : (if (a.toList == c.toList) = true then (if (b.toList == d.toList) = true then true else false) else false) = decide (x = y) := by
  rw [ha.toList, hb.toList, hc.toList, hd.toList]
  obtain ⟨x1, x2⟩ := x
  obtain ⟨y1, y2⟩ := y
  by_cases h1 : x1 = y1 <;> by_cases h2 : x2 = y2 <;> simp [h1, h2]
theorem teq_in (ha : Str a x.1) (hb : Str b x.2) (hc : Str c y.1) (hd : Str d y.2) (w : World) : (Op.equalIn 10000 47 (.agg #[.string a, .string b]) (.agg #[.string c, .string d])).run Try.prog w = .ok (decide (x = y)) w := by
  have u9 := Try.underlying9
  have a9 := Try.isAgg9
  have z9 := Try.sizeOf9
  have hS : Try.prog.underlying 47 = some (.struct (Try.prog.fieldsOf 47)) := by kernel_rfl
  have hp : Try.prog.stoodInHeld 47 = false := by kernel_rfl
  rw [show (10000 : Nat) = 9999 + 1 from rfl, run_equalIn_agg w 9999 47 _ _ hS hp]
  simp only [Program.fieldsOf, Try.underlying47]
  go_simp
  rw [← teq_is ha hb hc hd]
  by_cases h1 : a.toList = c.toList <;> by_cases h2 : b.toList = d.toList <;> simp [h1, h2]
theorem teq_run (ha : Str a x.1) (hb : Str b x.2) (hc : Str c y.1) (hd : Str d y.2) {q : Bool} (hq : decide (x = y) = q) (w : World) : (binOp .eql 47 (.agg #[.string a, .string b]) (.agg #[.string c, .string d])).run Try.prog w = .ok (.bool q) w := by
  rw [run_eql_struct, teq_in ha hb hc hd, hq]; rfl
theorem tne_run (ha : Str a x.1) (hb : Str b x.2) (hc : Str c y.1) (hd : Str d y.2) {q : Bool} (hq : decide (x = y) = q) (w : World) : (binOp .neq 47 (.agg #[.string a, .string b]) (.agg #[.string c, .string d])).run Try.prog w = .ok (.bool (!q)) w := by
  rw [run_neq_struct, teq_in ha hb hc hd, hq]; rfl
theorem tguard (op : BinOp) (p q : Operand) (xs ys : Array Value) (w : World) : (eqGuard op 47 p q (.agg xs) (.agg ys)).run Try.prog w = .ok () w := run_eqGuard_agg w op _ p q xs ys (by kernel_rfl)
end

/-- Only blocks were laid, and draws made. -/
def Grown (w w' : World) : Prop := ∃ q os, w' = grow (w.drewN q) os
section
variable {w w1 w2 : World}
theorem Grown.refl (w : World) : Grown w w := ⟨0, #[], by simp; rfl⟩
theorem Grown.drewN (h : Grown w w1) (n : Nat) : Grown w (w1.drewN n) := by
  obtain ⟨q, os, rfl⟩ := h
  exact ⟨q + n, os, by show grow ((w.drewN q).drewN n) os = _; rw [World.drewN_drewN]⟩
theorem Grown.alloc (h : Grown w w1) (o : Obj) : Grown w (w1.alloc o) := by
  obtain ⟨q, os, rfl⟩ := h
  exact ⟨q, os ++ #[o], by rw [alloc_eq_grow, grow_grow]⟩
theorem Grown.trans (h : Grown w w1) (k : Grown w1 w2) : Grown w w2 := by
  obtain ⟨q, os, rfl⟩ := h
  obtain ⟨p, os', rfl⟩ := k
  exact ⟨q + p, os ++ os', by show grow (grow ((w.drewN q).drewN p) os) os' = _; rw [grow_grow, World.drewN_drewN]⟩
theorem Grown.below (h : Grown w w1) : Below w.heap.size w w1 := by
  obtain ⟨q, os, rfl⟩ := h
  exact ⟨rfl, rfl, rfl, by simp [grow, World.drewN], fun k hk => by rw [heap_grow_old _ _ (by exact hk)]; rfl⟩
end

/-- Where Less stands: both tags lie. -/
structure LAt (w : World) (s t u v : ByteArray) (w' : World) : Prop where
  grown : Grown w w'
  one : Box w' w.heap.size 47 [.string s, .string t]
  two : Box w' (w.heap.size + 1) 47 [.string u, .string v]
section
variable {w w1 w2 : World} {s t u v : ByteArray}
theorem LAt.next (h : LAt w s t u v w1) (k : Grown w1 w2) : LAt w s t u v w2 := ⟨h.grown.trans k, h.one.keep k.below, h.two.keep k.below⟩
theorem LAt.start (w : World) (s t u v : ByteArray) : LAt w s t u v ((w.alloc (.cells #[.string s, .string t] 47)).alloc (.cells #[.string u, .string v] 47)) :=
  ⟨((Grown.refl w).alloc _).alloc _, (Box.new w 47 [_, _]).alloc _, by have := Box.new (w.alloc (.cells #[.string s, .string t] 47)) 47 [.string u, .string v]; rwa [size_alloc] at this⟩
theorem LAt.cells (h : LAt w s t u v w1) : w1.cell? ⟨w.heap.size, 0, none⟩ = some (.string s) ∧ w1.cell? ⟨w.heap.size, 1, none⟩ = some (.string t) ∧ w1.cell? ⟨w.heap.size + 1, 0, none⟩ = some (.string u) ∧ w1.cell? ⟨w.heap.size + 1, 1, none⟩ = some (.string v) ∧ LAt w s t u v w1 :=
  ⟨h.one.cell 0, h.one.cell 1, h.two.cell 0, h.two.cell 1, h⟩
theorem LAt.of {P1 P2 P3 P4 : Prop} (h : P1 ∧ P2 ∧ P3 ∧ P4 ∧ LAt w s t u v w1) : LAt w s t u v w1 := h.2.2.2.2
theorem LAt.drew (h : LAt w s t u v w1) : LAt w s t u v w1.drew := h.next ((Grown.refl w1).drewN 1)
end

end Go.Proofs.Yteffankkelbhiaa
