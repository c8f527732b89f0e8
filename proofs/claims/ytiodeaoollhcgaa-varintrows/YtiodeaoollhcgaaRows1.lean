/-
  Rows of bytes: a slice that reads as a list, an append of one onto a row of our own, bytes.Clone. No statement of the seat is proved here.
-/
import Derived.Test.YtiodeaoollhcgaaChecked
import Derived.Test.YtiodeaoollhcgaaMem
import Derived.Maps.AppendAt
namespace Go.Proofs.Ytiodeaoollhcgaa
open Go.RowKit

/-- The slice at A holds these values, one behind the other. -/
def Lies (w : World) (A : Option Addr) (vs : List Value) : Prop :=
  ∀ i u, vs[i]? = some u → ∃ b off, A = some ⟨b, off, none⟩ ∧ w.cell? ⟨b, off + i, none⟩ = some u

/-- Bytes as values. -/
def by8 (bs : List Int) : List Value := bs.map (.int .u8)

section
variable {w w' : World} {A : Option Addr} {vs : List Value} {bs : List Int}

theorem cell_lt {a : Addr} {u : Value} (h : w.cell? a = some u) : a.block < w.heap.size := by
  unfold World.cell? at h
  rcases Nat.lt_or_ge a.block w.heap.size with hlt | hge
  · exact hlt
  · rw [Array.getElem?_eq_none hge] at h; simp at h

theorem Lies.nil : Lies w A [] := fun i u h => by simp at h
theorem Lies.keep (h : Lies w A vs) (hb : Below w.heap.size w w') : Lies w' A vs := fun i u hu => by
  obtain ⟨b, off, e, hc⟩ := h i u hu
  exact ⟨b, off, e, (hb.cell (p := ⟨b, off + i, none⟩) (cell_lt hc)).trans hc⟩
theorem Lies.same (h : Lies w A vs) (hs : Same w w') : Lies w' A vs := h.keep hs.below
theorem Lies.but {p : Nat} {t : TypeId} {cs : List Value} (h : Lies w A vs) (hb : But p w w') (hp : Box w p t cs) (hd : ∀ u ∈ vs, u ∉ cs) : Lies w' A vs := fun i u hu => by
  obtain ⟨b, off, e, hc⟩ := h i u hu
  refine ⟨b, off, e, ?_⟩
  have hne : b ≠ p := by
    rintro rfl
    rw [hp.cell] at hc
    exact hd u (List.mem_of_getElem? hu) (List.mem_of_getElem? hc)
  have hl : b < w.heap.size := cell_lt hc
  exact (World.cell?_of_block (a := ⟨b, off + i, none⟩) (hb.block b hl hne)).trans hc
theorem Lies.at_ {i : Nat} (h : Lies w A vs) (hi : i < vs.length) : ∃ b off, A = some ⟨b, off, none⟩ ∧ w.cell? ⟨b, off + i, none⟩ = some vs[i] :=
  h i _ (List.getElem?_eq_getElem hi)

theorem by8_length : (by8 bs).length = bs.length := by simp [by8]
theorem by8_get {i : Nat} : (by8 bs)[i]? = bs[i]?.map (.int .u8) := by simp [by8]
theorem by8_one : ∀ u ∈ by8 bs, u.oneCell' = true := by
  intro u hu
  simp only [by8, List.mem_map] at hu
  obtain ⟨z, _, rfl⟩ := hu
  rfl
theorem by8_append (xs ys : List Int) : by8 (xs ++ ys) = by8 xs ++ by8 ys := by simp [by8]

/-- An owned row reads as what it holds. -/
theorem Lies.of_own {base n cap : Nat} {e : TypeId} (h : w.ownsRow base e 1 (.slice A n cap) n vs) : Lies w A vs := by
  rcases h.2 with ⟨hv, hn⟩ | ⟨g, cap', cur, hv, hg, hh, hnc, hcm, hcs, htake⟩
  · have : vs = [] := List.eq_nil_of_length_eq_zero (by rw [h.1, hn])
    subst this
    exact .nil
  · injection hv with hA _ _
    subst hA
    intro i u hu
    refine ⟨g, 0, rfl, ?_⟩
    have : cur[i]? = some u := by
      rw [← htake] at hu
      have := List.getElem?_take (l := cur.toList) (i := n * 1) (j := i)
      rw [this] at hu
      split at hu
      · simpa using hu
      · cases hu
    simp [World.cell?, hh, this]
end

section
variable {w w' : World} {base base' size n p : Nat} {e : TypeId} {v : Value} {xs : List Value}
theorem own_base (h : w.ownsRow base e size v n xs) (hb : base' ≤ base) : w.ownsRow base' e size v n xs := by
  refine ⟨h.1, ?_⟩
  rcases h.2 with h2 | ⟨g, cap, cur, hv, hg, r⟩
  · exact .inl h2
  · exact .inr ⟨g, cap, cur, hv, Nat.le_trans hb hg, r⟩
theorem own_lt {g : Nat} {cur : Array Value} (h : w.heap[g]? = some (.cells cur e (0, 0))) : g < w.heap.size := by
  rcases Nat.lt_or_ge g w.heap.size with hlt | hge
  · exact hlt
  · rw [Array.getElem?_eq_none hge] at h; cases h
theorem own_keep (h : w.ownsRow base e size v n xs) (hb : Below w.heap.size w w') : w'.ownsRow base e size v n xs := by
  refine ⟨h.1, ?_⟩
  rcases h.2 with h2 | ⟨g, cap, cur, hv, hg, hh, r⟩
  · exact .inl h2
  · exact .inr ⟨g, cap, cur, hv, hg, (hb.block g (own_lt hh)).trans hh, r⟩
theorem own_but (h : w.ownsRow base e size v n xs) (hb : But p w w') (hp : v.ownBlock ≠ some p) : w'.ownsRow base e size v n xs := by
  refine ⟨h.1, ?_⟩
  rcases h.2 with h2 | ⟨g, cap, cur, rfl, hg, hh, r⟩
  · exact .inl h2
  · exact .inr ⟨g, cap, cur, rfl, hg, (hb.block g (own_lt hh) (fun e => hp (by subst e; rfl))).trans hh, r⟩
theorem own_but_lt (h : w.ownsRow base e size v n xs) (hb : But p w w') (hp : p < base) : w'.ownsRow base e size v n xs := by
  refine ⟨h.1, ?_⟩
  rcases h.2 with h2 | ⟨g, cap, cur, rfl, hg, hh, r⟩
  · exact .inl h2
  · exact .inr ⟨g, cap, cur, rfl, hg, (hb.block g (own_lt hh) (by omega)).trans hh, r⟩
end

section
variable {w w' : World} {base n cap k : Nat} {e : TypeId} {A : Option Addr} {xs : List Value}
/-- An owned row with an element: where it lies. -/
theorem own_form (h : w.ownsRow base e 1 (.slice A n cap) n xs) (hk : k < n) : ∃ g cur, A = some ⟨g, 0, none⟩ ∧ base ≤ g ∧ w.heap[g]? = some (.cells cur e (0, 0)) ∧ n ≤ cap ∧ cap ≤ maxLen ∧ cur.size = cap ∧ cur.toList.take n = xs := by
  rcases h.2 with ⟨_, h0⟩ | ⟨g, cap', cur, hv, hg, hh, h1, h2, h3, h4⟩
  · omega
  · injection hv with e1 _ e3
    subst e3
    exact ⟨g, cur, e1, hg, hh, h1, h2, by simpa using h3, by simpa using h4⟩
theorem own_slice {v : Value} (h : w.ownsRow base e 1 v n xs) : ∃ A cap, v = .slice A n cap ∧ n ≤ cap ∧ cap ≤ maxLen ∧ (A = none → cap = 0) ∧ ∀ x, A = some x → base ≤ x.block := by
  rcases h.2 with ⟨rfl, rfl⟩ | ⟨g, cap, cur, rfl, hg, _, h1, h2, _⟩
  · exact ⟨none, 0, rfl, Nat.le_refl _, Nat.zero_le _, fun _ => rfl, fun x hx => by cases hx⟩
  · exact ⟨_, cap, rfl, h1, h2, (fun hx => by cases hx), (fun x hx => by injection hx with hx; subst hx; exact hg)⟩
theorem own_frozen {g i : Nat} {cur : Array Value} (h : w.heap[g]? = some (.cells cur e (0, 0))) : w.frozen? ⟨g, i, none⟩ = false := by
  simp [World.frozen?, h]
/-- A store into an owned row. -/
theorem own_set {g : Nat} (h : w.ownsRow base e 1 (.slice (some ⟨g, 0, none⟩) n cap) n xs) (hk : k < n) (u : Value) : (w.setCell ⟨g, k, none⟩ u).ownsRow base e 1 (.slice (some ⟨g, 0, none⟩) n cap) n (xs.set k u) := by
  obtain ⟨g', cur, e1, hg, hh, h1, h2, h3, h4⟩ := own_form h hk
  injection e1 with e1
  injection e1 with e1
  subst e1
  refine ⟨by rw [List.length_set]; exact h.1, .inr ⟨g, cap, cur.setIfInBounds k u, rfl, hg, ?_, h1, h2, by simpa using h3, ?_⟩⟩
  · simp [World.setCell, Array.getElem?_modify, hh]
  · rw [Array.toList_setIfInBounds, Nat.mul_one, ← h4, List.take_set]
end

/-- Where a cut of a slice begins: at its end it keeps the old place. -/
def cutA (A : Option Addr) (cap l : Nat) : Option Addr := if cap = l then A else A.map (·.add l)

theorem Lies.cut {w : World} {A : Option Addr} {vs : List Value} (h : Lies w A vs) (cap l m : Nat) (hl : l + m ≤ vs.length) (hc : vs.length ≤ cap) : Lies w (cutA A cap l) ((vs.drop l).take m) := by
  intro i u hu
  have hi : i < m := by
    rcases Nat.lt_or_ge i m with h' | h'
    · exact h'
    · rw [List.getElem?_take] at hu; rw [if_neg (by omega)] at hu; cases hu
  rw [List.getElem?_take, if_pos hi, List.getElem?_drop] at hu
  obtain ⟨b, off, rfl, hcell⟩ := h _ u hu
  refine ⟨b, off + l, ?_, by rw [Nat.add_assoc]; exact hcell⟩
  unfold cutA
  rw [if_neg (by omega)]
  by_cases h0 : l = 0
  · subst h0; rfl
  · simp [Addr.add, h0]
theorem cutA_nil {A : Option Addr} {cap l : Nat} (h : A = none → cap = 0) : cutA A cap l = none → cap - l = 0 := by
  unfold cutA
  split
  · intro _; omega
  · intro hn
    rcases A with _ | a
    · rw [h rfl]; omega
    · cases hn

section
variable (w : World)

theorem run_slice_from_to (A : Option Addr) (n cap l m : Nat) (h : l + m ≤ cap) :
    (Instr.slice 23 (.slice A n cap) (some (.int .i64 l)) (some (.int .i64 (l + m))) none).run Try.prog w = .ok (.slice (cutA A cap l) m (cap - l)) w := by
  obtain ⟨i, hi, _, hs1, _⟩ := info_parts (P := Try.prog) (e := 5) (z := .int .u8 0) (size := 1) (bytes := 1) (by kernel_rfl)
  have e1 : ((l : Int) + (m : Int)).toNat = l + m := by omega
  have e2 := run_sliceBound (P := Try.prog) w .i64 (l : Int) (l + m) .sliceB (by omega) (by omega)
  simp [Instr.slice, run_underlying Try.underlying23, Instr.sliceBounds, run_sliceBound, sizeOf, typeInfo, hi, hs1, (by omega : (0:Int) ≤ (l : Int) + m), (by omega : (l : Int) + m ≤ cap), e1, e2, cutA]

theorem run_slice_from (A : Option Addr) (n cap l : Nat) (h : l ≤ n) :
    (Instr.slice 23 (.slice A n cap) (some (.int .i64 l)) none none).run Try.prog w = .ok (.slice (cutA A cap l) (n - l) (cap - l)) w := by
  obtain ⟨i, hi, _, hs1, _⟩ := info_parts (P := Try.prog) (e := 5) (z := .int .u8 0) (size := 1) (bytes := 1) (by kernel_rfl)
  simp [Instr.slice, run_underlying Try.underlying23, Instr.sliceBounds, run_sliceBound, sizeOf, typeInfo, hi, hs1, (by omega : (l : Int) ≤ n), cutA]

theorem info_u8 : ∃ i, Try.prog.info? 5 = some i ∧ i.zero = some (.int .u8 0) ∧ i.size = 1 ∧ i.bytes = 1 := by
  obtain ⟨i, h1, h2, h3, h4⟩ := info_parts (P := Try.prog) (e := 5) (z := .int .u8 0) (size := 1) (bytes := 1) (by kernel_rfl)
  exact ⟨i, h1, h2, h3, h4⟩

theorem run_append_row (base : Nat) (ty : TypeId) (v : Value) (n : Nat) (xs : List Value) (hown : w.ownsRow base 5 1 v n xs)
    (A : Option Addr) (m c : Nat) (vs : List Value) (hl : vs.length = m) (hv : Lies w A vs) (h1 : ∀ u ∈ vs, u.oneCell' = true) (hfit : n + m ≤ 140737488355328) (hbase : base ≤ w.heap.size) :
    ∃ v' w', (Builtin.append_ #[23, 23] ty #[v, .slice A m c]).run Try.prog w = .ok v' w' ∧ w'.ownsRow base 5 1 v' (n + m) (xs ++ vs) ∧ w.grownBy w' v.ownBlock ∧
      (v'.ownBlock = v.ownBlock ∨ v'.ownBlock = some w.heap.size) := by
  obtain ⟨i, hi, hz, hs1, hb1⟩ := info_u8
  have go : ∀ a : Addr, (∀ j u, vs[j]? = some u → w.cell? (a.add j) = some u) → ∃ v' w', (Builtin.append_ #[23, 23] ty #[v, .slice (some a) m c]).run Try.prog w = .ok v' w' ∧ w'.ownsRow base 5 1 v' (n + m) (xs ++ vs) ∧ w.grownBy w' v.ownBlock ∧
      (v'.ownBlock = v.ownBlock ∨ v'.ownBlock = some w.heap.size) := by
    intro a ha
    obtain ⟨v', w', hr, h2, h3, _, h5⟩ := run_append_own_at (P := Try.prog) w base 23 ty 5 _ (.int .u8 0) 1 1 Try.underlying23 hi hz hs1 hb1 rfl (by omega) v n xs hown a m c vs (by omega) ha h1 (by unfold maxLen; omega) (by omega) hbase
    exact ⟨v', w', hr, h2, h3, h5⟩
  rcases A with _ | a
  · have h0 : vs = [] := by
      rcases vs with _ | ⟨u, vs⟩
      · rfl
      · obtain ⟨b, off, e, _⟩ := hv 0 u rfl
        cases e
    subst h0
    have hm : m = 0 := by simpa using hl.symm
    subst hm
    refine ⟨v, w, ?_, by simpa using hown, World.grownBy.refl w _, .inl rfl⟩
    rcases hown.2 with ⟨rfl, rfl⟩ | ⟨g, cap, cur, rfl, _, _, hnc, _⟩
    · simp [Builtin.append_, run_underlying Try.underlying23, sizeOf, typeInfo, hi, Builtin.lenOf, Builtin.firstCells]
    · simp [Builtin.append_, run_underlying Try.underlying23, sizeOf, typeInfo, hi, Builtin.lenOf, Builtin.firstCells, hnc, storeCells]
  · refine go a fun j u hu => ?_
    obtain ⟨b, off, e, hc⟩ := hv j u hu
    injection e with e
    subst e
    rcases Nat.eq_zero_or_pos j with rfl | hj
    · simpa [Addr.add] using hc
    · simpa [Addr.add, Nat.ne_of_gt hj] using hc

theorem wpList_append_row {ops : Array Oper} {rest : List Oper} {o : Oper} {a : Act} {Q : Exit → Act → World → Prop} (hgd : o.guard = none) (s x : Operand)
    (ho : o.op = .call { callee := .builtin .append, args := #[s, x], argTypes := #[23, 23] })
    (base : Nat) (v : Value) (n : Nat) (xs : List Value) (hs : a.eval s = v) (hown : w.ownsRow base 5 1 v n xs)
    (A : Option Addr) (m c : Nat) (vs : List Value) (hx : a.eval x = .slice A m c) (hl : vs.length = m) (hv : Lies w A vs) (h1 : ∀ u ∈ vs, u.oneCell' = true)
    (hfit : n + m ≤ 140737488355328) (hbase : base ≤ w.heap.size)
    (h : ∀ v' w', w'.ownsRow base 5 1 v' (n + m) (xs ++ vs) → w.grownBy w' v.ownBlock → (v'.ownBlock = v.ownBlock ∨ v'.ownBlock = some w.heap.size) → wpList Try.prog ops Q rest (a.put o.dst v') w') :
    wpList Try.prog ops Q (o :: rest) a w := by
  refine wpList_plain hgd fun K hK => ?_
  obtain ⟨v', w', hr, h2, h3, h4⟩ := run_append_row w base o.type v n xs hown A m c vs hl hv h1 hfit hbase
  unfold Oper.wp execOp
  simp only [ho, resolve, invoke, builtin, Sem.run_bind, Sem.run_pure, Result.andThen_ok, List.map_toArray, List.map_cons, List.map_nil, hs, hx, hr]
  exact hK _ _ (h v' w' h2 h3 h4)

theorem lies_one (y : Int) {n : Nat} (hn : w.heap.size = n) : Lies (w.alloc (.cells #[.int .u8 y] 5)) (some ⟨n, 0, none⟩) (by8 [y]) := by
  subst hn
  intro i u hu
  refine ⟨w.heap.size, 0, rfl, ?_⟩
  have := (Box.new w 5 [.int .u8 y]).cell i
  rw [Nat.zero_add, this]
  exact hu

/-- The same append as a step of a region that draws its order. -/
theorem step_append_row {ops : Array Oper} {o : Oper} {a : Act} {K : Act → World → Prop} {Q : Exit → Act → World → Prop} {E : Prop} (hgd : o.guard = none) (s x : Operand)
    (ho : o.op = .call { callee := .builtin .append, args := #[s, x], argTypes := #[23, 23] })
    (base : Nat) (v : Value) (n : Nat) (xs : List Value) (hs : a.eval s = v) (hown : w.ownsRow base 5 1 v n xs)
    (A : Option Addr) (m c : Nat) (vs : List Value) (hx : a.eval x = .slice A m c) (hl : vs.length = m) (hv : Lies w A vs) (h1 : ∀ u ∈ vs, u.oneCell' = true)
    (hfit : n + m ≤ 140737488355328) (hbase : base ≤ w.heap.size)
    (h : ∀ v' w', w'.ownsRow base 5 1 v' (n + m) (xs ++ vs) → w.grownBy w' v.ownBlock → (v'.ownBlock = v.ownBlock ∨ v'.ownBlock = some w.heap.size) → K (a.put o.dst v') w') :
    if Region.wanted o (yielded ops a.tmps) = true then Oper.wp Try.prog o a w K Q else E := by
  have hw : Region.wanted o (yielded ops a.tmps) = true := by simp [Region.wanted, hgd]
  rw [if_pos hw]
  obtain ⟨v', w', hr, h2, h3, h4⟩ := run_append_row w base o.type v n xs hown A m c vs hl hv h1 hfit hbase
  unfold Oper.wp execOp
  simp only [ho, resolve, invoke, builtin, Sem.run_bind, Sem.run_pure, Result.andThen_ok, List.map_toArray, List.map_cons, List.map_nil, hs, hx, hr]
  exact h v' w' h2 h3 h4

theorem own_empty : (w.alloc (.cells #[] 5)).ownsRow w.heap.size 5 1 (.slice (some ⟨w.heap.size, 0, none⟩) 0 0) 0 [] :=
  ⟨rfl, .inr ⟨w.heap.size, 0, #[], rfl, Nat.le_refl _, Box.new w 5 [], by omega, by unfold maxLen; omega, rfl, rfl⟩⟩

/-- What Clone, and the like, hand back: a row of the call's own, nothing old changed. -/
def GivesRow (w : World) (vs : List Value) (e : Ending) (w' : World) : Prop :=
  ∃ A cap, e = .returned (.slice A vs.length cap) ∧ w'.ownsRow w.heap.size 5 1 (.slice A vs.length cap) vs.length vs ∧ Below w.heap.size w w'

theorem clone_here (w : World) (A : Option Addr) (cap : Nat) (vs : List Value) (hv : Lies w A vs) (h1 : ∀ u ∈ vs, u.oneCell' = true) (hfit : vs.length ≤ 140737488355328) (hnil : A = none → cap = 0) :
    Calls Try.prog 32 #[.slice A vs.length cap] w (GivesRow w vs) := by
  rcases A with _ | ad
  · have h0 : vs = [] := by
      rcases vs with _ | ⟨u, vs⟩
      · rfl
      · obtain ⟨b, off, e, _⟩ := hv 0 u rfl
        cases e
    subst h0
    obtain rfl := hnil rfl
    have hq := Lib.run_eql_slice_nil (P := Try.prog)
    go_enter Try.func32, Try.ntmps32
    go_wp2
    go_ret
    exact ⟨none, 0, rfl, ⟨rfl, .inl ⟨rfl, rfl⟩⟩, Below.refl _ _⟩
  · have hq := Lib.run_eql_slice_nil (P := Try.prog)
    go_enter Try.func32, Try.ntmps32
    go_wp2_with (at_builtin; refine wpList_append_row _ rfl (.tmp 5) (.tmp 6) rfl w.heap.size _ 0 [] rfl ⟨rfl, .inr ⟨w.heap.size, 0, #[], rfl, Nat.le_refl _, Box.new w 5 [], by omega, by unfold maxLen; omega, rfl, rfl⟩⟩ (some ad) vs.length cap vs rfl rfl (hv.keep ((Below.refl _ _).alloc (Nat.le_refl _) _)) h1 (by omega) (by simp) ?_; intro v' w' hown hgr hob)
    go_ret
    obtain ⟨A', cap', rfl⟩ : ∃ A' cap', v' = .slice A' vs.length cap' := by
      rcases hown.2 with ⟨rfl, h⟩ | ⟨g, cp, cur, rfl, _⟩
      · exact ⟨none, 0, by rw [show vs.length = 0 by omega]⟩
      · exact ⟨some ⟨g, 0, none⟩, cp, by simp⟩
    refine ⟨A', cap', rfl, by simpa using hown, ?_⟩
    exact ((Below.refl _ _).alloc (Nat.le_refl _) _).grown hgr (by simp) (by intro k hk; cases hk; exact Nat.le_refl _)

theorem clone_calls (w : World) (A : Option Addr) (m cap : Nat) (vs : List Value) (hl : vs.length = m) (hv : Lies w A vs) (h1 : ∀ u ∈ vs, u.oneCell' = true) (hfit : m ≤ 140737488355328) (hnil : A = none → cap = 0) :
    Calls Try.prog 32 #[.slice A m cap] w (GivesRow w vs) := by
  subst hl
  exact clone_here w A cap vs hv h1 hfit hnil
end
end Go.Proofs.Ytiodeaoollhcgaa
