/-
  TText, TCheck, TRefLess, TRefNorm. No statement of the seat is proved here.
-/
import Derived.Test.YtmaiggoinjldpaaGreatDoorGrKIs
import Derived.Test.YtmaiggoinjldpaaGreatDoorGrMem
import Derived.Lib.Join
/-
  Tags and their texts, as lists of bytes: which ones are right, their texts, and how a text is cut. Nothing of the program. No statement of the seat is proved here.
-/
namespace Go.Proofs.YtmaiggoinjldpaaGreatDoor

/-- What stands ahead of the first byte c, and what behind it. -/
def cutC (c : UInt8) : List UInt8 → List UInt8 × List UInt8
  | [] => ([], [])
  | b :: r => if b = c then ([], r) else (b :: (cutC c r).1, (cutC c r).2)

theorem cut_no {c : UInt8} : ∀ {l : List UInt8}, c ∉ l → cutC c l = (l, [])
  | [], _ => rfl
  | b :: r, h => by
    simp only [List.mem_cons, not_or] at h
    rw [cutC, if_neg (fun e => h.1 e.symm), cut_no h.2]
theorem cut_at {c : UInt8} : ∀ {a b : List UInt8}, c ∉ a → cutC c (a ++ c :: b) = (a, b)
  | [], b, _ => by rw [List.nil_append, cutC, if_pos rfl]
  | x :: a, b, h => by
    simp only [List.mem_cons, not_or] at h
    rw [List.cons_append, cutC, if_neg (fun e => h.1 e.symm), cut_at h.2]
theorem split_at {l : List UInt8} {i : Nat} (h : i < l.length) : l = l.take i ++ l[i] :: l.drop (i + 1) := by
  rw [List.getElem_cons_drop, List.take_append_drop]
theorem cut_yes {c : UInt8} {l : List UInt8} {i : Nat} (h : i < l.length) (hc : l[i] = c) (hn : c ∉ l.take i) : cutC c l = (l.take i, l.drop (i + 1)) := by
  have e := split_at h
  rw [hc] at e
  have := cut_at (b := l.drop (i + 1)) hn
  rwa [← e] at this
theorem cut_len (c : UInt8) : ∀ l : List UInt8, (cutC c l).1.length ≤ l.length ∧ (cutC c l).2.length ≤ l.length
  | [] => by simp [cutC]
  | b :: r => by
    have := cut_len c r
    rw [cutC]
    split <;> simp <;> omega

/-- A tag is right. -/
def rightT (t : Tg) : Bool := faultOf 2 t.1 1 64 == (0, 0) && faultOf 3 t.2 0 100 == (0, 0)
/-- A tag's text. -/
def txt (t : Tg) : List UInt8 := if t.2 = [] then t.1 else t.1 ++ 58 :: t.2
/-- The tag of a piece; none: it is no text of a right tag. -/
def oneT (p : List UInt8) : Option Tg := if rightT (cutC 58 p) = true ∧ txt (cutC 58 p) = p then some (cutC 58 p) else none

theorem fault_zero {c : Int} {l : List UInt8} {lo hi : Int} (h : faultOf c l lo hi = (0, 0)) : lo ≤ l.length ∧ (l.length : Int) ≤ hi ∧ ∀ x ∈ l, isOf c x.toNat = true := by
  unfold faultOf at h
  split at h
  · cases h
  · split at h
    · cases h
    · split at h
      · cases h
      · split at h
        · cases h
        · rename_i h1 h2 h3 h4
          refine ⟨by omega, by omega, ?_⟩
          rcases bad_cases c l with ⟨k, hk, e, _⟩ | ⟨_, ha⟩
          · omega
          · intro x hx
            obtain ⟨i, hi, rfl⟩ := List.mem_iff_getElem.1 hx
            exact ha i hi
theorem right_parts {t : Tg} (h : rightT t = true) : (1 ≤ t.1.length ∧ t.1.length ≤ 64 ∧ ∀ x ∈ t.1, isOf 2 x.toNat = true) ∧ t.2.length ≤ 100 ∧ ∀ x ∈ t.2, isOf 3 x.toNat = true := by
  unfold rightT at h
  rw [Bool.and_eq_true, beq_iff_eq, beq_iff_eq] at h
  obtain ⟨a, b, c⟩ := fault_zero h.1
  obtain ⟨a', b', c'⟩ := fault_zero h.2
  exact ⟨⟨by omega, by omega, c⟩, by omega, c'⟩
theorem no58 {t : Tg} (h : rightT t = true) : (58 : UInt8) ∉ t.1 := fun m => by have := (right_parts h).1.2.2 58 m; exact absurd this (by decide)
theorem no44k {t : Tg} (h : rightT t = true) : (44 : UInt8) ∉ t.1 := fun m => by have := (right_parts h).1.2.2 44 m; exact absurd this (by decide)
theorem no44v {t : Tg} (h : rightT t = true) : (44 : UInt8) ∉ t.2 := fun m => by have := (right_parts h).2.2 44 m; exact absurd this (by decide)
theorem no44 {t : Tg} (h : rightT t = true) : (44 : UInt8) ∉ txt t := by
  unfold txt
  split
  · exact no44k h
  · simp only [List.mem_append, List.mem_cons, not_or]
    exact ⟨no44k h, by decide, no44v h⟩
theorem txt_len {t : Tg} (h : rightT t = true) : (txt t).length ≤ 165 := by
  have := right_parts h
  unfold txt
  split <;> simp <;> omega
theorem cut_txt {t : Tg} (h : rightT t = true) : cutC 58 (txt t) = t := by
  unfold txt
  split
  · rename_i e
    rw [cut_no (no58 h)]
    exact Prod.ext rfl e.symm
  · rw [cut_at (no58 h)]
theorem one_txt {t : Tg} (h : rightT t = true) : oneT (txt t) = some t := by
  unfold oneT
  rw [cut_txt h, if_pos ⟨h, rfl⟩]
theorem one_some {p : List UInt8} {t : Tg} (h : oneT p = some t) : rightT t = true ∧ txt t = p ∧ cutC 58 p = t := by
  unfold oneT at h
  split at h
  · rename_i k
    injection h with h
    rw [h] at k
    exact ⟨k.1, k.2, h⟩
  · cases h

/-- A text is cut at each comma. -/
def pieces : List UInt8 → List (List UInt8)
  | [] => [[]]
  | b :: r => if b = 44 then [] :: pieces r else match pieces r with
    | [] => [[b]]
    | p :: ps => (b :: p) :: ps

theorem pieces_ne : ∀ l, pieces l ≠ []
  | [] => by simp [pieces]
  | b :: r => by
    rw [pieces]
    split
    · simp
    · split <;> simp
theorem pieces_no : ∀ {l : List UInt8}, (44 : UInt8) ∉ l → pieces l = [l]
  | [], _ => rfl
  | b :: r, h => by
    simp only [List.mem_cons, not_or] at h
    rw [pieces, if_neg (fun e => h.1 e.symm), pieces_no h.2]
theorem pieces_append : ∀ (a b : List UInt8), pieces (a ++ 44 :: b) = pieces a ++ pieces b
  | [], b => by simp [pieces]
  | x :: a, b => by
    have ih := pieces_append a b
    rw [List.cons_append, pieces, pieces, ih]
    by_cases h : x = 44
    · rw [if_pos h, if_pos h]; rfl
    · rw [if_neg h, if_neg h]
      rcases hp : pieces a with _ | ⟨p, ps⟩
      · exact absurd hp (pieces_ne a)
      · rfl
theorem pieces_at {l : List UInt8} {i : Nat} (h : i < l.length) (hc : l[i] = 44) (hn : (44 : UInt8) ∉ l.take i) : pieces l = l.take i :: pieces (l.drop (i + 1)) := by
  have e := split_at h
  rw [hc] at e
  have := pieces_append (l.take i) (l.drop (i + 1))
  rw [← e, pieces_no hn] at this
  exact this
theorem pieces_yes {l : List UInt8} (h : (44 : UInt8) ∈ l) : pieces l = (cutC 44 l).1 :: pieces (cutC 44 l).2 ∧ (cutC 44 l).2 = l.drop ((cutC 44 l).1.length + 1) ∧ (cutC 44 l).1.length < l.length := by
  obtain ⟨i, hi, he⟩ : ∃ i, ∃ hi : i < l.length, l[i] = 44 ∧ (44 : UInt8) ∉ l.take i := by
    obtain ⟨k, hk, e⟩ := List.mem_iff_getElem.1 h
    cases hf : l.findIdx? (· == 44) with
    | none => exact absurd (List.findIdx?_eq_none_iff.mp hf l[k] (List.getElem_mem hk)) (by simp [e])
    | some i =>
      obtain ⟨hi, hp, hj⟩ := List.findIdx?_eq_some_iff_getElem.mp hf
      refine ⟨i, hi, by simpa using hp, fun m => ?_⟩
      obtain ⟨j, hj', e'⟩ := List.mem_iff_getElem.1 m
      rw [List.length_take] at hj'
      rw [List.getElem_take] at e'
      have := hj j (by omega)
      simp [e'] at this
  rw [cut_yes hi he.1 he.2]
  refine ⟨pieces_at hi he.1 he.2, ?_, ?_⟩
  · simp only [List.length_take, Nat.min_eq_left (Nat.le_of_lt hi)]
  · simp only [List.length_take]; omega
theorem pieces_none {l : List UInt8} (h : (44 : UInt8) ∉ l) : pieces l = [(cutC 44 l).1] := by rw [pieces_no h, cut_no h]
theorem join_two (x y : List UInt8) (r : List (List UInt8)) : Lib.join (x :: y :: r) [44] = x ++ 44 :: Lib.join (y :: r) [44] := by
  rw [Lib.join_cons, Lib.join_cons]
  simp [Lib.joinTail]
theorem pieces_join : ∀ {ps : List (List UInt8)}, ps ≠ [] → (∀ p ∈ ps, (44 : UInt8) ∉ p) → pieces (Lib.join ps [44]) = ps
  | [], h, _ => absurd rfl h
  | [p], _, h => by rw [Lib.join_one]; exact pieces_no (h p (by simp))
  | p :: q :: r, _, h => by
    rw [join_two, pieces_append, pieces_join (ps := q :: r) (by simp) (fun x hx => h x (List.mem_cons_of_mem _ hx)), pieces_no (h p (by simp))]
    rfl
theorem join_pieces : ∀ l : List UInt8, Lib.join (pieces l) [44] = l
  | [] => by simp [pieces, Lib.join_one]
  | b :: r => by
    have ih := join_pieces r
    rw [pieces]
    by_cases h : b = 44
    · rw [if_pos h]
      rcases hp : pieces r with _ | ⟨p, ps⟩
      · exact absurd hp (pieces_ne r)
      · rw [hp] at ih
        rw [join_two, ih, h]; rfl
    · rw [if_neg h]
      rcases hp : pieces r with _ | ⟨p, ps⟩
      · exact absurd hp (pieces_ne r)
      · rw [hp] at ih
        show Lib.join ((b :: p) :: ps) [44] = b :: r
        rw [Lib.join_cons] at ih ⊢
        rw [List.cons_append, ih]

/-- The tags of pieces, behind others; or at which byte the first piece begins that is no tag's text. -/
def pgo (acc : List Tg) (k : Nat) : List (List UInt8) → Nat ⊕ List Tg
  | [] => .inr acc
  | p :: ps => match oneT p with
    | none => .inl k
    | some t => pgo (acc ++ [t]) (k + p.length + 1) ps
def parseT (l : List UInt8) : Nat ⊕ List Tg := pgo [] 0 (pieces l)

theorem pgo_nil (acc : List Tg) (k : Nat) : pgo acc k [] = .inr acc := rfl
theorem pgo_bad {acc : List Tg} {k : Nat} {p : List UInt8} {ps : List (List UInt8)} (h : oneT p = none) : pgo acc k (p :: ps) = .inl k := by rw [pgo, h]
theorem pgo_ok {acc : List Tg} {k : Nat} {p : List UInt8} {ps : List (List UInt8)} {t : Tg} (h : oneT p = some t) : pgo acc k (p :: ps) = pgo (acc ++ [t]) (k + p.length + 1) ps := by rw [pgo, h]

theorem pgo_append : ∀ (ps qs : List (List UInt8)) (acc : List Tg) (k : Nat), pgo acc k (ps ++ qs) = match pgo acc k ps with
    | .inl e => .inl e
    | .inr ts => pgo ts (k + (ps.map fun p => p.length + 1).sum) qs
  | [], qs, acc, k => by simp [pgo_nil]
  | p :: ps, qs, acc, k => by
    rw [List.cons_append]
    rcases h : oneT p with _ | t
    · rw [pgo_bad h, pgo_bad h]
    · rw [pgo_ok h, pgo_ok h, pgo_append ps qs]
      simp only [List.map_cons, List.sum_cons]
      rw [show k + p.length + 1 + (ps.map fun p => p.length + 1).sum = k + (p.length + 1 + (ps.map fun p => p.length + 1).sum) by omega]
theorem pgo_shift : ∀ (ps : List (List UInt8)) (acc : List Tg) (k : Nat), pgo acc k ps = match pgo [] 0 ps with
    | .inl e => .inl (e + k)
    | .inr ts => .inr (acc ++ ts)
  | [], acc, k => by simp [pgo_nil]
  | p :: ps, acc, k => by
    rcases h : oneT p with _ | t
    · rw [pgo_bad h, pgo_bad h]; simp
    · rw [pgo_ok h, pgo_ok h, pgo_shift ps (acc ++ [t]), pgo_shift ps ([] ++ [t])]
      cases pgo [] 0 ps with
      | inl e => simp; omega
      | inr ts => simp
theorem sum_pieces : ∀ l : List UInt8, ((pieces l).map fun p => p.length + 1).sum = l.length + 1
  | [] => by simp [pieces]
  | b :: r => by
    have ih := sum_pieces r
    rw [pieces]
    split
    · simp [ih]; omega
    · rcases hp : pieces r with _ | ⟨p, ps⟩
      · exact absurd hp (pieces_ne r)
      · rw [hp] at ih
        simp only [List.map_cons, List.sum_cons, List.length_cons] at ih ⊢
        omega
theorem parse_parts (a b : List UInt8) : parseT (a ++ 44 :: b) = match parseT a with
    | .inl e => .inl e
    | .inr ts => match parseT b with
      | .inl f => .inl (f + (a.length + 1))
      | .inr us => .inr (ts ++ us) := by
  unfold parseT
  rw [pieces_append, pgo_append, sum_pieces]
  cases pgo [] 0 (pieces a) with
  | inl e => rfl
  | inr ts =>
    show pgo ts (0 + (a.length + 1)) (pieces b) = _
    rw [pgo_shift, Nat.zero_add]

theorem pgo_inr : ∀ (ps : List (List UInt8)) (acc : List Tg) (k : Nat) {ts : List Tg}, pgo acc k ps = .inr ts → ∃ us, ts = acc ++ us ∧ us.map txt = ps ∧ ∀ t ∈ us, rightT t = true
  | [], acc, k, ts, h => by rw [pgo_nil] at h; injection h with h; exact ⟨[], by simp [h], rfl, by simp⟩
  | p :: ps, acc, k, ts, h => by
    rcases ho : oneT p with _ | t
    · rw [pgo_bad ho] at h; cases h
    · rw [pgo_ok ho] at h
      obtain ⟨us, e, hm, hr⟩ := pgo_inr ps _ _ h
      obtain ⟨r1, r2, _⟩ := one_some ho
      refine ⟨t :: us, by rw [e]; simp, by rw [List.map_cons, hm, r2], ?_⟩
      intro x hx
      rcases List.mem_cons.1 hx with rfl | hx
      · exact r1
      · exact hr x hx
theorem pgo_texts : ∀ (us : List Tg) (acc : List Tg) (k : Nat), (∀ t ∈ us, rightT t = true) → pgo acc k (us.map txt) = .inr (acc ++ us)
  | [], acc, k, _ => by simp [pgo_nil]
  | t :: us, acc, k, h => by
    rw [List.map_cons, pgo_ok (one_txt (h t (by simp))), pgo_texts us _ _ (fun x hx => h x (List.mem_cons_of_mem _ hx))]
    simp

/-- The text of tags. -/
def textT (ts : List Tg) : List UInt8 := Lib.join (ts.map txt) [44]
theorem parse_text {ts : List Tg} (h0 : ts ≠ []) (h : ∀ t ∈ ts, rightT t = true) : parseT (textT ts) = .inr ts := by
  unfold parseT textT
  rw [pieces_join (by simpa using h0)]
  · rw [pgo_texts ts [] 0 h]; rfl
  · intro p hp
    obtain ⟨t, ht, rfl⟩ := List.mem_map.1 hp
    exact no44 (h t ht)
theorem text_parse {l : List UInt8} {ts : List Tg} (h : parseT l = .inr ts) : textT ts = l ∧ ts ≠ [] ∧ ∀ t ∈ ts, rightT t = true := by
  obtain ⟨us, rfl, hm, hr⟩ := pgo_inr _ _ _ h
  refine ⟨?_, ?_, by simpa using hr⟩
  · unfold textT
    rw [hm, join_pieces]
  · rintro e
    subst e
    exact pieces_ne l hm.symm
theorem pgo_inl : ∀ (ps : List (List UInt8)) (acc : List Tg) (k : Nat) {e : Nat}, pgo acc k ps = .inl e → e < k + (ps.map fun p => p.length + 1).sum
  | [], acc, k, e, h => by rw [pgo_nil] at h; cases h
  | p :: ps, acc, k, e, h => by
    simp only [List.map_cons, List.sum_cons]
    rcases ho : oneT p with _ | t
    · rw [pgo_bad ho] at h; injection h with h; omega
    · rw [pgo_ok ho] at h
      have := pgo_inl ps _ _ h
      omega
theorem parse_inl {l : List UInt8} {e : Nat} (h : parseT l = .inl e) : e ≤ l.length := by
  have := pgo_inl _ _ _ h
  rw [sum_pieces] at this
  omega
theorem textT_len {ts : List Tg} (h : ∀ t ∈ ts, rightT t = true) (hl : ts.length ≤ 600) : (textT ts).length ≤ 100000 := by
  have key : ∀ us : List Tg, (∀ t ∈ us, rightT t = true) → (Lib.join (us.map txt) [44]).length ≤ 166 * us.length := by
    intro us
    induction us with
    | nil => intro _; simp [Lib.join_nil]
    | cons t us ih =>
      intro h
      have h1 := txt_len (h t (by simp))
      have h2 := ih (fun x hx => h x (List.mem_cons_of_mem _ hx))
      rcases us with _ | ⟨u, us⟩
      · simp only [List.map_cons, List.map_nil, Lib.join_one, List.length_cons, List.length_nil]; omega
      · simp only [List.map_cons] at h2 ⊢
        rw [join_two]
        simp only [List.length_append, List.length_cons] at h2 ⊢
        omega
  have := key ts h
  unfold textT
  omega
end Go.Proofs.YtmaiggoinjldpaaGreatDoor

/-
  Package tag: Check and textOf, and the document's. No statement of the seat is proved here.
-/
namespace Go.Proofs.YtmaiggoinjldpaaGreatDoor
open Go.RowKit

theorem ctext_says {c lo hi : Int} {s : ByteArray} {l : List UInt8} {a b : Int} (h : Str s l) (hz : (s.size : Int) ≤ 100000) (ha : faultOf c l lo hi = (a, b)) (w : World) : Calls Tryz.prog 18 #[.int .i64 c, .string s, .int .i64 lo, .int .i64 hi] w fun e w' => e = .returned (.agg #[.int .i64 a, .int .i64 b]) ∧ Below w.heap.size w w' := by
  have := text_calls c s l h hz lo hi w
  rw [ha] at this
  exact this

section
variable {x y u v : Int}
theorem feq_in (w : World) : (Op.equalIn 10000 36 (.agg #[.int .i64 x, .int .i64 y]) (.agg #[.int .i64 u, .int .i64 v])).run Tryz.prog w = .ok (decide ((x, y) = (u, v))) w := by
  have u3 := Tryz.underlying3
  have a3 := Tryz.isAgg3
  have z3 := Tryz.sizeOf3
  have u4 := Tryz.underlying28
  have a4 := Tryz.isAgg28
  have z4 := Tryz.sizeOf28
  have hS : Tryz.prog.underlying 36 = some (.struct (Tryz.prog.fieldsOf 36)) := by kernel_rfl
  have hp : Tryz.prog.stoodInHeld 36 = false := by kernel_rfl
  rw [show (10000 : Nat) = 9999 + 1 from rfl, run_equalIn_agg w 9999 36 _ _ hS hp]
  simp only [Program.fieldsOf, Tryz.underlying36]
  go_simp
  by_cases h1 : x = u <;> by_cases h2 : y = v <;> simp [h1, h2]
theorem feq_run {q : Bool} (hq : decide ((x, y) = (u, v)) = q) (w : World) : (binOp .eql 36 (.agg #[.int .i64 x, .int .i64 y]) (.agg #[.int .i64 u, .int .i64 v])).run Tryz.prog w = .ok (.bool q) w := by
  rw [run_eql_struct, feq_in, hq]; rfl
theorem fne_run {q : Bool} (hq : decide ((x, y) = (u, v)) = q) (w : World) : (binOp .neq 36 (.agg #[.int .i64 x, .int .i64 y]) (.agg #[.int .i64 u, .int .i64 v])).run Tryz.prog w = .ok (.bool (!q)) w := by
  rw [run_neq_struct, feq_in, hq]; rfl
theorem fguard (op : BinOp) (p q : Operand) (xs ys : Array Value) (w : World) : (eqGuard op 36 p q (.agg xs) (.agg ys)).run Tryz.prog w = .ok () w := run_eqGuard_agg w op _ p q xs ys (by kernel_rfl)
end

/-- How a tag is wrong. -/
def chkT (t : Tg) : Int := if rightT t = true then 0 else 19

/-- A tag, and a fault that is none, lie. -/
structure CAt (w : World) (s t : ByteArray) (w' : World) : Prop where
  kept : Below w.heap.size w w'
  one : Box w' w.heap.size 34 [.string s, .string t]
  two : Box w' (w.heap.size + 1) 36 [.int .i64 0, .int .i64 0]
section
variable {w w1 w2 : World} {s t : ByteArray}
theorem CAt.next (h : CAt w s t w1) (k : Below w1.heap.size w1 w2) : CAt w s t w2 := ⟨below_then h.kept k, h.one.keep k, h.two.keep k⟩
theorem CAt.start (w : World) (s t : ByteArray) : CAt w s t ((w.alloc (.cells #[.string s, .string t] 34)).alloc (.cells #[.int .i64 0, .int .i64 0] 36)) :=
  ⟨((Below.refl _ _).alloc (Nat.le_refl _) _).alloc (by rw [size_alloc]; omega) _, (Box.new w 34 [_, _]).alloc _, by have := Box.new (w.alloc (.cells #[.string s, .string t] 34)) 36 [.int .i64 0, .int .i64 0]; rwa [size_alloc] at this⟩
theorem CAt.cells (h : CAt w s t w1) : w1.cell? ⟨w.heap.size, 0, none⟩ = some (.string s) ∧ w1.cell? ⟨w.heap.size, 1, none⟩ = some (.string t) ∧ w1.cell? ⟨w.heap.size + 1, 0, none⟩ = some (.int .i64 0) ∧ w1.cell? ⟨w.heap.size + 1, 1, none⟩ = some (.int .i64 0) ∧ CAt w s t w1 :=
  ⟨h.one.cell 0, h.one.cell 1, h.two.cell 0, h.two.cell 1, h⟩
theorem CAt.of {P1 P2 P3 P4 : Prop} (h : P1 ∧ P2 ∧ P3 ∧ P4 ∧ CAt w s t w1) : CAt w s t w1 := h.2.2.2.2
end

theorem right_is {a : Tg} {x y u v : Int} {p q : Bool} (h1 : faultOf 2 a.1 1 64 = (x, y)) (h2 : faultOf 3 a.2 0 100 = (u, v)) (hp : decide ((x, y) = (0, 0)) = p) (hq : decide ((u, v) = (0, 0)) = q) : rightT a = (p && q) := by
  unfold rightT
  rw [h1, h2, ← hp, ← hq]
  by_cases e1 : (x, y) = ((0, 0) : Int × Int) <;> by_cases e2 : (u, v) = ((0, 0) : Int × Int) <;> simp [e1, e2]

set_option maxRecDepth 100000 in
set_option maxHeartbeats 2000000 in
theorem check_calls {s t : ByteArray} {a : Tg} (hs : Str s a.1) (ht : Str t a.2) (hz : (s.size : Int) ≤ 100000) (hz2 : (t.size : Int) ≤ 100000) (w : World) :
    Calls Tryz.prog 69 #[.agg #[.string s, .string t]] w fun e w' => e = .returned (.int .i64 (chkT a)) ∧ Below w.heap.size w w' := by
  obtain ⟨x, y, hxy⟩ : ∃ x y, faultOf 2 a.1 1 64 = (x, y) := ⟨_, _, rfl⟩
  obtain ⟨u, v, huv⟩ : ∃ u v, faultOf 3 a.2 0 100 = (u, v) := ⟨_, _, rfl⟩
  have HK := Lib.hid (fun w' (h : CAt w s t w') => (ctext_says hs hz hxy w').mono fun e w'' (k : _ ∧ _) => And.intro k.1 (h.next k.2))
  have HV := Lib.hid (fun w' (h : CAt w s t w') => (ctext_says ht hz2 huv w').mono fun e w'' (k : _ ∧ _) => And.intro k.1 (h.next k.2))
  obtain ⟨p, hp⟩ : ∃ p, decide ((x, y) = ((0, 0) : Int × Int)) = p := ⟨_, rfl⟩
  obtain ⟨q, hq⟩ : ∃ q, decide ((u, v) = ((0, 0) : Int × Int)) = q := ⟨_, rfl⟩
  have hc : chkT a = if (p && q) = true then 0 else 19 := by unfold chkT; rw [right_is hxy huv hp hq]
  have k1 := fne_run hp
  have k2 := fne_run hq
  have hg := fguard
  rw [hc]
  have HS := Lib.hid ((CAt.start w s t).next (Same.below (Same.drewN _ 1)))
  clear hxy huv hs ht hz hz2 hp hq hc
  go_enter Tryz.func69, Tryz.ntmps69
  go_wp2_with fail
  cases p
  · go_region_held3 (fun w' => w'.cell? ⟨w.heap.size, 0, none⟩ = some (.string s) ∧ w'.cell? ⟨w.heap.size, 1, none⟩ = some (.string t) ∧ w'.cell? ⟨w.heap.size + 1, 0, none⟩ = some (.int .i64 0) ∧ w'.cell? ⟨w.heap.size + 1, 1, none⟩ = some (.int .i64 0) ∧ CAt w s t w')
      (first | exact CAt.cells HS.out | exact CAt.cells HB6.out)
      (first | (go_at_call 18; refine (HK.out _ (CAt.of (by assumption))).mono ?_; rintro e w6 ⟨rfl, hb6⟩; have HB6 := Lib.hid hb6; clear hb6))
    all_goals
      go_wp2_with fail
      go_ret
      exact ⟨rfl, HB6.out.kept⟩
  · go_region_held3 (fun w' => w'.cell? ⟨w.heap.size, 0, none⟩ = some (.string s) ∧ w'.cell? ⟨w.heap.size, 1, none⟩ = some (.string t) ∧ w'.cell? ⟨w.heap.size + 1, 0, none⟩ = some (.int .i64 0) ∧ w'.cell? ⟨w.heap.size + 1, 1, none⟩ = some (.int .i64 0) ∧ CAt w s t w')
      (first | exact CAt.cells HS.out | exact CAt.cells HB6.out)
      (first | (go_at_call 18; refine (HK.out _ (CAt.of (by assumption))).mono ?_; rintro e w6 ⟨rfl, hb6⟩; have HB6 := Lib.hid hb6; clear hb6))
    all_goals
      have HS6 := Lib.hid (HB6.out.next (Same.below (Same.drewN _ 1)))
      clear HS HB6
      go_wp2_with fail
      cases q
    all_goals
      go_region_held3 (fun w' => w'.cell? ⟨w.heap.size, 0, none⟩ = some (.string s) ∧ w'.cell? ⟨w.heap.size, 1, none⟩ = some (.string t) ∧ w'.cell? ⟨w.heap.size + 1, 0, none⟩ = some (.int .i64 0) ∧ w'.cell? ⟨w.heap.size + 1, 1, none⟩ = some (.int .i64 0) ∧ CAt w s t w')
        (first | exact CAt.cells HS6.out | exact CAt.cells HB7.out)
        (first | (go_at_call 18; refine (HV.out _ (CAt.of (by assumption))).mono ?_; rintro e w7 ⟨rfl, hb7⟩; have HB7 := Lib.hid hb7; clear hb7))
    all_goals
      go_wp2_with fail
      go_ret
      exact ⟨rfl, HB7.out.kept⟩
end Go.Proofs.YtmaiggoinjldpaaGreatDoor

/-
  Package tag: the document's Right, Ahead and Less. No statement of the seat is proved here.
-/
namespace Go.Proofs.YtmaiggoinjldpaaGreatDoor
open Go.RowKit

section
variable {s t : ByteArray} {a : Tg}
theorem rtext_says {c lo hi : Int} {s : ByteArray} {l : List UInt8} {a b : Int} (hc : isCls c = true) (h : Str s l) (hz : (s.size : Int) ≤ 100000) (hlo : ¬ lo < 0) (hhi : ¬ hi < lo) (ha : faultOf c l lo hi = (a, b)) (w : World) : Calls Tryz.prog 93 #[.int .i64 c, .string s, .int .i64 lo, .int .i64 hi] w fun e w' => e = .returned (.agg #[.int .i64 a, .int .i64 b]) ∧ Below w.heap.size w w' := by
  have := rtext_calls c hc s l h hz lo hi hlo hhi w
  rw [ha] at this
  exact this

set_option maxRecDepth 100000 in
set_option maxHeartbeats 2000000 in
theorem right_calls (hs : Str s a.1) (ht : Str t a.2) (hz : (s.size : Int) ≤ 100000) (hz2 : (t.size : Int) ≤ 100000) (w : World) :
    Calls Tryz.prog 82 #[.agg #[.string s, .string t]] w fun e w' => e = .returned (.bool (rightT a)) ∧ Below w.heap.size w w' := by
  obtain ⟨x, y, hxy⟩ : ∃ x y, faultOf 2 a.1 1 64 = (x, y) := ⟨_, _, rfl⟩
  obtain ⟨u, v, huv⟩ : ∃ u v, faultOf 3 a.2 0 100 = (u, v) := ⟨_, _, rfl⟩
  have HK := Lib.hid (rtext_says (by decide) hs hz (by decide) (by decide) hxy)
  have HV := Lib.hid (rtext_says (by decide) ht hz2 (by decide) (by decide) huv)
  obtain ⟨p, hp⟩ : ∃ p, decide ((x, y) = ((0, 0) : Int × Int)) = p := ⟨_, rfl⟩
  obtain ⟨q, hq⟩ : ∃ q, decide ((u, v) = ((0, 0) : Int × Int)) = q := ⟨_, rfl⟩
  rw [right_is hxy huv hp hq]
  have k1 := feq_run hp
  have k2 := feq_run hq
  have hg := fguard
  clear hxy huv hs ht hz hz2 hp hq
  have b0 := Box.new w 34 [.string s, .string t]
  have HB := Lib.hid (And.intro b0 ((Below.refl w.heap.size w).alloc (Nat.le_refl _) (.cells #[.string s, .string t] 34)))
  clear b0
  go_enter Tryz.func82, Tryz.ntmps82
  go_wp2_with fail
  refine (HK.out _).mono ?_
  rintro e w1 ⟨rfl, hb⟩
  have HB1 := Lib.hid (And.intro (HB.out.1.keep hb) (Below.trans HB.out.2 (hb.mono HB.out.2.size)))
  clear hb HB HK
  have c1 : w1.cell? ⟨w.heap.size, 1, none⟩ = some (.string t) := HB1.out.1.cell 1
  cases p
  · go_wp2_with fail
    go_ret
    exact ⟨rfl, HB1.out.2⟩
  · go_wp2_with fail
    refine (HV.out _).mono ?_
    rintro e w2 ⟨rfl, hb⟩
    have HB2 := Lib.hid (Below.trans HB1.out.2 (hb.mono HB1.out.2.size))
    clear hb HB1 HV
    go_wp2_with fail
    go_ret
    exact ⟨by simp, HB2.out⟩
end

/-- Where two texts part. -/
theorem ltB_at {a b : List UInt8} {i : Nat} (h1 : i < a.length) (h2 : i < b.length) (he : ∀ j (h : j < a.length) (g : j < b.length), j < i → a[j] = b[j]) (hn : a[i] ≠ b[i]) : ltB a b = decide (a[i].toNat < b[i].toNat) := by
  induction i generalizing a b with
  | zero =>
    match a, b, h1, h2 with
    | x :: a, y :: b, _, _ =>
      simp only [List.getElem_cons_zero] at hn ⊢
      unfold ltB Op.bytesLess
      have hxy : (x == y) = false := by simpa using hn
      rw [hxy, Bool.false_and, Bool.or_false]
      rfl
  | succ i ih =>
    match a, b, h1, h2 with
    | x :: a, y :: b, h1, h2 =>
      have e0 := he 0 (by simp) (by simp) (by omega)
      simp only [List.getElem_cons_zero] at e0
      subst e0
      simp only [List.getElem_cons_succ] at hn ⊢
      rw [← ih (by simpa using h1) (by simpa using h2) (fun j h g hj => by have := he (j + 1) (by simpa using h) (by simpa using g) (by omega); simpa using this) hn]
      show (decide (x < x) || (x == x && ltB a b)) = ltB a b
      have hx : ¬ x < x := by simp
      simp [hx]
theorem ltB_end {a b : List UInt8} (he : ∀ j (h : j < a.length) (g : j < b.length), a[j] = b[j]) : ltB a b = decide (a.length < b.length) := by
  induction a generalizing b with
  | nil =>
    cases b with
    | nil => rfl
    | cons y b => unfold ltB Op.bytesLess; simp
  | cons x a ih =>
    cases b with
    | nil => unfold ltB Op.bytesLess; simp
    | cons y b =>
      have e0 := he 0 (by simp) (by simp)
      simp only [List.getElem_cons_zero] at e0
      subst e0
      have := ih (b := b) (fun j h g => by have := he (j + 1) (by simpa using h) (by simpa using g); simpa using this)
      show (decide (x < x) || (x == x && ltB a b)) = _
      have hx : ¬ x < x := by simp
      simp [hx, this]

/-- The document's Less: both tags lie. -/
structure RAt (w : World) (s t u v : ByteArray) (w' : World) : Prop where
  kept : Below w.heap.size w w'
  one : Box w' w.heap.size 34 [.string s, .string t]
  two : Box w' (w.heap.size + 1) 34 [.string u, .string v]
theorem RAt.next {w w1 w2 : World} {s t u v : ByteArray} (h : RAt w s t u v w1) (k : Below w1.heap.size w1 w2) : RAt w s t u v w2 := ⟨below_then h.kept k, h.one.keep k, h.two.keep k⟩
theorem RAt.start (w : World) (s t u v : ByteArray) : RAt w s t u v ((w.alloc (.cells #[.string s, .string t] 34)).alloc (.cells #[.string u, .string v] 34)) :=
  ⟨(LAt.start w s t u v).grown.below, (LAt.start w s t u v).one, (LAt.start w s t u v).two⟩

end Go.Proofs.YtmaiggoinjldpaaGreatDoor

/-
  Layer 6: the document's Normal. No statement of the seat is proved here.
-/
namespace Go.Proofs.YtmaiggoinjldpaaGreatDoor
open Go.RowKit

theorem own_below {w w' : World} {base size n B : Nat} {e : TypeId} {v : Value} {xs : List Value} (h : w.ownsRow base e size v n xs) (hb : Below B w w') (hv : ∀ k, v.ownBlock = some k → k < B) : w'.ownsRow base e size v n xs := by
  refine ⟨h.1, ?_⟩
  rcases h.2 with h2 | ⟨g, cap, cur, rfl, hg, hh, r⟩
  · exact .inl h2
  · exact .inr ⟨g, cap, cur, rfl, hg, (hb.block g (hv g rfl)).trans hh, r⟩

/-- Where the document's Normal stands: the tags so far, and the tags that come to be. -/
structure RN (w : World) (B : Nat) (vo : Value) (no : Nat) (o : List Tg) (vm : Value) (nm : Nat) (more : List Tg) (w' : World) : Prop where
  kept : Below w.heap.size w w'
  out : w'.ownsRow w.heap.size 34 2 vo no (flat o)
  lim : ∀ k, vo.ownBlock = some k → k < B
  low : w.heap.size ≤ B
  high : B ≤ w'.heap.size
  row : w'.ownsRow B 34 2 vm nm (flat more)
section
variable {w w1 w2 : World} {B no nm : Nat} {vo vm : Value} {o more : List Tg}
theorem RN.next (h : RN w B vo no o vm nm more w1) (k : Below w1.heap.size w1 w2) : RN w B vo no o vm nm more w2 :=
  ⟨below_then h.kept k, own_keep h.out k, h.lim, h.low, Nat.le_trans h.high k.size, own_keep h.row k⟩
theorem RN.alloc (h : RN w B vo no o vm nm more w1) (ob : Obj) : RN w B vo no o vm nm more (w1.alloc ob) := h.next ((Below.refl _ _).alloc (Nat.le_refl _) ob)
theorem RN.drewN (h : RN w B vo no o vm nm more w1) (n : Nat) : RN w B vo no o vm nm more (w1.drewN n) := h.next (Same.below (Same.drewN _ _))
theorem RN.push (h : RN w B vo no o vm nm more w1) {vm' : Value} {nm' : Nat} {more' : List Tg} (hg : w1.grownBy w2 vm.ownBlock) (ho : w2.ownsRow B 34 2 vm' nm' (flat more')) : RN w B vo no o vm' nm' more' w2 := by
  have hB : ∀ k, vm.ownBlock = some k → B ≤ k := by
    intro k hk
    rcases h.row.2 with ⟨rfl, _⟩ | ⟨g, cap, cur, rfl, hg, _⟩
    · cases hk
    · injection hk with hk; subst hk; exact hg
  have hb : Below B w1 w2 := (Below.refl B w1).grown hg h.high hB
  exact ⟨h.kept.trans (hb.mono h.low), own_below h.out hb h.lim, h.lim, h.low, Nat.le_trans h.high hb.size, ho⟩
end

/-- .. and these cells lie so. -/
structure RNS (w : World) (L : List (Addr × Value)) (B : Nat) (vo : Value) (no : Nat) (o : List Tg) (vm : Value) (nm : Nat) (more : List Tg) (w' : World) : Prop where
  cs : Cs w L w'
  rn : RN w B vo no o vm nm more w'
section
variable {w w1 w2 : World} {L : List (Addr × Value)} {B no nm : Nat} {vo vm : Value} {o more : List Tg}
theorem RNS.next (h : RNS w L B vo no o vm nm more w1) (k : Below w1.heap.size w1 w2) : RNS w L B vo no o vm nm more w2 := ⟨h.cs.next k, h.rn.next k⟩
theorem RNS.four {a b c d : Addr} {p q r s : Value} (h : RNS w [(a, p), (b, q), (c, r), (d, s)] B vo no o vm nm more w1) : w1.cell? a = some p ∧ w1.cell? b = some q ∧ w1.cell? c = some r ∧ w1.cell? d = some s ∧ RNS w [(a, p), (b, q), (c, r), (d, s)] B vo no o vm nm more w1 := by
  obtain ⟨h1, h2, h3, h4, _⟩ := h.cs.four
  exact ⟨h1, h2, h3, h4, h⟩
theorem RNS.of {P1 P2 P3 P4 : Prop} (h : P1 ∧ P2 ∧ P3 ∧ P4 ∧ RNS w L B vo no o vm nm more w1) : RNS w L B vo no o vm nm more w1 := h.2.2.2.2
end

/-- How far the insertion is. -/
def InsAt (t : Tg) (o : List Tg) (put : Bool) (more : List Tg) (k : Nat) : Prop :=
  (put = false ∧ more = o.take k ∧ o.take k ++ ins t (o.drop k) = ins t o) ∨ (put = true ∧ more ++ o.drop k = ins t o)
section
variable {t : Tg} {o more : List Tg} {k : Nat}
theorem InsAt.start : InsAt t o false [] 0 := .inl ⟨rfl, rfl, rfl⟩
theorem take_one {α : Type} {l : List α} {k : Nat} (h : k < l.length) : l.take (k + 1) = l.take k ++ [l[k]] := by rw [List.take_add_one, List.getElem?_eq_getElem h]; rfl
theorem InsAt.less (h : InsAt t o false more k) (hk : k < o.length) (hl : ltT o[k] t = true) : InsAt t o false (more ++ [o[k]]) (k + 1) := by
  rcases h with ⟨_, rfl, h⟩ | ⟨h, _⟩
  · refine .inl ⟨rfl, (take_one hk).symm, ?_⟩
    rw [← h, take_one hk, ← List.getElem_cons_drop hk, ins, if_pos hl, List.append_assoc]
    rfl
  · cases h
theorem InsAt.same (h : InsAt t o false more k) (hk : k < o.length) (hl : ltT o[k] t = false) (he : o[k] = t) : InsAt t o true (more ++ [o[k]]) (k + 1) := by
  rcases h with ⟨_, rfl, h⟩ | ⟨h, _⟩
  · refine .inr ⟨rfl, ?_⟩
    rw [← h, ← List.getElem_cons_drop hk, ins, if_neg (by rw [hl]; simp), if_pos he, List.append_assoc]
    rfl
  · cases h
theorem InsAt.both (h : InsAt t o false more k) (hk : k < o.length) (hl : ltT o[k] t = false) (he : o[k] ≠ t) : InsAt t o true (more ++ [t] ++ [o[k]]) (k + 1) := by
  rcases h with ⟨_, rfl, h⟩ | ⟨h, _⟩
  · refine .inr ⟨rfl, ?_⟩
    rw [← h, ← List.getElem_cons_drop hk, ins, if_neg (by rw [hl]; simp), if_neg he, List.append_assoc, List.append_assoc]
    rfl
  · cases h
theorem InsAt.go (h : InsAt t o true more k) (hk : k < o.length) : InsAt t o true (more ++ [o[k]]) (k + 1) := by
  rcases h with ⟨h, _⟩ | ⟨_, h⟩
  · cases h
  · refine .inr ⟨rfl, ?_⟩
    rw [← h, ← List.getElem_cons_drop hk, List.append_assoc]
    rfl
theorem InsAt.end_ (h : InsAt t o false more k) (hk : k = o.length) : more ++ [t] = ins t o := by
  subst hk
  rcases h with ⟨_, rfl, h⟩ | ⟨h, _⟩
  · rw [← h, List.drop_length]; rfl
  · cases h
theorem InsAt.end' (h : InsAt t o true more k) (hk : k = o.length) : more = ins t o := by
  subst hk
  rcases h with ⟨h, _⟩ | ⟨_, h⟩
  · cases h
  · rw [← h, List.drop_length, List.append_nil]
end

end Go.Proofs.YtmaiggoinjldpaaGreatDoor
