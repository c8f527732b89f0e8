/-
  TText, MMath, EMath. No statement of the seat is proved here.
-/
import Derived.Test.YtbcmchkgamkceaaGreatDoorGrKIs
import Derived.Test.YtbcmchkgamkceaaGreatDoorGrTMath
import Derived.Lib.Join
/-
  Tags and their texts, as lists of bytes: which ones are right, their texts, and how a text is cut. Nothing of the program. No statement of the seat is proved here.
-/
namespace Go.Proofs.YtbcmchkgamkceaaGreatDoor

/-- What stands ahead of the first byte c, and what behind it. -/
def cutC (c : UInt8) : List UInt8 → List UInt8 × List UInt8
  | [] => ([], [])
  | b :: r => if b = c then ([], r) else (b :: (cutC c r).1, (cutC c r).2)

theorem cut_no {c : UInt8} : ∀ {l : List UInt8}, c ∉ l → cutC c l = (l, [])
  | [], _ => rfl
  | b :: r, h => by
    simp only [List.mem_cons, not_or] at h
    rw [cutC, if_neg (fun e => h.1 e.symm), cut_no h.2]
theorem cut_at {c : UInt8} : ∀ {a b : List UInt8}, c ∉ a → cutC c (a ++ c :: b) = (a, b)
  | [], b, _ => by rw [List.nil_append, cutC, if_pos rfl]
  | x :: a, b, h => by
    simp only [List.mem_cons, not_or] at h
    rw [List.cons_append, cutC, if_neg (fun e => h.1 e.symm), cut_at h.2]
theorem split_at {l : List UInt8} {i : Nat} (h : i < l.length) : l = l.take i ++ l[i] :: l.drop (i + 1) := by
  rw [List.getElem_cons_drop, List.take_append_drop]
theorem cut_yes {c : UInt8} {l : List UInt8} {i : Nat} (h : i < l.length) (hc : l[i] = c) (hn : c ∉ l.take i) : cutC c l = (l.take i, l.drop (i + 1)) := by
  have e := split_at h
  rw [hc] at e
  have := cut_at (b := l.drop (i + 1)) hn
  rwa [← e] at this
theorem cut_len (c : UInt8) : ∀ l : List UInt8, (cutC c l).1.length ≤ l.length ∧ (cutC c l).2.length ≤ l.length
  | [] => by simp [cutC]
  | b :: r => by
    have := cut_len c r
    rw [cutC]
    split <;> simp <;> omega

/-- A tag is right. -/
def rightT (t : Tg) : Bool := faultOf 2 t.1 1 64 == (0, 0) && faultOf 3 t.2 0 100 == (0, 0)
/-- A tag's text. -/
def txt (t : Tg) : List UInt8 := if t.2 = [] then t.1 else t.1 ++ 58 :: t.2
/-- The tag of a piece; none: it is no text of a right tag. -/
def oneT (p : List UInt8) : Option Tg := if rightT (cutC 58 p) = true ∧ txt (cutC 58 p) = p then some (cutC 58 p) else none

theorem fault_zero {c : Int} {l : List UInt8} {lo hi : Int} (h : faultOf c l lo hi = (0, 0)) : lo ≤ l.length ∧ (l.length : Int) ≤ hi ∧ ∀ x ∈ l, isOf c x.toNat = true := by
  unfold faultOf at h
  split at h
  · cases h
  · split at h
    · cases h
    · split at h
      · cases h
      · split at h
        · cases h
        · rename_i h1 h2 h3 h4
          refine ⟨by omega, by omega, ?_⟩
          rcases bad_cases c l with ⟨k, hk, e, _⟩ | ⟨_, ha⟩
          · omega
          · intro x hx
            obtain ⟨i, hi, rfl⟩ := List.mem_iff_getElem.1 hx
            exact ha i hi
theorem right_parts {t : Tg} (h : rightT t = true) : (1 ≤ t.1.length ∧ t.1.length ≤ 64 ∧ ∀ x ∈ t.1, isOf 2 x.toNat = true) ∧ t.2.length ≤ 100 ∧ ∀ x ∈ t.2, isOf 3 x.toNat = true := by
  unfold rightT at h
  rw [Bool.and_eq_true, beq_iff_eq, beq_iff_eq] at h
  obtain ⟨a, b, c⟩ := fault_zero h.1
  obtain ⟨a', b', c'⟩ := fault_zero h.2
  exact ⟨⟨by omega, by omega, c⟩, by omega, c'⟩
theorem no58 {t : Tg} (h : rightT t = true) : (58 : UInt8) ∉ t.1 := fun m => by have := (right_parts h).1.2.2 58 m; exact absurd this (by decide)
theorem no44k {t : Tg} (h : rightT t = true) : (44 : UInt8) ∉ t.1 := fun m => by have := (right_parts h).1.2.2 44 m; exact absurd this (by decide)
theorem no44v {t : Tg} (h : rightT t = true) : (44 : UInt8) ∉ t.2 := fun m => by have := (right_parts h).2.2 44 m; exact absurd this (by decide)
theorem no44 {t : Tg} (h : rightT t = true) : (44 : UInt8) ∉ txt t := by
  unfold txt
  split
  · exact no44k h
  · simp only [List.mem_append, List.mem_cons, not_or]
    exact ⟨no44k h, by decide, no44v h⟩
theorem txt_len {t : Tg} (h : rightT t = true) : (txt t).length ≤ 165 := by
  have := right_parts h
  unfold txt
  split <;> simp <;> omega
theorem cut_txt {t : Tg} (h : rightT t = true) : cutC 58 (txt t) = t := by
  unfold txt
  split
  · rename_i e
    rw [cut_no (no58 h)]
    exact Prod.ext rfl e.symm
  · rw [cut_at (no58 h)]
theorem one_txt {t : Tg} (h : rightT t = true) : oneT (txt t) = some t := by
  unfold oneT
  rw [cut_txt h, if_pos ⟨h, rfl⟩]
theorem one_some {p : List UInt8} {t : Tg} (h : oneT p = some t) : rightT t = true ∧ txt t = p ∧ cutC 58 p = t := by
  unfold oneT at h
  split at h
  · rename_i k
    injection h with h
    rw [h] at k
    exact ⟨k.1, k.2, h⟩
  · cases h

/-- A text is cut at each comma. -/
def pieces : List UInt8 → List (List UInt8)
  | [] => [[]]
  | b :: r => if b = 44 then [] :: pieces r else match pieces r with
    | [] => [[b]]
    | p :: ps => (b :: p) :: ps

theorem pieces_ne : ∀ l, pieces l ≠ []
  | [] => by simp [pieces]
  | b :: r => by
    rw [pieces]
    split
    · simp
    · split <;> simp
theorem pieces_no : ∀ {l : List UInt8}, (44 : UInt8) ∉ l → pieces l = [l]
  | [], _ => rfl
  | b :: r, h => by
    simp only [List.mem_cons, not_or] at h
    rw [pieces, if_neg (fun e => h.1 e.symm), pieces_no h.2]
theorem pieces_append : ∀ (a b : List UInt8), pieces (a ++ 44 :: b) = pieces a ++ pieces b
  | [], b => by simp [pieces]
  | x :: a, b => by
    have ih := pieces_append a b
    rw [List.cons_append, pieces, pieces, ih]
    by_cases h : x = 44
    · rw [if_pos h, if_pos h]; rfl
    · rw [if_neg h, if_neg h]
      rcases hp : pieces a with _ | ⟨p, ps⟩
      · exact absurd hp (pieces_ne a)
      · rfl
theorem pieces_at {l : List UInt8} {i : Nat} (h : i < l.length) (hc : l[i] = 44) (hn : (44 : UInt8) ∉ l.take i) : pieces l = l.take i :: pieces (l.drop (i + 1)) := by
  have e := split_at h
  rw [hc] at e
  have := pieces_append (l.take i) (l.drop (i + 1))
  rw [← e, pieces_no hn] at this
  exact this
theorem pieces_yes {l : List UInt8} (h : (44 : UInt8) ∈ l) : pieces l = (cutC 44 l).1 :: pieces (cutC 44 l).2 ∧ (cutC 44 l).2 = l.drop ((cutC 44 l).1.length + 1) ∧ (cutC 44 l).1.length < l.length := by
  obtain ⟨i, hi, he⟩ : ∃ i, ∃ hi : i < l.length, l[i] = 44 ∧ (44 : UInt8) ∉ l.take i := by
    obtain ⟨k, hk, e⟩ := List.mem_iff_getElem.1 h
    cases hf : l.findIdx? (· == 44) with
    | none => exact absurd (List.findIdx?_eq_none_iff.mp hf l[k] (List.getElem_mem hk)) (by simp [e])
    | some i =>
      obtain ⟨hi, hp, hj⟩ := List.findIdx?_eq_some_iff_getElem.mp hf
      refine ⟨i, hi, by simpa using hp, fun m => ?_⟩
      obtain ⟨j, hj', e'⟩ := List.mem_iff_getElem.1 m
      rw [List.length_take] at hj'
      rw [List.getElem_take] at e'
      have := hj j (by omega)
      simp [e'] at this
  rw [cut_yes hi he.1 he.2]
  refine ⟨pieces_at hi he.1 he.2, ?_, ?_⟩
  · simp only [List.length_take, Nat.min_eq_left (Nat.le_of_lt hi)]
  · simp only [List.length_take]; omega
theorem pieces_none {l : List UInt8} (h : (44 : UInt8) ∉ l) : pieces l = [(cutC 44 l).1] := by rw [pieces_no h, cut_no h]
theorem join_two (x y : List UInt8) (r : List (List UInt8)) : Lib.join (x :: y :: r) [44] = x ++ 44 :: Lib.join (y :: r) [44] := by
  rw [Lib.join_cons, Lib.join_cons]
  simp [Lib.joinTail]
theorem pieces_join : ∀ {ps : List (List UInt8)}, ps ≠ [] → (∀ p ∈ ps, (44 : UInt8) ∉ p) → pieces (Lib.join ps [44]) = ps
  | [], h, _ => absurd rfl h
  | [p], _, h => by rw [Lib.join_one]; exact pieces_no (h p (by simp))
  | p :: q :: r, _, h => by
    rw [join_two, pieces_append, pieces_join (ps := q :: r) (by simp) (fun x hx => h x (List.mem_cons_of_mem _ hx)), pieces_no (h p (by simp))]
    rfl
theorem join_pieces : ∀ l : List UInt8, Lib.join (pieces l) [44] = l
  | [] => by simp [pieces, Lib.join_one]
  | b :: r => by
    have ih := join_pieces r
    rw [pieces]
    by_cases h : b = 44
    · rw [if_pos h]
      rcases hp : pieces r with _ | ⟨p, ps⟩
      · exact absurd hp (pieces_ne r)
      · rw [hp] at ih
        rw [join_two, ih, h]; rfl
    · rw [if_neg h]
      rcases hp : pieces r with _ | ⟨p, ps⟩
      · exact absurd hp (pieces_ne r)
      · rw [hp] at ih
        show Lib.join ((b :: p) :: ps) [44] = b :: r
        rw [Lib.join_cons] at ih ⊢
        rw [List.cons_append, ih]

/-- The tags of pieces, behind others; or at which byte the first piece begins that is no tag's text. -/
def pgo (acc : List Tg) (k : Nat) : List (List UInt8) → Nat ⊕ List Tg
  | [] => .inr acc
  | p :: ps => match oneT p with
    | none => .inl k
    | some t => pgo (acc ++ [t]) (k + p.length + 1) ps
def parseT (l : List UInt8) : Nat ⊕ List Tg := pgo [] 0 (pieces l)

theorem pgo_nil (acc : List Tg) (k : Nat) : pgo acc k [] = .inr acc := rfl
theorem pgo_bad {acc : List Tg} {k : Nat} {p : List UInt8} {ps : List (List UInt8)} (h : oneT p = none) : pgo acc k (p :: ps) = .inl k := by rw [pgo, h]
theorem pgo_ok {acc : List Tg} {k : Nat} {p : List UInt8} {ps : List (List UInt8)} {t : Tg} (h : oneT p = some t) : pgo acc k (p :: ps) = pgo (acc ++ [t]) (k + p.length + 1) ps := by rw [pgo, h]

theorem pgo_append : ∀ (ps qs : List (List UInt8)) (acc : List Tg) (k : Nat), pgo acc k (ps ++ qs) = match pgo acc k ps with
    | .inl e => .inl e
    | .inr ts => pgo ts (k + (ps.map fun p => p.length + 1).sum) qs
  | [], qs, acc, k => by simp [pgo_nil]
  | p :: ps, qs, acc, k => by
    rw [List.cons_append]
    rcases h : oneT p with _ | t
    · rw [pgo_bad h, pgo_bad h]
    · rw [pgo_ok h, pgo_ok h, pgo_append ps qs]
      simp only [List.map_cons, List.sum_cons]
      rw [show k + p.length + 1 + (ps.map fun p => p.length + 1).sum = k + (p.length + 1 + (ps.map fun p => p.length + 1).sum) by omega]
theorem pgo_shift : ∀ (ps : List (List UInt8)) (acc : List Tg) (k : Nat), pgo acc k ps = match pgo [] 0 ps with
    | .inl e => .inl (e + k)
    | .inr ts => .inr (acc ++ ts)
  | [], acc, k => by simp [pgo_nil]
  | p :: ps, acc, k => by
    rcases h : oneT p with _ | t
    · rw [pgo_bad h, pgo_bad h]; simp
    · rw [pgo_ok h, pgo_ok h, pgo_shift ps (acc ++ [t]), pgo_shift ps ([] ++ [t])]
      cases pgo [] 0 ps with
      | inl e => simp; omega
      | inr ts => simp
theorem sum_pieces : ∀ l : List UInt8, ((pieces l).map fun p => p.length + 1).sum = l.length + 1
  | [] => by simp [pieces]
  | b :: r => by
    have ih := sum_pieces r
    rw [pieces]
    split
    · simp [ih]; omega
    · rcases hp : pieces r with _ | ⟨p, ps⟩
      · exact absurd hp (pieces_ne r)
      · rw [hp] at ih
        simp only [List.map_cons, List.sum_cons, List.length_cons] at ih ⊢
        omega
theorem parse_parts (a b : List UInt8) : parseT (a ++ 44 :: b) = match parseT a with
    | .inl e => .inl e
    | .inr ts => match parseT b with
      | .inl f => .inl (f + (a.length + 1))
      | .inr us => .inr (ts ++ us) := by
  unfold parseT
  rw [pieces_append, pgo_append, sum_pieces]
  cases pgo [] 0 (pieces a) with
  | inl e => rfl
  | inr ts =>
    show pgo ts (0 + (a.length + 1)) (pieces b) = _
    rw [pgo_shift, Nat.zero_add]

theorem pgo_inr : ∀ (ps : List (List UInt8)) (acc : List Tg) (k : Nat) {ts : List Tg}, pgo acc k ps = .inr ts → ∃ us, ts = acc ++ us ∧ us.map txt = ps ∧ ∀ t ∈ us, rightT t = true
  | [], acc, k, ts, h => by rw [pgo_nil] at h; injection h with h; exact ⟨[], by simp [h], rfl, by simp⟩
  | p :: ps, acc, k, ts, h => by
    rcases ho : oneT p with _ | t
    · rw [pgo_bad ho] at h; cases h
    · rw [pgo_ok ho] at h
      obtain ⟨us, e, hm, hr⟩ := pgo_inr ps _ _ h
      obtain ⟨r1, r2, _⟩ := one_some ho
      refine ⟨t :: us, by rw [e]; simp, by rw [List.map_cons, hm, r2], ?_⟩
      intro x hx
      rcases List.mem_cons.1 hx with rfl | hx
      · exact r1
      · exact hr x hx
theorem pgo_texts : ∀ (us : List Tg) (acc : List Tg) (k : Nat), (∀ t ∈ us, rightT t = true) → pgo acc k (us.map txt) = .inr (acc ++ us)
  | [], acc, k, _ => by simp [pgo_nil]
  | t :: us, acc, k, h => by
    rw [List.map_cons, pgo_ok (one_txt (h t (by simp))), pgo_texts us _ _ (fun x hx => h x (List.mem_cons_of_mem _ hx))]
    simp

/-- The text of tags. -/
def textT (ts : List Tg) : List UInt8 := Lib.join (ts.map txt) [44]
theorem parse_text {ts : List Tg} (h0 : ts ≠ []) (h : ∀ t ∈ ts, rightT t = true) : parseT (textT ts) = .inr ts := by
  unfold parseT textT
  rw [pieces_join (by simpa using h0)]
  · rw [pgo_texts ts [] 0 h]; rfl
  · intro p hp
    obtain ⟨t, ht, rfl⟩ := List.mem_map.1 hp
    exact no44 (h t ht)
theorem text_parse {l : List UInt8} {ts : List Tg} (h : parseT l = .inr ts) : textT ts = l ∧ ts ≠ [] ∧ ∀ t ∈ ts, rightT t = true := by
  obtain ⟨us, rfl, hm, hr⟩ := pgo_inr _ _ _ h
  refine ⟨?_, ?_, by simpa using hr⟩
  · unfold textT
    rw [hm, join_pieces]
  · rintro e
    subst e
    exact pieces_ne l hm.symm
theorem pgo_inl : ∀ (ps : List (List UInt8)) (acc : List Tg) (k : Nat) {e : Nat}, pgo acc k ps = .inl e → e < k + (ps.map fun p => p.length + 1).sum
  | [], acc, k, e, h => by rw [pgo_nil] at h; cases h
  | p :: ps, acc, k, e, h => by
    simp only [List.map_cons, List.sum_cons]
    rcases ho : oneT p with _ | t
    · rw [pgo_bad ho] at h; injection h with h; omega
    · rw [pgo_ok ho] at h
      have := pgo_inl ps _ _ h
      omega
theorem parse_inl {l : List UInt8} {e : Nat} (h : parseT l = .inl e) : e ≤ l.length := by
  have := pgo_inl _ _ _ h
  rw [sum_pieces] at this
  omega
theorem textT_len {ts : List Tg} (h : ∀ t ∈ ts, rightT t = true) (hl : ts.length ≤ 600) : (textT ts).length ≤ 100000 := by
  have key : ∀ us : List Tg, (∀ t ∈ us, rightT t = true) → (Lib.join (us.map txt) [44]).length ≤ 166 * us.length := by
    intro us
    induction us with
    | nil => intro _; simp [Lib.join_nil]
    | cons t us ih =>
      intro h
      have h1 := txt_len (h t (by simp))
      have h2 := ih (fun x hx => h x (List.mem_cons_of_mem _ hx))
      rcases us with _ | ⟨u, us⟩
      · simp only [List.map_cons, List.map_nil, Lib.join_one, List.length_cons, List.length_nil]; omega
      · simp only [List.map_cons] at h2 ⊢
        rw [join_two]
        simp only [List.length_append, List.length_cons] at h2 ⊢
        omega
  have := key ts h
  unfold textT
  omega
end Go.Proofs.YtbcmchkgamkceaaGreatDoor

/-
  Metrics as plain data: which are right, what their one form is. Nothing of the program.
-/
namespace Go.Proofs.YtbcmchkgamkceaaGreatDoor
open Dc (D D0)

/-- A metric. -/
structure Mt where
  name : List UInt8
  kind : Int
  vals : List D
  rate : Int
  tags : List Tg
  time : Int
deriving DecidableEq

def M0 : Mt := ⟨[], 0, [], 0, [], 0⟩
def nameR (l : List UInt8) : Bool := decide (faultOf 1 l 1 200 = (0, 0))
def kindR (k : Int) : Bool := decide (1 ≤ k ∧ k ≤ 5)
def valsR (ok : Bool) (n : Nat) : Bool := ok && decide (1 ≤ n ∧ n ≤ 64)
def rateR (k r : Int) : Bool := decide (1 ≤ r ∧ r ≤ 1000000 ∧ (k = 2 → r = 1000000))
def tagsR (ts : List Tg) : Bool := decide (ts.length ≤ 32) && ts.all rightT
def timeR (t : Int) : Bool := decide (0 ≤ t ∧ t ≤ 1099511627776)
/-- How a metric is wrong, if its values are right, or not. -/
def restM (m : Mt) (ok : Bool) : Int :=
  if nameR m.name = false then 15 else if kindR m.kind = false then 16 else if valsR ok m.vals.length = false then 17
  else if rateR m.kind m.rate = false then 18 else if tagsR m.tags = false then 19 else if timeR m.time = false then 20 else 0
def okV (ds : List D) : Bool := ds.all fun d => decide (Dc.check d = 0)
def checkM (m : Mt) : Int := restM m (okV m.vals)
def form (d : D) : D := (Dc.normal d).getD d
def hasN (ds : List D) : Bool := ds.all fun d => (Dc.normal d).isSome
def codeM (m : Mt) : Int := restM m (hasN m.vals)
/-- Its values in their one forms. -/
def valM (m : Mt) : Mt := { m with vals := m.vals.map form }
/-- Its one form, if there is one. -/
def formM (m : Mt) : Mt := { m with vals := m.vals.map form, tags := norm m.tags }
def isM (m : Mt) : Bool := decide (checkM m = 0) && decide (m.tags = norm m.tags)
/-- What Normal tells. -/
def nM (m : Mt) : Mt := if codeM m = 0 then formM m else M0
def sameM (a b : Mt) : Bool := decide (codeM a = 0) && decide (codeM b = 0) && decide (nM a = nM b)

theorem form_check (d : D) : Dc.check (form d) = 0 ↔ (Dc.normal d).isSome = true := by
  unfold form
  rw [Dc.check_ok]
  cases h : Dc.normal d with
  | none =>
    refine ⟨fun k => ?_, fun k => by cases k⟩
    simp only [Option.getD_none] at k
    rw [Dc.normal_fix k] at h; cases h
  | some n => exact ⟨fun _ => rfl, fun _ => Dc.normal_one h⟩
theorem form_one {d : D} (h : Dc.check d = 0) : form d = d := by unfold form; rw [Dc.normal_fix (Dc.check_ok.1 h)]; rfl
theorem form_form (d : D) : form (form d) = form d := by
  cases h : Dc.normal d with
  | none => have e : form d = d := by unfold form; rw [h]; rfl
            rw [e, e]
  | some n => exact form_one ((form_check d).2 (by rw [h]; rfl))
theorem form_nVal {d : D} (h : (Dc.normal d).isSome = true) : (Dc.normal d).getD D0 = form d := by
  unfold form
  cases hn : Dc.normal d with
  | none => rw [hn] at h; cases h
  | some n => rfl

theorem okV_form (ds : List D) : okV (ds.map form) = hasN ds := by
  unfold okV hasN
  rw [List.all_map]
  congr 1
  funext d
  rw [Bool.eq_iff_iff]
  simp only [Function.comp, decide_eq_true_eq]
  exact form_check d
theorem checkM_val (m : Mt) : checkM (valM m) = codeM m := by
  show restM (valM m) (okV (m.vals.map form)) = restM m (hasN m.vals)
  rw [okV_form]
  unfold restM valM
  simp only [List.length_map]

theorem okV_hasN {ds : List D} (h : okV ds = true) : hasN ds = true := by
  unfold okV hasN at *
  rw [List.all_eq_true] at *
  intro d hd
  have := of_decide_eq_true (h d hd)
  rw [Dc.normal_fix (Dc.check_ok.1 this)]; rfl
theorem okV_map {ds : List D} (h : okV ds = true) : ds.map form = ds := by
  unfold okV at h
  rw [List.all_eq_true] at h
  exact (List.map_congr_left (g := fun d => d) fun d hd => form_one (of_decide_eq_true (h d hd))).trans (by simp)
theorem restM_zero {m : Mt} {ok : Bool} : restM m ok = 0 ↔ nameR m.name = true ∧ kindR m.kind = true ∧ valsR ok m.vals.length = true ∧ rateR m.kind m.rate = true ∧ tagsR m.tags = true ∧ timeR m.time = true := by
  unfold restM
  cases nameR m.name <;> cases kindR m.kind <;> cases valsR ok m.vals.length <;> cases rateR m.kind m.rate <;> cases tagsR m.tags <;> cases timeR m.time <;> simp
theorem valsR_ok {ok : Bool} {n : Nat} (h : valsR ok n = true) : ok = true ∧ 1 ≤ n ∧ n ≤ 64 := by
  unfold valsR at h
  rw [Bool.and_eq_true, decide_eq_true_eq] at h
  exact h
theorem checkM_ok {m : Mt} (h : checkM m = 0) : okV m.vals = true := (valsR_ok (restM_zero.1 h).2.2.1).1
theorem check_code {m : Mt} (h : checkM m = 0) : codeM m = 0 := by
  have := restM_zero.1 h
  refine restM_zero.2 ⟨this.1, this.2.1, ?_, this.2.2.2⟩
  obtain ⟨h1, h2⟩ := valsR_ok this.2.2.1
  unfold valsR
  rw [okV_hasN h1, decide_eq_true h2]; rfl
theorem tagsR_norm {ts : List Tg} (h : tagsR ts = true) : tagsR (norm ts) = true := by
  unfold tagsR at *
  rw [Bool.and_eq_true, decide_eq_true_eq] at *
  refine ⟨Nat.le_trans (norm_length ts) h.1, ?_⟩
  rw [List.all_eq_true]
  intro t ht
  exact List.all_eq_true.1 h.2 t (mem_norm.1 ht)
theorem formM_check {m : Mt} (h : codeM m = 0) : checkM (formM m) = 0 := by
  rw [← checkM_val] at h
  have := restM_zero.1 h
  exact restM_zero.2 ⟨this.1, this.2.1, this.2.2.1, this.2.2.2.1, tagsR_norm this.2.2.2.2.1, this.2.2.2.2.2⟩
theorem formM_code {m : Mt} (h : codeM m = 0) : codeM (formM m) = 0 := check_code (formM_check h)
theorem formM_formM (m : Mt) : formM (formM m) = formM m := by
  unfold formM
  simp only [List.map_map, norm_norm]
  congr 1
  refine List.map_congr_left fun d _ => form_form d
theorem isM_form {m : Mt} (h : codeM m = 0) : isM (formM m) = true := by
  unfold isM
  rw [decide_eq_true (formM_check h), decide_eq_true (show (formM m).tags = norm (formM m).tags from (norm_norm m.tags).symm)]; rfl
theorem isM_iff (m : Mt) : isM m = (decide (checkM m = 0) && decide (m = formM m)) := by
  unfold isM
  by_cases h : checkM m = 0
  · rw [decide_eq_true h, Bool.true_and, Bool.true_and]
    refine decide_eq_decide.2 ⟨fun k => ?_, fun k => congrArg Mt.tags k⟩
    obtain ⟨a, b, c, d, e, f⟩ := m
    unfold formM
    simp only [Mt.mk.injEq, true_and, and_true]
    exact ⟨(okV_map (checkM_ok h)).symm, k⟩
  · rw [decide_eq_false h, Bool.false_and, Bool.false_and]
theorem nM_ok {m : Mt} (h : codeM m = 0) : nM m = formM m := by unfold nM; rw [if_pos h]
theorem nM_no {m : Mt} (h : codeM m ≠ 0) : nM m = M0 := by unfold nM; rw [if_neg h]
theorem sameM_form {m : Mt} (h : codeM m = 0) : sameM m (formM m) = true := by
  unfold sameM
  rw [decide_eq_true h, decide_eq_true (formM_code h), nM_ok h, nM_ok (formM_code h), formM_formM, decide_eq_true rfl]; rfl
theorem sameM_no {m n : Mt} (h : codeM m ≠ 0) : sameM m n = false := by unfold sameM; rw [decide_eq_false h]; rfl
theorem sameM_comm (a b : Mt) : sameM a b = sameM b a := by
  unfold sameM
  rw [Bool.and_comm (decide (codeM a = 0)), show decide (nM a = nM b) = decide (nM b = nM a) from decide_eq_decide.2 ⟨Eq.symm, Eq.symm⟩]

/-- Not too great, and it can be held. -/
structure Small (m : Mt) : Prop where
  name : m.name.length ≤ 1000
  vals : m.vals.length ≤ 1000
  fits : ∀ d ∈ m.vals, d.Fits
  tags : m.tags.length ≤ 200
  lens : ∀ t ∈ m.tags, t.1.length ≤ 1000 ∧ t.2.length ≤ 1000
theorem form_fits {d : D} (h : d.Fits) : (form d).Fits := by
  unfold form
  cases hn : Dc.normal d with
  | none => exact h
  | some n => exact (Dc.normal_one hn).fits
theorem Small.val {m : Mt} (h : Small m) : Small (valM m) := ⟨h.name, by show (m.vals.map form).length ≤ 1000; rw [List.length_map]; exact h.vals, fun d hd => by
  obtain ⟨d', hd', rfl⟩ := List.mem_map.1 hd
  exact form_fits (h.fits d' hd'), h.tags, h.lens⟩
theorem Small.form {m : Mt} (h : Small m) : Small (formM m) := ⟨h.name, h.val.vals, h.val.fits, Nat.le_trans (norm_length _) h.tags, fun t ht => h.lens t (mem_norm.1 ht)⟩
theorem small0 : Small M0 := ⟨by decide, by decide, by simp [M0], by decide, by simp [M0]⟩
theorem Small.n {m : Mt} (h : Small m) : Small (nM m) := by
  unfold nM; split
  · exact h.form
  · exact small0
end Go.Proofs.YtbcmchkgamkceaaGreatDoor

/-
  What a format can say, as plain data. Nothing of the program.
-/
namespace Go.Proofs.YtbcmchkgamkceaaGreatDoor
open Dc (D D0)

def known (f : Int) : Bool := decide (1 ≤ f ∧ f ≤ 4)
/-- One value, and no tags. -/
def bareN (n k : Nat) : Bool := decide (n = 1) && decide (k = 0)
def says1 (n k : Nat) (kd tm : Int) (neg : Bool) : Bool := bareN n k && decide (tm = 0) && decide (kd ≠ 5) && !(decide (kd = 2) && neg)
def says3 (n k : Nat) (kd tm : Int) : Bool := bareN n k && decide (tm ≠ 0) && decide (kd = 2)
/-- Whether a format can say a metric that is right. -/
def saysM (m : Mt) (f : Int) : Bool :=
  if f = 1 then says1 m.vals.length m.tags.length m.kind m.time (m.vals.headD D0).neg
  else if f = 3 then says3 m.vals.length m.tags.length m.kind m.time else true
/-- Why a format cannot say a metric. -/
def metricE (m : Mt) (f : Int) : Int := if known f = false then 29 else if checkM m ≠ 0 then checkM m else if saysM m f = false then 26 else 0
end Go.Proofs.YtbcmchkgamkceaaGreatDoor
