/-
  Package metric: Split. No statement of the seat is proved here.
-/
import Derived.Test.YtikdolgcdkmmaaaMLaw
import Derived.OwnWalk
namespace Go.Proofs.Ytikdolgcdkmmaaa
open Go.RowKit
open Dc (D D0)

/-- One of the metrics that a metric is split into: where its rows lie, and between which blocks. -/
structure Ent where
  A : Option Addr
  ca : Nat
  B : Option Addr
  cb : Nat
  lo : Nat
  hi : Nat
def oneM (m : Mt) (d : D) : Mt := { m with vals := [d] }
theorem Small.one {m : Mt} (h : Small m) {d : D} (hd : d ∈ m.vals) : Small (oneM m d) := ⟨h.name, by show 1 ≤ 1000; omega, fun x hx => by
  rcases List.mem_singleton.1 hx with rfl
  exact h.fits _ hd, h.tags, h.lens⟩
theorem check_one {m : Mt} (h : checkM m = 0) {d : D} (hd : d ∈ m.vals) : checkM (oneM m d) = 0 := by
  have := restM_zero.1 h
  refine restM_zero.2 ⟨this.1, this.2.1, ?_, this.2.2.2⟩
  have h1 := checkM_ok h
  unfold okV at h1
  rw [List.all_eq_true] at h1
  show valsR (okV [d]) 1 = true
  unfold okV
  simp only [List.all_cons, List.all_nil, Bool.and_true, h1 d hd]
  decide
theorem decs_one {w : World} {A : Option Addr} {ds : List D} {i : Nat} (h : Decs w A ds) (hi : i < ds.length) : ∃ b off, A = some ⟨b, off, none⟩ ∧ Decs w (some ⟨b, off + i * 3, none⟩) [ds[i]] := by
  obtain ⟨b, off, n, x, y, e, c0, c1, c2, hd⟩ := h.get hi
  refine ⟨b, off, e, fun j u hu => ⟨b, off + i * 3, rfl, ?_⟩⟩
  rw [hd.neg] at c0
  rw [hd.c] at c1
  rw [hd.e] at c2
  rcases j with _ | _ | _ | j
  · injection hu with hu; subst hu; exact c0
  · injection hu with hu; subst hu; exact c1
  · injection hu with hu; subst hu; exact c2
  · cases hu

/-- Its six cells in the row. -/
def encE (s : ByteArray) (kd rt tm : Int) (k : Nat) (e : Ent) : List Value := [.string s, .int .i64 kd, .slice e.A 1 e.ca, .int .i64 rt, .slice e.B k e.cb, .int .i64 tm]
def flatE (s : ByteArray) (kd rt tm : Int) (k : Nat) (es : List Ent) : List Value := es.flatMap (encE s kd rt tm k)
theorem flatE_append (s : ByteArray) (kd rt tm : Int) (k : Nat) (a b : List Ent) : flatE s kd rt tm k (a ++ b) = flatE s kd rt tm k a ++ flatE s kd rt tm k b := by unfold flatE; rw [List.flatMap_append]
theorem flatE_cells {s : ByteArray} {kd rt tm : Int} {k : Nat} {es : List Ent} : ∀ u ∈ flatE s kd rt tm k es, u.oneCell' = true := by
  intro u hu
  obtain ⟨t, _, hu⟩ := List.mem_flatMap.1 hu
  simp [encE] at hu
  rcases hu with rfl | rfl | rfl | rfl | rfl | rfl <;> rfl
theorem flatE_get {s : ByteArray} {kd rt tm : Int} {k : Nat} : ∀ {es : List Ent} {i c : Nat} {e : Ent}, es[i]? = some e → c < 6 → (flatE s kd rt tm k es)[i * 6 + c]? = (encE s kd rt tm k e)[c]?
  | [], i, c, e, h, _ => by simp at h
  | t :: ts, 0, c, e, h, hc => by
    injection h with h; subst h
    show (encE s kd rt tm k t ++ flatE s kd rt tm k ts)[0 * 6 + c]? = _
    rw [List.getElem?_append_left (by show 0 * 6 + c < 6; omega)]
    congr 1; omega
  | t :: ts, i + 1, c, e, h, hc => by
    show (encE s kd rt tm k t ++ flatE s kd rt tm k ts)[(i + 1) * 6 + c]? = _
    rw [List.getElem?_append_right (by show 6 ≤ (i + 1) * 6 + c; omega), show (i + 1) * 6 + c - (encE s kd rt tm k t).length = i * 6 + c by show (i + 1) * 6 + c - 6 = _; omega]
    exact flatE_get h hc

theorem rowMet : RowTy 41 25 (.agg #[.string ⟨#[]⟩, .int .i64 0, .slice none 0 0, .int .i64 0, .slice none 0 0, .int .i64 0]) 6 88 := ⟨Try.underlying41, by kernel_rfl, rfl, by omega, by omega⟩

theorem own_same {W W' : World} {base hi size n : Nat} {el : TypeId} {v : Value} {xs : List Value} (h : W.ownsRow base el size v n xs) (hb : ∀ g, v.ownBlock = some g → g < hi) (same : ∀ b, base ≤ b → b < hi → W'.heap[b]? = W.heap[b]?) : W'.ownsRow base el size v n xs := by
  refine ⟨h.1, ?_⟩
  rcases h.2 with h2 | ⟨g, cap, cur, hv, hg, hh, r⟩
  · exact .inl h2
  · exact .inr ⟨g, cap, cur, hv, hg, (same g hg (hb g (by rw [hv]; rfl))).trans hh, r⟩
theorem own_block_lt {W : World} {base size n : Nat} {el : TypeId} {v : Value} {xs : List Value} (h : W.ownsRow base el size v n xs) : ∀ g, v.ownBlock = some g → base ≤ g ∧ g < W.heap.size := by
  intro g hg
  rcases h.2 with ⟨rfl, _⟩ | ⟨g', cap, cur, rfl, hb, hh, _⟩
  · cases hg
  · injection hg with hg
    subst hg
    exact ⟨hb, by rcases Nat.lt_or_ge g' W.heap.size with h | h
                  · exact h
                  · rw [Array.getElem?_eq_none h] at hh; cases hh⟩

/-- One of them lies so. -/
structure EntOk (base : Nat) (W : World) (s : ByteArray) (k : Nat) (m : Mt) (e : Ent) (d : D) : Prop where
  own : OwnM e.lo W s e.A 1 e.ca e.B k e.cb (oneM m d)
  lo : base ≤ e.lo
  bA : ∀ g, (Value.slice e.A 1 e.ca).ownBlock = some g → g < e.hi
  bB : ∀ g, (Value.slice e.B k e.cb).ownBlock = some g → g < e.hi
  hi : e.hi ≤ W.heap.size
theorem EntOk.same {base : Nat} {W W' : World} {s : ByteArray} {k : Nat} {m : Mt} {e : Ent} {d : D} (h : EntOk base W s k m e d) (hs : W.heap.size ≤ W'.heap.size) (same : ∀ b, e.lo ≤ b → b < e.hi → W'.heap[b]? = W.heap[b]?) : EntOk base W' s k m e d :=
  ⟨⟨h.own.name, own_same h.own.vals h.bA same, own_same h.own.tags h.bB same⟩, h.lo, h.bA, h.bB, Nat.le_trans h.hi hs⟩

theorem Kb.of {w W : World} {g : Nat} {t : TypeId} {cs : List Value} {s : ByteArray} {A B : Option Addr} {n k : Nat} {m : Mt} (hb : Below w.heap.size w W) (hx : Box W g t cs) (hm : MIs w s A n B k m) : Kb w [(g, t, cs)] [(s, A, n, B, k, m)] W :=
  ⟨hb, fun x hx' => by rcases List.mem_singleton.1 hx' with rfl; exact hx, fun x hx' => by rcases List.mem_singleton.1 hx' with rfl; exact hm.keep hb⟩

/-- What Split tells. -/
structure SplitR (base : Nat) (W : World) (v : Value) (s : ByteArray) (k : Nat) (m : Mt) (i : Nat) (es : List Ent) : Prop where
  len : es.length = i
  own : W.ownsRow base 25 6 v i (flatE s m.kind m.rate m.time k es)
  ent : ∀ (j : Nat) e d, es[j]? = some e → m.vals[j]? = some d → EntOk base W s k m e d
  apart : es.Pairwise fun a b => a.hi ≤ b.lo
  row : ∀ g, v.ownBlock = some g → ∀ e ∈ es, g < e.lo ∨ e.hi ≤ g
  top : ∀ e ∈ es, e.hi ≤ W.heap.size

theorem lies_lit (w : World) (t : TypeId) (xs : List Value) {n : Nat} (hn : w.heap.size = n) : Lies (w.alloc (.cells xs.toArray t)) (some ⟨n, 0, none⟩) xs := by
  subst hn
  intro i u hu
  exact ⟨w.heap.size, 0, rfl, by rw [Nat.zero_add, (Box.new w t xs).cell i]; exact hu⟩

section
variable {w : World} {s : ByteArray} {A B : Option Addr} {n k ca cb : Nat} {m : Mt}
theorem SplitR.push {base i : Nat} {W W2 W3 : World} {v v' : Value} {es : List Ent} (h : SplitR base W v s k m i es) {e : Ent} {d : D} (hd : m.vals[i]? = some d)
    (hb : Below W.heap.size W W2) (he : EntOk base W2 s k m e d) (hl : W.heap.size ≤ e.lo) (hlh : e.lo ≤ e.hi)
    (hg : W2.grownBy W3 v.ownBlock) (hob : v'.ownBlock = v.ownBlock ∨ v'.ownBlock = some W2.heap.size)
    (ho : W3.ownsRow base 25 6 v' (i + 1) (flatE s m.kind m.rate m.time k es ++ encE s m.kind m.rate m.time k e)) : SplitR base W3 v' s k m (i + 1) (es ++ [e]) := by
  have hvlt := own_block_lt h.own
  have old : ∀ (j : Nat) e' d', es[j]? = some e' → m.vals[j]? = some d' → EntOk base W3 s k m e' d' := fun j e' d' hj hd' => by
    have x := h.ent j e' d' hj hd'
    refine x.same (Nat.le_trans hb.size hg.size) fun b hb1 hb2 => ?_
    have hbW : b < W.heap.size := Nat.lt_of_lt_of_le hb2 x.hi
    rw [hg.block b (Nat.lt_of_lt_of_le hbW hb.size) fun hc => ?_]
    · exact hb.block b hbW
    · rcases h.row b hc.symm e' (List.mem_of_getElem? hj) with h1 | h1 <;> omega
  refine ⟨by rw [List.length_append, h.len]; rfl, ?_, ?_, ?_, ?_, ?_⟩
  · rw [flatE_append, show flatE s m.kind m.rate m.time k [e] = encE s m.kind m.rate m.time k e from List.append_nil _]; exact ho
  · intro j e' d' hj hd'
    rcases Nat.lt_or_ge j es.length with hlt | hge
    · rw [List.getElem?_append_left hlt] at hj
      exact old j e' d' hj hd'
    · rw [List.getElem?_append_right hge] at hj
      have hj0 : j - es.length = 0 := by
        rcases Nat.eq_zero_or_pos (j - es.length) with h0 | h0
        · exact h0
        · rw [List.getElem?_eq_none (by show 1 ≤ _; omega)] at hj; cases hj
      rw [hj0] at hj
      injection hj with hj
      subst hj
      have : j = i := by have := h.len; omega
      subst this
      rw [hd] at hd'
      injection hd' with hd'
      subst hd'
      refine he.same hg.size fun b hb1 hb2 => ?_
      exact hg.block b (Nat.lt_of_lt_of_le hb2 he.hi) fun hc => by have := (hvlt b hc.symm).2; omega
  · rw [List.pairwise_append]
    refine ⟨h.apart, List.pairwise_singleton _ _, fun a ha b hb' => ?_⟩
    rcases List.mem_singleton.1 hb' with rfl
    exact Nat.le_trans (h.top a ha) hl
  · intro g hg' e' he'
    rcases List.mem_append.1 he' with he' | he'
    · rcases hob with h1 | h1
      · exact h.row g (h1 ▸ hg') e' he'
      · rw [h1] at hg'
        injection hg' with hg'
        subst hg'
        exact .inr (Nat.le_trans (h.top e' he') hb.size)
    · rcases List.mem_singleton.1 he' with rfl
      rcases hob with h1 | h1
      · left; exact Nat.lt_of_lt_of_le (hvlt g (h1 ▸ hg')).2 hl
      · rw [h1] at hg'
        injection hg' with hg'
        subst hg'
        exact .inr he.hi
  · intro e' he'
    rcases List.mem_append.1 he' with he' | he'
    · exact Nat.le_trans (h.top e' he') (Nat.le_trans hb.size hg.size)
    · rcases List.mem_singleton.1 he' with rfl
      exact Nat.le_trans he.hi hg.size

/-- How a call of Split ends. -/
def SplitP (w : World) (s : ByteArray) (n k : Nat) (m : Mt) (x : Int) (e : Ending) (w' : World) : Prop :=
  Below w.heap.size w w' ∧ ((x ≠ 0 ∧ e = .returned (.tuple #[.slice none 0 0, .int .i64 x])) ∨ (x = 0 ∧ ∃ v es, e = .returned (.tuple #[v, .int .i64 0]) ∧ SplitR (w.heap.size + 1) w' v s k m n es))
theorem clone_says {m' : Mt} (h : MIs w s A n B k m) (hz : Small m) (h1 : m.kind = m'.kind) (h2 : m.rate = m'.rate) (h3 : m.time = m'.time) : Calls Try.prog 11 #[.agg #[.string s, .int .i64 m'.kind, .slice A n ca, .int .i64 m'.rate, .slice B k cb, .int .i64 m'.time]] w fun e w' =>
    (∃ A' ca' B' cb', e = .returned (.agg #[.string s, .int .i64 m'.kind, .slice A' n ca', .int .i64 m'.rate, .slice B' k cb', .int .i64 m'.time]) ∧ OwnM w.heap.size w' s A' n ca' B' k cb' m) ∧ Below w.heap.size w w' := by
  rw [← h1, ← h2, ← h3]; exact clone_calls7 h hz
theorem encE_cells {s : ByteArray} {kd rt tm : Int} {k : Nat} {e : Ent} : ∀ u ∈ encE s kd rt tm k e, u.oneCell' = true := by
  intro u hu
  simp [encE] at hu
  rcases hu with rfl | rfl | rfl | rfl | rfl | rfl <;> rfl
/-- A metric that was just laid is appended. -/
theorem wpList_append_met {w2 : World} {kd rt tm : Int} {A' B' : Option Addr} {ca' cb' : Nat} {ops : Array Oper} {rest : List Oper} {o : Oper} {a : Act} {Q : Exit → Act → World → Prop} (hgd : o.guard = none) (l x : Operand)
    (ho : o.op = .call { callee := .builtin .append, args := #[l, x], argTypes := #[41, 41] })
    (base : Nat) (v : Value) (i : Nat) (xs : List Value) (hs : a.eval l = v) (hx : a.eval x = .slice (some ⟨w2.heap.size, 0, none⟩) 1 1)
    (hown : (w2.alloc (.cells #[.string s, .int .i64 kd, .slice A' 1 ca', .int .i64 rt, .slice B' k cb', .int .i64 tm] 25)).ownsRow base 25 6 v i xs)
    (hfit : i ≤ 1000) (hbase : base ≤ w2.heap.size)
    (h : ∀ v' w', w'.ownsRow base 25 6 v' (i + 1) (xs ++ encE s kd rt tm k ⟨A', ca', B', cb', 0, 0⟩) → (w2.alloc (.cells #[.string s, .int .i64 kd, .slice A' 1 ca', .int .i64 rt, .slice B' k cb', .int .i64 tm] 25)).grownBy w' v.ownBlock → (v'.ownBlock = v.ownBlock ∨ v'.ownBlock = some (w2.alloc (.cells #[.string s, .int .i64 kd, .slice A' 1 ca', .int .i64 rt, .slice B' k cb', .int .i64 tm] 25)).heap.size) → wpList Try.prog ops Q rest (a.put o.dst v') w') :
    wpList Try.prog ops Q (o :: rest) a (w2.alloc (.cells #[.string s, .int .i64 kd, .slice A' 1 ca', .int .i64 rt, .slice B' k cb', .int .i64 tm] 25)) :=
  wpList_append_rows _ rowMet hgd l x ho base v i xs hs hown (some ⟨w2.heap.size, 0, none⟩) 1 1 (encE s kd rt tm k ⟨A', ca', B', cb', 0, 0⟩) hx rfl (lies_lit w2 25 (encE s kd rt tm k ⟨A', ca', B', cb', 0, 0⟩) rfl) encE_cells (by omega) (by rw [size_alloc]; omega) h

end
end Go.Proofs.Ytikdolgcdkmmaaa
