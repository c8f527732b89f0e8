/-
  Package metric: Split. No statement of the seat is proved here.
-/
import Derived.Test.YteffankkelbhiaaMLaw
import Derived.Test.YteffankkelbhiaaBRows
import Derived.OwnWalk
namespace Go.Proofs.Yteffankkelbhiaa
open Go.RowKit
open Dc (D D0)

/-- One of the metrics that a metric is split into: where its rows lie, and between which blocks. -/
structure Ent where
  A : Option Addr
  ca : Nat
  B : Option Addr
  cb : Nat
  lo : Nat
  hi : Nat
def oneM (m : Mt) (d : D) : Mt := { m with vals := [d] }
theorem Small.one {m : Mt} (h : Small m) {d : D} (hd : d ∈ m.vals) : Small (oneM m d) := ⟨h.name, by show 1 ≤ 1000; omega, fun x hx => by
  rcases List.mem_singleton.1 hx with rfl
  exact h.fits _ hd, h.tags, h.lens⟩
theorem check_one {m : Mt} (h : checkM m = 0) {d : D} (hd : d ∈ m.vals) : checkM (oneM m d) = 0 := by
  have := restM_zero.1 h
  refine restM_zero.2 ⟨this.1, this.2.1, ?_, this.2.2.2⟩
  have h1 := checkM_ok h
  unfold okV at h1
  rw [List.all_eq_true] at h1
  show valsR (okV [d]) 1 = true
  unfold okV
  simp only [List.all_cons, List.all_nil, Bool.and_true, h1 d hd]
  decide
theorem decs_one {w : World} {A : Option Addr} {ds : List D} {i : Nat} (h : Decs w A ds) (hi : i < ds.length) : ∃ b off, A = some ⟨b, off, none⟩ ∧ Decs w (some ⟨b, off + i * 3, none⟩) [ds[i]] := by
  obtain ⟨b, off, n, x, y, e, c0, c1, c2, hd⟩ := h.get hi
  refine ⟨b, off, e, fun j u hu => ⟨b, off + i * 3, rfl, ?_⟩⟩
  rw [hd.neg] at c0
  rw [hd.c] at c1
  rw [hd.e] at c2
  rcases j with _ | _ | _ | j
  · injection hu with hu; subst hu; exact c0
  · injection hu with hu; subst hu; exact c1
  · injection hu with hu; subst hu; exact c2
  · cases hu

/-- Its six cells in the row. -/
def encE (s : ByteArray) (kd rt tm : Int) (k : Nat) (e : Ent) : List Value := [.string s, .int .i64 kd, .slice e.A 1 e.ca, .int .i64 rt, .slice e.B k e.cb, .int .i64 tm]
def flatE (s : ByteArray) (kd rt tm : Int) (k : Nat) (es : List Ent) : List Value := es.flatMap (encE s kd rt tm k)
theorem flatE_append (s : ByteArray) (kd rt tm : Int) (k : Nat) (a b : List Ent) : flatE s kd rt tm k (a ++ b) = flatE s kd rt tm k a ++ flatE s kd rt tm k b := by unfold flatE; rw [List.flatMap_append]
theorem flatE_cells {s : ByteArray} {kd rt tm : Int} {k : Nat} {es : List Ent} : ∀ u ∈ flatE s kd rt tm k es, u.oneCell' = true := by
  intro u hu
  obtain ⟨t, _, hu⟩ := List.mem_flatMap.1 hu
  simp [encE] at hu
  rcases hu with rfl | rfl | rfl | rfl | rfl | rfl <;> rfl
theorem flatE_get {s : ByteArray} {kd rt tm : Int} {k : Nat} : ∀ {es : List Ent} {i c : Nat} {e : Ent}, es[i]? = some e → c < 6 → (flatE s kd rt tm k es)[i * 6 + c]? = (encE s kd rt tm k e)[c]?
  | [], i, c, e, h, _ => by simp at h
  | t :: ts, 0, c, e, h, hc => by
    injection h with h; subst h
    show (encE s kd rt tm k t ++ flatE s kd rt tm k ts)[0 * 6 + c]? = _
    rw [List.getElem?_append_left (by show 0 * 6 + c < 6; omega)]
    congr 1; omega
  | t :: ts, i + 1, c, e, h, hc => by
    show (encE s kd rt tm k t ++ flatE s kd rt tm k ts)[(i + 1) * 6 + c]? = _
    rw [List.getElem?_append_right (by show 6 ≤ (i + 1) * 6 + c; omega), show (i + 1) * 6 + c - (encE s kd rt tm k t).length = i * 6 + c by show (i + 1) * 6 + c - 6 = _; omega]
    exact flatE_get h hc


theorem own_same {W W' : World} {base hi size n : Nat} {el : TypeId} {v : Value} {xs : List Value} (h : W.ownsRow base el size v n xs) (hb : ∀ g, v.ownBlock = some g → g < hi) (same : ∀ b, base ≤ b → b < hi → W'.heap[b]? = W.heap[b]?) : W'.ownsRow base el size v n xs := by
  refine ⟨h.1, ?_⟩
  rcases h.2 with h2 | ⟨g, cap, cur, hv, hg, hh, r⟩
  · exact .inl h2
  · exact .inr ⟨g, cap, cur, hv, hg, (same g hg (hb g (by rw [hv]; rfl))).trans hh, r⟩
theorem own_block_lt {W : World} {base size n : Nat} {el : TypeId} {v : Value} {xs : List Value} (h : W.ownsRow base el size v n xs) : ∀ g, v.ownBlock = some g → base ≤ g ∧ g < W.heap.size := by
  intro g hg
  rcases h.2 with ⟨rfl, _⟩ | ⟨g', cap, cur, rfl, hb, hh, _⟩
  · cases hg
  · injection hg with hg
    subst hg
    exact ⟨hb, by rcases Nat.lt_or_ge g' W.heap.size with h | h
                  · exact h
                  · rw [Array.getElem?_eq_none h] at hh; cases hh⟩

/-- One of them lies so. -/
structure EntOk (base : Nat) (W : World) (s : ByteArray) (k : Nat) (m : Mt) (e : Ent) (d : D) : Prop where
  own : OwnM e.lo W s e.A 1 e.ca e.B k e.cb (oneM m d)
  lo : base ≤ e.lo
  bA : ∀ g, (Value.slice e.A 1 e.ca).ownBlock = some g → g < e.hi
  bB : ∀ g, (Value.slice e.B k e.cb).ownBlock = some g → g < e.hi
  hi : e.hi ≤ W.heap.size
theorem EntOk.same {base : Nat} {W W' : World} {s : ByteArray} {k : Nat} {m : Mt} {e : Ent} {d : D} (h : EntOk base W s k m e d) (hs : W.heap.size ≤ W'.heap.size) (same : ∀ b, e.lo ≤ b → b < e.hi → W'.heap[b]? = W.heap[b]?) : EntOk base W' s k m e d :=
  ⟨⟨h.own.name, own_same h.own.vals h.bA same, own_same h.own.tags h.bB same⟩, h.lo, h.bA, h.bB, Nat.le_trans h.hi hs⟩

theorem Kb.of {w W : World} {g : Nat} {t : TypeId} {cs : List Value} {s : ByteArray} {A B : Option Addr} {n k : Nat} {m : Mt} (hb : Below w.heap.size w W) (hx : Box W g t cs) (hm : MIs w s A n B k m) : Kb w [(g, t, cs)] [(s, A, n, B, k, m)] W :=
  ⟨hb, fun x hx' => by rcases List.mem_singleton.1 hx' with rfl; exact hx, fun x hx' => by rcases List.mem_singleton.1 hx' with rfl; exact hm.keep hb⟩

/-- What Split tells. -/
structure SplitR (base : Nat) (W : World) (v : Value) (s : ByteArray) (k : Nat) (m : Mt) (i : Nat) (es : List Ent) : Prop where
  len : es.length = i
  own : W.ownsRow base 25 6 v i (flatE s m.kind m.rate m.time k es)
  ent : ∀ (j : Nat) e d, es[j]? = some e → m.vals[j]? = some d → EntOk base W s k m e d
  apart : es.Pairwise fun a b => a.hi ≤ b.lo
  row : ∀ g, v.ownBlock = some g → ∀ e ∈ es, g < e.lo ∨ e.hi ≤ g
  top : ∀ e ∈ es, e.hi ≤ W.heap.size

theorem lies_lit (w : World) (t : TypeId) (xs : List Value) {n : Nat} (hn : w.heap.size = n) : Lies (w.alloc (.cells xs.toArray t)) (some ⟨n, 0, none⟩) xs := by
  subst hn
  intro i u hu
  exact ⟨w.heap.size, 0, rfl, by rw [Nat.zero_add, (Box.new w t xs).cell i]; exact hu⟩

section
variable {w : World} {s : ByteArray} {A B : Option Addr} {n k ca cb : Nat} {m : Mt}
theorem SplitR.push {base i : Nat} {W W2 W3 : World} {v v' : Value} {es : List Ent} (h : SplitR base W v s k m i es) {e : Ent} {d : D} (hd : m.vals[i]? = some d)
    (hb : Below W.heap.size W W2) (he : EntOk base W2 s k m e d) (hl : W.heap.size ≤ e.lo) (hlh : e.lo ≤ e.hi)
    (hg : W2.grownBy W3 v.ownBlock) (hob : v'.ownBlock = v.ownBlock ∨ v'.ownBlock = some W2.heap.size)
    (ho : W3.ownsRow base 25 6 v' (i + 1) (flatE s m.kind m.rate m.time k es ++ encE s m.kind m.rate m.time k e)) : SplitR base W3 v' s k m (i + 1) (es ++ [e]) := by
  have hvlt := own_block_lt h.own
  have old : ∀ (j : Nat) e' d', es[j]? = some e' → m.vals[j]? = some d' → EntOk base W3 s k m e' d' := fun j e' d' hj hd' => by
    have x := h.ent j e' d' hj hd'
    refine x.same (Nat.le_trans hb.size hg.size) fun b hb1 hb2 => ?_
    have hbW : b < W.heap.size := Nat.lt_of_lt_of_le hb2 x.hi
    rw [hg.block b (Nat.lt_of_lt_of_le hbW hb.size) fun hc => ?_]
    · exact hb.block b hbW
    · rcases h.row b hc.symm e' (List.mem_of_getElem? hj) with h1 | h1 <;> omega
  refine ⟨by rw [List.length_append, h.len]; rfl, ?_, ?_, ?_, ?_, ?_⟩
  · rw [flatE_append, show flatE s m.kind m.rate m.time k [e] = encE s m.kind m.rate m.time k e from List.append_nil _]; exact ho
  · intro j e' d' hj hd'
    rcases Nat.lt_or_ge j es.length with hlt | hge
    · rw [List.getElem?_append_left hlt] at hj
      exact old j e' d' hj hd'
    · rw [List.getElem?_append_right hge] at hj
      have hj0 : j - es.length = 0 := by
        rcases Nat.eq_zero_or_pos (j - es.length) with h0 | h0
        · exact h0
        · rw [List.getElem?_eq_none (by show 1 ≤ _; omega)] at hj; cases hj
      rw [hj0] at hj
      injection hj with hj
      subst hj
      have : j = i := by have := h.len; omega
      subst this
      rw [hd] at hd'
      injection hd' with hd'
      subst hd'
      refine he.same hg.size fun b hb1 hb2 => ?_
      exact hg.block b (Nat.lt_of_lt_of_le hb2 he.hi) fun hc => by have := (hvlt b hc.symm).2; omega
  · rw [List.pairwise_append]
    refine ⟨h.apart, List.pairwise_singleton _ _, fun a ha b hb' => ?_⟩
    rcases List.mem_singleton.1 hb' with rfl
    exact Nat.le_trans (h.top a ha) hl
  · intro g hg' e' he'
    rcases List.mem_append.1 he' with he' | he'
    · rcases hob with h1 | h1
      · exact h.row g (h1 ▸ hg') e' he'
      · rw [h1] at hg'
        injection hg' with hg'
        subst hg'
        exact .inr (Nat.le_trans (h.top e' he') hb.size)
    · rcases List.mem_singleton.1 he' with rfl
      rcases hob with h1 | h1
      · left; exact Nat.lt_of_lt_of_le (hvlt g (h1 ▸ hg')).2 hl
      · rw [h1] at hg'
        injection hg' with hg'
        subst hg'
        exact .inr he.hi
  · intro e' he'
    rcases List.mem_append.1 he' with he' | he'
    · exact Nat.le_trans (h.top e' he') (Nat.le_trans hb.size hg.size)
    · rcases List.mem_singleton.1 he' with rfl
      exact Nat.le_trans he.hi hg.size

/-- How a call of Split ends. -/
def SplitP (w : World) (s : ByteArray) (n k : Nat) (m : Mt) (x : Int) (e : Ending) (w' : World) : Prop :=
  Below w.heap.size w w' ∧ ((x ≠ 0 ∧ e = .returned (.tuple #[.slice none 0 0, .int .i64 x])) ∨ (x = 0 ∧ ∃ v es, e = .returned (.tuple #[v, .int .i64 0]) ∧ SplitR (w.heap.size + 1) w' v s k m n es))
theorem clone_says {m' : Mt} (h : MIs w s A n B k m) (hz : Small m) (h1 : m.kind = m'.kind) (h2 : m.rate = m'.rate) (h3 : m.time = m'.time) : Calls Try.prog 19 #[.agg #[.string s, .int .i64 m'.kind, .slice A n ca, .int .i64 m'.rate, .slice B k cb, .int .i64 m'.time]] w fun e w' =>
    (∃ A' ca' B' cb', e = .returned (.agg #[.string s, .int .i64 m'.kind, .slice A' n ca', .int .i64 m'.rate, .slice B' k cb', .int .i64 m'.time]) ∧ OwnM w.heap.size w' s A' n ca' B' k cb' m) ∧ Below w.heap.size w w' := by
  rw [← h1, ← h2, ← h3]; exact clone_calls7 h hz
theorem encE_cells {s : ByteArray} {kd rt tm : Int} {k : Nat} {e : Ent} : ∀ u ∈ encE s kd rt tm k e, u.oneCell' = true := by
  intro u hu
  simp [encE] at hu
  rcases hu with rfl | rfl | rfl | rfl | rfl | rfl <;> rfl
/-- A metric that was just laid is appended. -/
theorem wpList_append_met {w2 : World} {kd rt tm : Int} {A' B' : Option Addr} {ca' cb' : Nat} {ops : Array Oper} {rest : List Oper} {o : Oper} {a : Act} {Q : Exit → Act → World → Prop} (hgd : o.guard = none) (l x : Operand)
    (ho : o.op = .call { callee := .builtin .append, args := #[l, x], argTypes := #[33, 33] })
    (base : Nat) (v : Value) (i : Nat) (xs : List Value) (hs : a.eval l = v) (hx : a.eval x = .slice (some ⟨w2.heap.size, 0, none⟩) 1 1)
    (hown : (w2.alloc (.cells #[.string s, .int .i64 kd, .slice A' 1 ca', .int .i64 rt, .slice B' k cb', .int .i64 tm] 25)).ownsRow base 25 6 v i xs)
    (hfit : i ≤ 1000) (hbase : base ≤ w2.heap.size)
    (h : ∀ v' w', w'.ownsRow base 25 6 v' (i + 1) (xs ++ encE s kd rt tm k ⟨A', ca', B', cb', 0, 0⟩) → (w2.alloc (.cells #[.string s, .int .i64 kd, .slice A' 1 ca', .int .i64 rt, .slice B' k cb', .int .i64 tm] 25)).grownBy w' v.ownBlock → (v'.ownBlock = v.ownBlock ∨ v'.ownBlock = some (w2.alloc (.cells #[.string s, .int .i64 kd, .slice A' 1 ca', .int .i64 rt, .slice B' k cb', .int .i64 tm] 25)).heap.size) → wpList Try.prog ops Q rest (a.put o.dst v') w') :
    wpList Try.prog ops Q (o :: rest) a (w2.alloc (.cells #[.string s, .int .i64 kd, .slice A' 1 ca', .int .i64 rt, .slice B' k cb', .int .i64 tm] 25)) :=
  wpList_append_rows _ rowMet hgd l x ho base v i xs hs hown (some ⟨w2.heap.size, 0, none⟩) 1 1 (encE s kd rt tm k ⟨A', ca', B', cb', 0, 0⟩) hx rfl (lies_lit w2 25 (encE s kd rt tm k ⟨A', ca', B', cb', 0, 0⟩) rfl) encE_cells (by omega) (by rw [size_alloc]; omega) h

set_option maxRecDepth 100000 in
set_option maxHeartbeats 4000000 in
theorem split_calls {x : Int} (h : MIs w s A n B k m) (hz : Small m) (hc : n ≤ ca ∧ ca ≤ maxLen) (hx : checkM m = x) : Calls Try.prog 46 #[mV s m.kind A n ca m.rate B k cb m.time] w (SplitP w s n k m x) := by
  have HH := Lib.hid (And.intro h (And.intro hz (And.intro hc hx)))
  have HB := Lib.hid (Kb.enter (ca := ca) (cb := cb) h)
  have hnz : n ≤ 1000 := by have := h.vlen; have := hz.vals; omega
  have hca : (n : Int) ≤ (ca : Int) := by omega
  have hca2 : (ca : Int) ≤ 9223372036854775807 := by have := hc.2; unfold maxLen at this; omega
  unfold mV
  clear h hz hc hx
  go_enter Try.func46, Try.ntmps46
  go_wp2_with fail
  refine (HB.out.check_ (.head _) HH.out.2.1 HH.out.2.2.2 _ _).mono ?_
  rintro e w1 ⟨rfl, hb⟩
  have HB1 := Lib.hid hb
  obtain ⟨c0, c1, c2, c3, c4, c5⟩ := hb.six (.head _)
  clear hb HB
  by_cases hx0 : x = 0
  · subst hx0
    obtain ⟨ti, hi, hz0, hz1, hz2⟩ := info_parts (rowMet).info
    obtain ⟨wm, hmk, hown, hgr⟩ := run_make_own (P := Try.prog) w1 (w.heap.size + 1) 33 25 ti _ 6 Try.underlying33 hi hz0 hz1 .i64 .i64 n (by rw [hz2]; omega) (by unfold maxLen; omega) (HB1.out.lt (.head _))
    have hbm : Below w1.heap.size w1 wm := (Below.refl w1.heap.size w1).grown hgr (Nat.le_refl _) (by intro k hk; cases hk)
    have hkm := HB1.out.next hbm
    have HM := Lib.hid (And.intro hown hkm)
    clear hi hz0 hz1 hz2 hown hgr c0 c1 c3 c4 c5
    obtain ⟨d0, d1, d2, d3, d4, d5⟩ := hkm.six (.head _)
    clear hbm hkm
    go_wp2_with fail
    go_loopw [5, 20] (fun v5 v20 wr => ∃ i : Nat, v20 = .int .i64 i ∧ i ≤ n ∧ Hid (∃ es, Kb w [(w.heap.size, 25, [.string s, .int .i64 m.kind, .slice A n ca, .int .i64 m.rate, .slice B k cb, .int .i64 m.time])] [(s, A, n, B, k, m)] wr ∧ SplitR (w.heap.size + 1) wr v5 s k m i es)) (fun _ v20 _ => n - (intOf v20).toNat)
    case atStart =>
      refine ⟨0, rfl, by omega, ⟨[], HM.out.2, ⟨rfl, HM.out.1, fun j e d h => ?_, List.Pairwise.nil, fun g _ e he => ?_, fun e he => ?_⟩⟩⟩
      · simp at h
      · cases he
      · cases he
    case round =>
      obtain ⟨i, rfl, hi, hrel⟩ := hrel
      clear HM hmk d0 d1 d2 d3 d4 d5 c2
      obtain ⟨es, hk, hs⟩ := hrel.out
      obtain ⟨c0, c1, c2, c3, c4, c5⟩ := hk.six (.head _)
      by_cases hlt : i < n
      · have g1 : (i : Int) < (n : Int) := by omega
        have g2 : (0 : Int) ≤ (i : Int) := by omega
        have hm := hk.m (.head _)
        have l0 : i < m.vals.length := by rw [hm.vlen]; exact hlt
        obtain ⟨b, off, e1, hone⟩ := decs_one hm.vals l0
        subst e1
        have HR := Lib.hid (And.intro hk (And.intro hs (And.intro hone l0)))
        have e2 : ∀ o, (wr.alloc o).cell? ⟨w.heap.size, 2, none⟩ = some (.slice (some ⟨b, off, none⟩) n ca) := fun o => (hk.alloc o).cell (.head _) rfl
        have g3 : (i : Int) + 1 ≤ (ca : Int) := by omega
        have g4 : (i : Int) ≤ (i : Int) + 1 := by omega
        have hmi : MIs (wr.alloc (.cells #[.string s, .int .i64 m.kind, .slice (some ⟨b, off + i * 3, none⟩) 1 (ca - i), .int .i64 m.rate, .slice B k cb, .int .i64 m.time] 25)) s (some ⟨b, off + i * 3, none⟩) 1 B k (oneM m m.vals[i]) := ⟨hm.name, rfl, hone.alloc _, hm.tlen, hm.tags.keep (m_below _ _)⟩
        have HC := Lib.hid (clone_says (m' := m) (ca := ca - i) (cb := cb) hmi (HH.out.2.1.one (List.getElem_mem l0)) rfl rfl rfl)
        have hW1 := Lib.hid (size_alloc wr (.cells #[.string s, .int .i64 m.kind, .slice (some ⟨b, off + i * 3, none⟩) 1 (ca - i), .int .i64 m.rate, .slice B k cb, .int .i64 m.time] 25))
        have HB0 := Lib.hid (m_below wr (.cells #[.string s, .int .i64 m.kind, .slice (some ⟨b, off + i * 3, none⟩) 1 (ca - i), .int .i64 m.rate, .slice B k cb, .int .i64 m.time] 25))
        clear hk hs hm hone hrel hmi
        go_wp2_with fail
        refine HC.out.mono ?_
        rintro e w2 ⟨⟨A', ca', B', cb', rfl, hown⟩, hb⟩
        have HW2 := Lib.hid (below_then HB0.out hb)
        have HO := Lib.hid hown
        have HL := Lib.hid (show wr.heap.size + 1 ≤ w2.heap.size by rw [← hW1.out]; exact hb.size)
        clear hown hb HC HB0 c0 c1 c2 c3 c4 c5 e2
        have hrow := own_keep HR.out.2.1.own (below_then HW2.out (m_below w2 (.cells #[.string s, .int .i64 m.kind, .slice A' 1 ca', .int .i64 m.rate, .slice B' k cb', .int .i64 m.time] 25)))
        have HRow := Lib.hid hrow
        have hk8 := HR.out.1.next (below_then HW2.out (m_below w2 (.cells #[.string s, .int .i64 m.kind, .slice A' 1 ca', .int .i64 m.rate, .slice B' k cb', .int .i64 m.time] 25)))
        have HK := Lib.hid hk8
        have HKL := Lib.hid (show w.heap.size + 1 ≤ w2.heap.size from Nat.lt_of_lt_of_le (HR.out.1.lt (.head _)) HW2.out.size)
        clear hrow hk8
        go_wp2_with (first | (at_builtin; refine wpList_append_met rfl (.tmp 31) (.tmp 34) rfl (w.heap.size + 1) u5 i _ rfl rfl HRow.out (by omega) HKL.out ?_; intro v8 w8 hown8 hgr8 hob8; have HW8 := Lib.hid (And.intro hown8 (And.intro hgr8 hob8)); clear hown8 hgr8 hob8))
        refine ⟨⟨i + 1, by go_num, by omega, ⟨es ++ [⟨A', ca', B', cb', wr.heap.size + 1, w2.heap.size⟩], ?_, ?_⟩⟩, by simp [intOf]; omega⟩
        · have hne : ∀ k, HK.out.kept.size = HK.out.kept.size → u5.ownBlock = some k → w.heap.size + 1 ≤ k := fun k _ hk => (own_block_lt HR.out.2.1.own k hk).1
          refine Kb.of (HK.out.kept.grown HW8.out.2.1 HK.out.kept.size fun k hk => Nat.le_trans (Nat.le_succ _) (hne k rfl hk)) ?_ HH.out.1
          exact (HW8.out.2.1.block _ (HK.out.lt (.head _)) fun hc => by have := hne _ rfl hc.symm; omega).trans (HK.out.box _ (.head _))
        · have hsz := hW1.out
          have ho := HO.out
          rw [hsz] at ho
          have hs2 := HW2.out.size
          have he : EntOk (w.heap.size + 1) (w2.alloc (.cells #[.string s, .int .i64 m.kind, .slice A' 1 ca', .int .i64 m.rate, .slice B' k cb', .int .i64 m.time] 25)) s k m ⟨A', ca', B', cb', wr.heap.size + 1, w2.heap.size⟩ m.vals[i] :=
            ⟨ho.keep (m_below w2 _), by have := HR.out.1.kept.size; show w.heap.size + 1 ≤ wr.heap.size + 1; omega, fun g hg => (own_block_lt ho.vals g hg).2, fun g hg => (own_block_lt ho.tags g hg).2, by rw [size_alloc]; exact Nat.le_succ _⟩
          exact HR.out.2.1.push (List.getElem?_eq_getElem HR.out.2.2.2) (below_then HW2.out (m_below w2 _)) he (Nat.le_succ _) HL.out HW8.out.2.1 HW8.out.2.2 HW8.out.1
      · have g1 : ¬ (i : Int) < (n : Int) := by omega
        have HR := Lib.hid (And.intro hk hs)
        clear hk hs hrel
        obtain rfl : n = i := by omega
        go_wp2_with fail
        go_ret2
        exact ⟨HR.out.1.kept, .inr ⟨rfl, _, es, rfl, HR.out.2⟩⟩
  · have hx1 : (x == 0) = false := by simpa using hx0
    go_wp2_with fail
    go_ret2
    exact ⟨HB1.out.kept, .inl ⟨hx0, rfl⟩⟩
end
end Go.Proofs.Yteffankkelbhiaa
