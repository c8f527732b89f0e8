/-
  BNormal, BFw, BNames, BTexts. No statement of the seat is proved here.
-/
import Derived.Test.YtikdolgcdkmmaaaBRow0
import Derived.Test.YtikdolgcdkmmaaaBOwn
import Derived.Test.YtikdolgcdkmmaaaMNormal
import Derived.Maps.OwnIn
import Derived.Maps.AppendAt
import Derived.Test.YtikdolgcdkmmaaaMEqual
/-
  batch.Check and batch.Normal. No statement of the seat is proved here.
-/
namespace Go.Proofs.Ytikdolgcdkmmaaa
open Go.RowKit Go.Shelf
open Dc (D D0)

/-- Each of them is small. -/
def Smalls (es : List En) : Prop := ∀ e ∈ es, Small e.m

set_option maxRecDepth 100000 in
set_option maxHeartbeats 2000000 in
theorem bcheck_calls {w : World} {A : Option Addr} {len cap : Nat} {es : List En} (hlen : es.length = len) (hz : len ≤ 100000) (hM : Mets w A es) (hs : Smalls es) :
    Calls Try.prog 17 #[.slice A len cap] w fun e w' => e = .returned (.tuple #[.int .i64 ((fwB checkM (datM es)).1 : Int), .int .i64 (fwB checkM (datM es)).2]) ∧ Below w.heap.size w w' := by
  have hC := first_check (cap := cap) (C := checkM) (J := fun _ _ => True) hlen hz hM (Below.refl _ _) (fun _ _ _ _ _ _ _ => trivial) (fun _ _ _ _ _ _ _ => trivial) trivial
    (fun pre x W _ hB _ _ => (mcheck_calls (ca := x.1.2.ca) (cb := x.1.2.cb) ((hM.keep hB).one x.2) (hs _ (List.mem_of_getElem? x.2))).mono fun e w' h => ⟨h.1, h.2.mono hB.size, KeepsX.of_below h.2, trivial⟩)
  obtain ⟨p, hp⟩ : ∃ p, fwB checkM (datM es) = p := ⟨_, rfl⟩
  rw [hp] at hC ⊢
  obtain ⟨p1, p2⟩ := p
  have HC := Lib.hid hC
  clear hC hp hM hs
  go_enter Try.func17, Try.ntmps17
  go_wp2_with fail
  refine HC.out.mono ?_
  rintro e w2 ⟨rfl, hb, _⟩
  have HB := Lib.hid hb
  clear hb
  go_wp2_with fail
  go_ret2
  exact ⟨rfl, HB.out⟩

/-- What a call of the closure leaves. -/
structure FormR (X : Nat → Prop) (W : World) (base fb : Nat) (v : Value) (i : Nat) (fs : List En) (m : Mt) (W' : World) : Prop where
  row : ∃ v' e', e'.m = nM m ∧ Boxed W' fb 41 v' ∧ RowM X W' base v' (i + 1) (fs ++ [e'])
  below : ∀ B, B ≤ fb → B ≤ base → Below B W W'
  block : ∀ b, b < W.heap.size → b ≠ fb → v.ownBlock ≠ some b → W'.heap[b]? = W.heap[b]?

set_option maxRecDepth 100000 in
set_option maxHeartbeats 4000000 in
theorem form_calls {W : World} {X : Nat → Prop} {base fb i : Nat} {v : Value} {fs : List En} {s : ByteArray} {A B : Option Addr} {n ca k cb : Nat} {m : Mt} (hM : MIs W s A n B k m) (hz : Small m)
    (hbx : Boxed W fb 41 v) (hrow : RowM X W base v i fs) (hX : ∀ b, X b → b < W.heap.size) (hfb : X fb) (hi : i ≤ 2000) (hbase : base ≤ W.heap.size) :
    Calls Try.prog 36 #[.agg #[.string s, .int .i64 m.kind, .slice A n ca, .int .i64 m.rate, .slice B k cb, .int .i64 m.time], .pointer (some ⟨fb, 0, none⟩)] W fun e W' => e = .returned (.int .i64 (codeM m)) ∧ FormR X W base fb v i fs m W' := by
  have hN := mnormal_fresh (ca := ca) (cb := cb) (hM.alloc (.cells #[.string s, .int .i64 m.kind, .slice A n ca, .int .i64 m.rate, .slice B k cb, .int .i64 m.time] 25)) hz
  unfold NormMF mV at hN
  obtain ⟨q, hq⟩ : ∃ q, codeM m = q := ⟨_, rfl⟩
  obtain ⟨m', hm'⟩ : ∃ m', nM m = m' := ⟨_, rfl⟩
  rw [hq, hm'] at hN
  rw [hq]
  obtain ⟨Av, cv, rfl, _⟩ := hrow.sl
  have HN := Lib.hid hN
  have HH := Lib.hid (And.intro hbx (And.intro hrow (And.intro hX (And.intro hfb hm'))))
  have hlt := hbx.lt
  clear hN hq hm' hM hz hrow hX hfb hbx
  go_enter Try.func36, Try.ntmps36
  go_wp2_with fail
  refine HN.out.mono ?_
  rintro e w2 ⟨⟨s1, A1, n1, ca1, B1, k1, cb1, rfl, hm1, hfa, hfB⟩, hb⟩
  have hb1 : Below W.heap.size W w2 := (m_below W _).trans (hb.mono (by rw [size_alloc]; omega))
  have cf : w2.cell? ⟨fb, 0, none⟩ = some (.slice Av i cv) := (CKept.of_below (X := fun _ => False) hb1).cell HH.out.1.cell id
  have nf : fb < w2.heap.size := Nat.lt_of_lt_of_le hlt hb1.size
  have nf1 : fb < w2.heap.size + 1 := by omega
  have nf2 : fb < w2.heap.size + 1 + 1 := by omega
  have HE := Lib.hid (And.intro hm1 (And.intro hfa (And.intro hfB hb1)))
  have HR := Lib.hid ((HH.out.2.1.keep hb1).keep (below_then (m_below w2 (.cells #[.string s1, .int .i64 m'.kind, .slice A1 n1 ca1, .int .i64 m'.rate, .slice B1 k1 cb1, .int .i64 m'.time] 25)) (m_below _ (.cells #[.string s1, .int .i64 m'.kind, .slice A1 n1 ca1, .int .i64 m'.rate, .slice B1 k1 cb1, .int .i64 m'.time] 25))))
  have HL := Lib.hid (lies_at (w := w2.alloc (.cells #[.string s1, .int .i64 m'.kind, .slice A1 n1 ca1, .int .i64 m'.rate, .slice B1 k1 cb1, .int .i64 m'.time] 25)) (n := w2.heap.size + 1) (size_alloc _ _) ⟨s1, A1, n1, ca1, B1, k1, cb1, m'⟩)
  clear hb hm1 hfa hfB hb1 HN
  go_wp2_with (first | (at_builtin; refine wpList_append_rows _ rowMet rfl (.tmp 11) (.tmp 13) rfl base _ i (flatM fs) rfl HR.out.own (some ⟨w2.heap.size + 1, 0, none⟩) 1 1 (encM ⟨s1, A1, n1, ca1, B1, k1, cb1, m'⟩) rfl rfl HL.out encM_cells (by omega) (by have := HE.out.2.2.2.size; simp only [size_alloc]; omega) ?_; intro v3 w3 hown hgr hob; obtain ⟨A3, c3, e3, _⟩ := own_slice hown; subst e3; have hx3 := ((((CKept.of_below (X := fun _ => False) HE.out.2.2.2).boxed HH.out.1 id).alloc (.cells #[.string s1, .int .i64 m'.kind, .slice A1 n1 ca1, .int .i64 m'.rate, .slice B1 k1 cb1, .int .i64 m'.time] 25)).alloc (.cells #[.string s1, .int .i64 m'.kind, .slice A1 n1 ca1, .int .i64 m'.rate, .slice B1 k1 cb1, .int .i64 m'.time] 25)).kept hgr (fun e => HH.out.2.1.blk fb e.symm HH.out.2.2.2.1); have cf3 := hx3.cell; have ff3 := hx3.frozen; have HG := Lib.hid (And.intro hown (And.intro hgr (And.intro hob hx3))); clear hown hgr hob hx3))
  obtain ⟨hown, hgr, hob, hx3⟩ := HG.out
  obtain ⟨hm1, hfa, hfB, hb1⟩ := HE.out
  obtain ⟨hbx, hrow, hX, hfb, hm'⟩ := HH.out
  have hbA := below_then hb1 (below_then (m_below w2 (.cells #[.string s1, .int .i64 m'.kind, .slice A1 n1 ca1, .int .i64 m'.rate, .slice B1 k1 cb1, .int .i64 m'.time] 25)) (m_below _ (.cells #[.string s1, .int .i64 m'.kind, .slice A1 n1 ca1, .int .i64 m'.rate, .slice B1 k1 cb1, .int .i64 m'.time] 25)))
  have hp := RowM.push (X := X) (gs := [⟨s1, A1, n1, ca1, B1, k1, cb1, m'⟩]) (m := 1) hrow (CKept.of_below hbA)
    (fun e he => by rcases List.mem_singleton.1 he with rfl; exact (hm1.alloc _).alloc _)
    (fun e he => by
      rcases List.mem_singleton.1 he with rfl
      refine Off.fresh hfa hfB fun b hb => ?_
      rw [size_alloc]
      rcases hb with hb | hb
      · have := hX b hb; omega
      · have := (hrow.lt b hb).2; omega)
    hgr hob (fun b hb => by have := hX b hb; have := hbA.size; omega) (by rw [flatM_one]; exact hown)
  go_ret
  refine ⟨rfl, ⟨⟨_, ⟨s1, A1, n1, ca1, B1, k1, cb1, m'⟩, hm'.symm, hx3.set _, hp.kept (CKept.of_set _ _ hfb)⟩, fun B h1 h2 => ?_, fun b hb hne hnv => ?_⟩⟩
  · exact ((hbA.mono (by omega)).grown hgr (Nat.le_trans h2 (Nat.le_trans hbase hbA.size)) (fun r e => Nat.le_trans h2 (hrow.lt r e).1)).setCell (p := ⟨fb, 0, none⟩) h1 _
  · rw [Below.heap_setCell _ _ _ b hne, hgr.block b (Nat.lt_of_lt_of_le hb hbA.size) (fun e => hnv e.symm)]
    exact hbA.block b hb

theorem RowM.cells {X : Nat → Prop} {W : World} {base n g : Nat} {v : Value} {fs : List En} (h : RowM X W base v n fs) (hg : v.ownBlock = some g) : ∃ o : Obj, W.heap[g]? = some o ∧ o.isCells = true := by
  rcases h.own.2 with ⟨rfl, _⟩ | ⟨g', cap, cur, rfl, _, hh, _⟩
  · cases hg
  · injection hg with hg; subst hg; exact ⟨_, hh, rfl⟩

/-- What the closure of Normal has in hand. -/
def FormJ {es : List En} (n0 : Nat) (pre : List (It es)) (W : World) : Prop :=
  ∃ v fs, Boxed W (n0 + 1) 41 v ∧ RowM (fun b => b = n0 + 1 ∨ (n0 + 2 ≤ b ∧ b < n0 + 6)) W n0 v pre.length fs ∧ datM fs = pre.map fun y => nM y.1.2.m

theorem formJ_own {es : List En} (n0 B : Nat) : OwnFrom B (FormJ (es := es) n0) := fun _ _ _ _ ⟨v, fs, h1, h2, h3⟩ hg hr =>
  ⟨v, fs, (CKept.of_own (X := fun _ => False) hg fun r e => (hr r e).2).boxed h1 id, h2.kept (CKept.of_own hg fun r e => (hr r e).2), h3⟩
theorem formJ_set {es : List En} {n0 : Nat} {s : List (It es)} {W : World} {b : Nat} (u : Value) (h : FormJ n0 s W) (h1 : n0 + 2 ≤ b) (h2 : b < n0 + 5) : FormJ n0 s (W.setCell ⟨b, 0, none⟩ u) := by
  obtain ⟨v, fs, k1, k2, k3⟩ := h
  exact ⟨v, fs, k1.other (by omega) u, k2.kept (CKept.of_set _ _ (.inr ⟨h1, by show b < n0 + 6; omega⟩)), k3⟩
theorem formJ_step {es : List En} {w0 W : World} {n0 len : Nat} {A : Option Addr} (hlen : es.length = len) (hz : len ≤ 2000) (hM : Mets w0 A es) (hs : Smalls es) (hw : w0.heap.size ≤ n0) {pre : List (It es)} (x : It es) (hj : FormJ n0 pre W) (hB : Below w0.heap.size w0 W) (hsz : n0 + 2 + 4 ≤ W.heap.size) (hl : pre.length < len) :
    Calls Try.prog 36 #[.agg #[.string x.1.2.s, .int .i64 x.1.2.m.kind, .slice x.1.2.A x.1.2.n x.1.2.ca, .int .i64 x.1.2.m.rate, .slice x.1.2.B x.1.2.k x.1.2.cb, .int .i64 x.1.2.m.time], .pointer (some ⟨n0 + 1, 0, none⟩)] W fun e W' =>
      e = .returned (.int .i64 (codeM x.1.2.m)) ∧ Below w0.heap.size W W' ∧ KeepsX (n0 + 2) W W' ∧ FormJ n0 (pre ++ [x]) W' := by
  obtain ⟨v, fs, k1, k2, k3⟩ := hj
  refine (form_calls ((hM.keep hB).one x.2) (hs _ (List.mem_of_getElem? x.2)) k1 k2 (fun b hb => by rcases hb with hb | hb <;> omega) (.inl rfl) (by omega) (by omega)).mono fun e W' ⟨he, h⟩ => ?_
  obtain ⟨v', e', h1, h2, h3⟩ := h.row
  refine ⟨he, h.below _ (by omega) hw, ⟨(h.below 0 (by omega) (by omega)).size, fun b o hb hlo hc => ?_⟩, ⟨v', fs ++ [e'], h2, by rw [List.length_append]; exact h3, ?_⟩⟩
  · refine (h.block b (Array.getElem?_eq_some_iff.1 hb).1 (by omega) fun hv => ?_).trans hb
    rcases hc with hc | hc
    · obtain ⟨o', ho, hk⟩ := k2.cells hv
      rw [hb] at ho
      injection ho with ho
      subst ho
      rw [hc] at hk
      cases hk
    · exact k2.blk b hv (.inr ⟨hlo, by omega⟩)
  · unfold datM at k3 ⊢
    rw [List.map_append, k3, List.map_append, List.map_cons, List.map_nil, h1]; rfl

theorem results_tmp3 {fn : Func} {t u x : Tmp} (h : fn.results = #[.tmp t, .tmp u, .tmp x]) (tmps : Array Value) (P : Program) (w : World) :
    (results fn tmps).run P w = .ok (.tuple #[tmps.getD t undef, tmps.getD u undef, tmps.getD x undef]) w := by
  simp [results, h]

/-- What Normal of a batch tells. -/
def nB (ms : List Mt) : List Mt := if (fwB codeM ms).2 = 0 then ms.map nM else []
def NormB (w : World) (ms : List Mt) (p : Nat × Int) (r : List Mt) (e : Ending) (w' : World) : Prop :=
  (∃ A n cap fs, e = .returned (.tuple #[.slice A n cap, .int .i64 (p.1 : Int), .int .i64 p.2]) ∧ Mets w' A fs ∧ fs.length = n ∧ datM fs = r) ∧ Below w.heap.size w w' ∧ p = fwB codeM ms ∧ r = nB ms

set_option maxRecDepth 100000 in
set_option maxHeartbeats 4000000 in
theorem bnormal_calls {w : World} {A : Option Addr} {len cap : Nat} {es : List En} (hlen : es.length = len) (hz : len ≤ 2000) (hM : Mets w A es) (hs : Smalls es) :
    Calls Try.prog 19 #[.slice A len cap] w (NormB w (datM es) (fwB codeM (datM es)) (nB (datM es))) := by
  have hw2 : ((w.alloc (.cells #[] 25)).alloc (.cells #[.slice (some ⟨w.heap.size, 0, none⟩) 0 0] 41)).heap.size = w.heap.size + 2 := by simp
  have hb2 : Below w.heap.size w ((w.alloc (.cells #[] 25)).alloc (.cells #[.slice (some ⟨w.heap.size, 0, none⟩) 0 0] 41)) := below_then (m_below _ _) (m_below _ _)
  have hbx := Boxed.new (w.alloc (.cells #[] 25)) 41 (.slice (some ⟨w.heap.size, 0, none⟩) 0 0)
  rw [size_alloc] at hbx
  have hC := first_normal (fb := w.heap.size + 1) (cap := cap) (C := codeM) (J := FormJ (es := es) w.heap.size) hlen (by omega) hM hb2 (formJ_own _ _)
    (fun s W b v hj h1 h2 => formJ_set v hj (by omega) (by omega))
    ⟨_, [], hbx, (RowM.empty (W := w) (X := fun b => b = w.heap.size + 1 ∨ (w.heap.size + 2 ≤ b ∧ b < w.heap.size + 6)) (cap := 0) (by omega) rfl).keep (m_below _ _), rfl⟩
    (fun pre x W hj hB hsz hl => by rw [hw2] at hsz ⊢; exact formJ_step hlen hz hM hs (Nat.le_refl _) x hj hB hsz hl)
  obtain ⟨p, hp⟩ : ∃ p, fwB codeM (datM es) = p := ⟨_, rfl⟩
  obtain ⟨r, hr⟩ : ∃ r, nB (datM es) = r := ⟨_, rfl⟩
  have hr' := hr
  unfold nB at hr'
  rw [hp] at hC hr' ⊢
  rw [hr]
  obtain ⟨p1, p2⟩ := p
  have HC := Lib.hid hC
  have HP := Lib.hid (And.intro hp (And.intro hr hr'))
  clear hC hp hM hs hw2 hb2 hbx hr hr'
  go_enter Try.func19, Try.ntmps19
  go_wp2_with fail
  refine HC.out.mono ?_
  rintro e w3 ⟨rfl, hb, hj⟩
  have HB := Lib.hid hb
  clear HC hb
  by_cases hz2 : p2 = 0
  · obtain ⟨xs, hF, hl, v, fs, k1, k2, k3⟩ := hj hz2
    have hmm : (datM es).map nM = xs.map fun y => nM y.1.2.m := by
      unfold datM
      conv => lhs; rw [← hF.all hl]
      rw [List.map_map, List.map_map]; rfl
    subst hz2
    have hp0 := HP.out.1.symm.trans (fwB_zero (C := codeM) (ms := datM es) (by rw [HP.out.1]))
    injection hp0 with hp0
    subst hp0
    have hre := HP.out.2.2
    rw [if_pos rfl, hmm, ← k3] at hre
    obtain ⟨A3, c3, rfl, _⟩ := k2.sl
    have cf := k1.cell
    have HR := Lib.hid (And.intro k2.mets (And.intro k2.len hre))
    clear hj k1 k2 k3 hre hmm
    go_wp2_with fail
    refine bodyPost_ret (results_tmp3 rfl _ _ _) rfl ?_
    exact ⟨⟨_, _, _, fs, rfl, HR.out.1, by have := HR.out.2.1; omega, HR.out.2.2⟩, HB.out, HP.out.1.symm, HP.out.2.1.symm⟩
  · have hre := HP.out.2.2
    rw [if_neg hz2] at hre
    have HR := Lib.hid hre
    have HZ := Lib.hid hz2
    clear hj hre
    go_wp2_with fail
    refine bodyPost_ret (results_tmp3 rfl _ _ _) rfl ?_
    exact ⟨⟨_, _, _, [], rfl, Mets.nil, rfl, HR.out⟩, HB.out, HP.out.1.symm, HP.out.2.1.symm⟩
end Go.Proofs.Ytikdolgcdkmmaaa

/-
  The first metric of a row that is wrong, by its place. No statement of the seat is proved here.
-/
namespace Go.Proofs.Ytikdolgcdkmmaaa
open Go.RowKit
open Dc (D D0)

theorem fw_full {C : Mt → Int} {es : List En} (h : ∀ (j : Nat) e, es[j]? = some e → C e.m = 0) : fw C (datM es) = (0, 0) := fw_all fun m hm => by
  obtain ⟨e, he, rfl⟩ := List.mem_map.1 hm
  obtain ⟨j, hj, rfl⟩ := List.mem_iff_getElem.1 he
  exact h j _ (List.getElem?_eq_getElem hj)
theorem en_split {es : List En} {i : Nat} {e : En} (hi : es[i]? = some e) : es = es.take i ++ e :: es.drop (i + 1) := by
  obtain ⟨h, rfl⟩ := List.getElem?_eq_some_iff.1 hi
  rw [← List.drop_eq_getElem_cons h, List.take_append_drop]
theorem fw_at {C : Mt → Int} {es : List En} {i : Nat} {e : En} (h : ∀ (j : Nat) x, es[j]? = some x → j < i → C x.m = 0) (hi : es[i]? = some e) (hc : C e.m ≠ 0) : fw C (datM es) = (i, C e.m) := by
  have hl := (List.getElem?_eq_some_iff.1 hi).1
  have : datM es = datM (es.take i) ++ e.m :: datM (es.drop (i + 1)) := by
    conv => lhs; rw [en_split hi]
    unfold datM; rw [List.map_append, List.map_cons]
  rw [this, fw_first (fun m hm => ?_) hc]
  · unfold datM; rw [List.length_map, List.length_take, Nat.min_eq_left (by omega)]
  · obtain ⟨x, hx, rfl⟩ := List.mem_map.1 hm
    obtain ⟨j, hj, rfl⟩ := List.mem_iff_getElem.1 hx
    rw [List.length_take] at hj
    exact h j _ (by rw [List.getElem_take]; exact List.getElem?_eq_getElem (by omega)) (by omega)
theorem take_step {es : List En} {i : Nat} {e : En} (hi : es[i]? = some e) : es.take (i + 1) = es.take i ++ [e] := by
  obtain ⟨h, rfl⟩ := List.getElem?_eq_some_iff.1 hi
  rw [List.take_succ_eq_append_getElem h]
theorem datM_len (es : List En) : (datM es).length = es.length := by unfold datM; rw [List.length_map]
theorem fwB_in {C : Mt → Int} {es : List En} (h : ¬ 1000 < es.length) : fwB C (datM es) = fw C (datM es) := by unfold fwB; rw [datM_len, if_neg h]
theorem fwB_out {C : Mt → Int} {es : List En} (h : 1000 < es.length) : fwB C (datM es) = (1000, 12) := by unfold fwB; rw [datM_len, if_pos h]
end Go.Proofs.Ytikdolgcdkmmaaa

/-
  batch.Names: names that came stand in a map. No statement of the seat is proved here.
-/
namespace Go.Proofs.Ytikdolgcdkmmaaa
open Go.RowKit Go.Shelf
open Dc (D D0)

attribute [local go_sem] Oper.semAt_some

/-! Rows of strings. -/
def strV (s : List UInt8) : Value := .string ⟨s.toArray⟩
/-- The slice at A holds these strings. -/
def Strs (w : World) (A : Option Addr) (ss : List (List UInt8)) : Prop := Lies w A (ss.map strV)
theorem rowStr : RowTy 49 9 (.string ⟨#[]⟩) 1 16 := ⟨Try.underlying49, by kernel_rfl, rfl, by omega, by omega⟩
theorem strs_cells {ss : List (List UInt8)} : ∀ u ∈ ss.map strV, u.oneCell' = true := by
  intro u hu
  obtain ⟨s, _, rfl⟩ := List.mem_map.1 hu
  rfl

/-! Appends inside a fence. -/
theorem wpListIn_append_rows {F : Fence} {nF : Nat} (w : World) {sl el : TypeId} {z : Value} {size bytes : Nat} (T : RowTy sl el z size bytes) {ops : Array Oper} {rest : List Oper} {o : Oper} {a : Act} {Q : Exit → Act → World → Prop} (hgd : o.guard = none) (s x : Operand)
    (ho : o.op = .call { callee := .builtin .append, args := #[s, x], argTypes := #[sl, sl] })
    (base : Nat) (v : Value) (n : Nat) (xs : List Value) (hs : a.eval s = v) (hown : w.ownsRow base el size v n xs)
    (A : Option Addr) (m c : Nat) (ys : List Value) (hx : a.eval x = .slice A m c) (hl : ys.length = m * size) (hv : Lies w A ys) (h1 : ∀ u ∈ ys, u.oneCell' = true)
    (hfit : n + m ≤ 1000000) (hbase : base ≤ w.heap.size)
    (h : ∀ v' w', w'.ownsRow base el size v' (n + m) (xs ++ ys) → w.grownBy w' v.ownBlock → (v'.ownBlock = v.ownBlock ∨ v'.ownBlock = some w.heap.size) → wpListIn F nF Try.prog ops Q rest (a.put o.dst v') w') :
    wpListIn F nF Try.prog ops Q (o :: rest) a w := by
  refine wpListIn_plain hgd fun K hK => ?_
  obtain ⟨v', w', hr, h2, h3, h4⟩ := run_append_rows w T base o.type v n xs hown A m c ys hl hv h1 hfit hbase
  unfold Oper.wpIn
  refine ⟨by simp [Oper.about, ho, resolve, Target.leads, Sem.run_pure], ?_⟩
  rw [Oper.semAt_plain F _ _ (by rw [ho]; intro c hc'; cases hc')]
  simp [execOp, ho, resolve, invoke, builtin, hs, hx, hr, Result.andThen]
  exact hK _ _ (h v' w' h2 h3 h4)

/-! A set of strings in a map of bools. -/
theorem plainElem_bool_inv {P : Program} {e : TypeId} (he : P.underlying e = some .bool) {v : Value} {z : DataW Unit × List MemPlace} (h : plainElem P e v = some z) : ∃ c, v = .bool c ∧ z = (.lit (.bool c), []) := by
  cases v with
  | bool c => rw [plainElem_bool he] at h; injection h with h; exact ⟨c, rfl, h.symm⟩
  | _ => simp [plainElem, he] at h
/-- 'm[k]' at elements that are bools, inside a fence. -/
theorem wpListIn_lookup_own_bool {F : Fence} {nF : Nat} {P : Program} (w : World) {ops : Array Oper} {rest : List Oper} {o : Oper} {a : Act} {Q : Exit → Act → World → Prop}
    (hg : o.guard = none) (m x : Operand) (t : TypeId) (hop : o.op = Op.lookup t m x false)
    (k e : TypeId) (K : Maps.Keyed P k) (ht : P.underlying t = some (.map k e)) (he : P.underlying e = some .bool) (hz : (zeroValue e).run P w = .ok (.bool false) w) (b n : Nat) (D : DataW Unit)
    (hm : a.eval m = .map (some b)) (hown : w.ownsMap P k (plainElem P e) b n D) (key : Value) (kl : Lit) (hx : a.eval x = key) (hkey : keyOf P k key = some kl)
    (hK : ∀ c : Bool, D.atKey kl (.lit (.bool false)) = .lit (.bool c) → wpListIn F nF P ops Q rest (a.put o.dst (.bool c)) w) :
    wpListIn F nF P ops Q (o :: rest) a w := by
  refine wpListIn_plain hg fun K' hK' => ?_
  obtain ⟨v, ps, hrun, hv⟩ := hown.lookup K ht hz (plainElem_bool he false) hkey
  obtain ⟨c, rfl, hc⟩ := plainElem_bool_inv he hv
  unfold Oper.wpIn
  refine ⟨by simp [Oper.about, hop], ?_⟩
  rw [Oper.semAt_plain F _ _ (by rw [hop]; intro c hc'; cases hc')]
  simp [execOp, hop, hm, hx, hrun, Result.andThen]
  exact hK' _ _ (hK c (congrArg Prod.fst hc))
def setD (acc : List (List UInt8)) : DataW Unit := acc.foldl (fun D s => D.put (.string s) (.lit (.bool true))) (.map [])
theorem setD_snoc (acc : List (List UInt8)) (s : List UInt8) : setD (acc ++ [s]) = (setD acc).put (.string s) (.lit (.bool true)) := by simp [setD]

theorem atKey_nil (k : Lit) (z : DataW Unit) : (DataW.map []).atKey k z = z := rfl
theorem setD_isMap : ∀ (acc : List (List UInt8)) (D : DataW Unit), Maps.IsMap D → Maps.IsMap (acc.foldl (fun D s => D.put (.string s) (.lit (.bool true))) D)
  | [], _, h => h
  | s :: acc, _, h => setD_isMap acc _ (h.put (.string s) (.lit (.bool true)))
theorem setD_at : ∀ (acc : List (List UInt8)) (D : DataW Unit) (s : List UInt8) (c : Bool), Maps.IsMap D → D.atKey (.string s) (.lit (.bool false)) = .lit (.bool c) →
    (acc.foldl (fun D s => D.put (.string s) (.lit (.bool true))) D).atKey (.string s) (.lit (.bool false)) = .lit (.bool (c || decide (s ∈ acc)))
  | [], _, s, c, _, h => by simpa using h
  | t :: acc, D, s, c, hD, h => by
    by_cases e : s = t
    · subst e
      have := setD_at acc (D.put (.string s) (.lit (.bool true))) s true (hD.put _ _) (Maps.atKey_put_same hD (show WideAt.IsKeyLit (.string s) from trivial) _ _)
      simpa using this
    · have := setD_at acc (D.put (.string t) (.lit (.bool true))) s c (hD.put _ _) (by rw [Maps.atKey_put_other (fun h => e (by injection h))]; exact h)
      simpa [e] using this
theorem setD_has {acc : List (List UInt8)} {s : List UInt8} {c : Bool} (h : (setD acc).atKey (.string s) (.lit (.bool false)) = .lit (.bool c)) : c = decide (s ∈ acc) := by
  have := setD_at acc (.map []) s false Maps.isMap_empty (atKey_nil _ _)
  unfold setD at h
  rw [h] at this
  injection this with this
  injection this with this

/-- The names, as they come first. -/
def addN (acc : List (List UInt8)) (s : List UInt8) : List (List UInt8) := if s ∈ acc then acc else acc ++ [s]
def namesOf (ms : List Mt) : List (List UInt8) := (ms.map Mt.name).foldl addN []
theorem namesOf_snoc (ms : List Mt) (m : Mt) : namesOf (ms ++ [m]) = addN (namesOf ms) m.name := by unfold namesOf; rw [List.map_append, List.foldl_append]; first | done | rfl
theorem addN_len (acc : List (List UInt8)) (s : List UInt8) : (addN acc s).length ≤ acc.length + 1 := by
  unfold addN; split
  · omega
  · simp
theorem foldN_len : ∀ (ss acc : List (List UInt8)), (ss.foldl addN acc).length ≤ acc.length + ss.length
  | [], acc => by simp
  | s :: ss, acc => by
    rw [List.foldl_cons, List.length_cons]
    have h1 := foldN_len ss (addN acc s)
    have h2 := addN_len acc s
    omega
theorem namesOf_len (ms : List Mt) : (namesOf ms).length ≤ ms.length := by
  have := foldN_len (ms.map Mt.name) []
  rw [List.length_map] at this
  simpa [namesOf] using this

/-- What a round of Names may know. -/
structure NmI (es : List En) (n0 : Nat) (pre : List (It es)) (W : World) : Prop where
  row : ∃ v, Boxed W (n0 + 1) 49 v ∧ W.ownsRow n0 9 1 v (namesOf (pre.map fun y => y.1.2.m)).length ((namesOf (pre.map fun y => y.1.2.m)).map strV)
  mbox : Boxed W (n0 + 1 + 1 + 1) 60 (.map (some (n0 + 1 + 1)))
  map : W.ownsMap Try.prog 9 (plainElem Try.prog 4) (n0 + 1 + 1) pre.length (setD (namesOf (pre.map fun y => y.1.2.m)))
  size : n0 + 5 ≤ W.heap.size

theorem nmI_own {es : List En} {n0 B : Nat} (hB : n0 + 5 ≤ B) : OwnFrom B (NmI es n0) := fun s W W' row hs hg hr => by
  obtain ⟨⟨v, h1, h2⟩, h3, h4, h5⟩ := hs
  have hk : CKept (fun _ => False) W W' := CKept.of_own hg fun r e => (hr r e).2
  exact ⟨⟨v, hk.boxed h1 id, hk.own h2 fun _ _ => id⟩, hk.boxed h3 id, h4.kept hg (fun e => by have := (hr _ e.symm).1; omega), Nat.le_trans h5 hg.size⟩

theorem names_kept {W W' : World} {b n : Nat} {D : DataW Unit} (hm : W.ownsMap Try.prog 9 (plainElem Try.prog 4) b n D) (hg : W.grownBy W' (some b)) : CKept (fun _ => False) W W' :=
  CKept.of_own hg fun r e => by
    injection e with e
    subst e
    obtain ⟨es, clock, hb, _⟩ := hm
    exact ⟨_, hb, rfl⟩
theorem own_isCells {W : World} {base size n g : Nat} {el : TypeId} {v : Value} {xs : List Value} (h : W.ownsRow base el size v n xs) (hg : v.ownBlock = some g) : ∃ o : Obj, W.heap[g]? = some o ∧ o.isCells = true := by
  rcases h.2 with ⟨rfl, _⟩ | ⟨g', cap, cur, rfl, _, hh, _⟩
  · cases hg
  · injection hg with hg; subst hg; exact ⟨_, hh, rfl⟩
theorem map_not_row {W : World} {b k : Nat} {D : DataW Unit} (hm : W.ownsMap Try.prog 9 (plainElem Try.prog 4) b k D) {base size n : Nat} {el : TypeId} {v : Value} {xs : List Value} (h : W.ownsRow base el size v n xs) : some b ≠ v.ownBlock := fun e => by
  obtain ⟨o, ho, hc⟩ := own_isCells h e.symm
  obtain ⟨es, clock, hb, _⟩ := hm
  rw [hb] at ho
  injection ho with ho
  subst ho
  cases hc
theorem lies_str (w : World) (s : ByteArray) : Lies (w.alloc (.cells #[.string s] 9)) (some ⟨w.heap.size, 0, none⟩) [.string s] := by
  intro i u hu
  have := (Box.new w 9 [.string s]).cell i
  exact ⟨w.heap.size, 0, rfl, by rw [Nat.zero_add]; exact this.trans hu⟩

set_option maxRecDepth 100000 in
set_option maxHeartbeats 8000000 in
theorem bnames_calls {w : World} {A : Option Addr} {len cap : Nat} {es : List En} (hlen : es.length = len) (hz : len ≤ 100000) (hM : Mets w A es) (hs : ∀ e ∈ es, e.m.name.length ≤ 100000) :
    Calls Try.prog 25 #[.slice A len cap] w fun e W' => (∃ A' c', e = .returned (.slice A' (namesOf (datM es)).length c') ∧ (namesOf (datM es)).length ≤ c' ∧ Strs W' A' (namesOf (datM es))) ∧ Below w.heap.size w W' := by
  have HP := Lib.hid (And.intro hlen (And.intro hM hs))
  have hmm := @run_makeMap Try.prog
  refine (callsIn_wide (n := 9)).1 ?_
  refine callsIn_of_wp_marks Try.func25 rfl trivial ?_ rfl
  simp only [Try.ntmps25, List.size_toArray, List.length_cons, List.length_nil, Nat.reduceAdd, Nat.reduceSub, Array.replicate_succ, Array.replicate_zero, List.push_toArray, List.append_toArray, List.nil_append, List.cons_append]
  gi_wp2_with (refine ⟨trivial, ?_⟩; gi_at_call 38; refine (places_in Fence.wide _ trivial rfl _ _ _ _).mono ?_; rintro e w' ⟨rfl, rfl⟩)
  have r0 : (w.alloc (.cells #[] 9)).ownsRow w.heap.size 9 1 (.slice (some ⟨w.heap.size, 0, none⟩) 0 0) 0 [] := ⟨rfl, .inr ⟨w.heap.size, 0, #[], rfl, Nat.le_refl _, Box.new w 9 [], by omega, by unfold maxLen; omega, rfl, rfl⟩⟩
  have b1 := Boxed.new (w.alloc (.cells #[] 9)) 49 (.slice (some ⟨w.heap.size, 0, none⟩) 0 0)
  have m2 := World.ownsMap_made ((w.alloc (.cells #[] 9)).alloc (.cells #[.slice (some ⟨w.heap.size, 0, none⟩) 0 0] 49)) Try.prog 9 (plainElem (H := Unit) Try.prog 4)
  have b3 := Boxed.new (((w.alloc (.cells #[] 9)).alloc (.cells #[.slice (some ⟨w.heap.size, 0, none⟩) 0 0] 49)).alloc (.map #[] 0)) 60 (.map (some (w.heap.size + 1 + 1)))
  have b4 := Boxed.new ((((w.alloc (.cells #[] 9)).alloc (.cells #[.slice (some ⟨w.heap.size, 0, none⟩) 0 0] 49)).alloc (.map #[] 0)).alloc (.cells #[.map (some (w.heap.size + 1 + 1))] 60)) 41 (.slice A len cap)
  simp only [World.size_alloc] at b1 m2 b3 b4
  have r0' := own_keep r0 (below_then (below_then (below_then (m_below _ (.cells #[.slice (some ⟨w.heap.size, 0, none⟩) 0 0] 49)) (m_below _ (.map #[] 0))) (m_below _ (.cells #[.map (some (w.heap.size + 1 + 1))] 60))) (m_below _ (.cells #[.slice A len cap] 41)))
  have b1' := ((b1.alloc (.map #[] 0)).alloc (.cells #[.map (some (w.heap.size + 1 + 1))] 60)).alloc (.cells #[.slice A len cap] 41)
  have m2' := (m2.alloc (.cells #[.map (some (w.heap.size + 1 + 1))] 60)).alloc (.cells #[.slice A len cap] 41)
  have b3' := b3.alloc (.cells #[.slice A len cap] 41)
  have hb0 : Below w.heap.size w (((((w.alloc (.cells #[] 9)).alloc (.cells #[.slice (some ⟨w.heap.size, 0, none⟩) 0 0] 49)).alloc (.map #[] 0)).alloc (.cells #[.map (some (w.heap.size + 1 + 1))] 60)).alloc (.cells #[.slice A len cap] 41)) :=
    below_then (below_then (below_then (below_then (m_below _ _) (m_below _ _)) (m_below _ _)) (m_below _ _)) (m_below _ _)
  have hsz : (((((w.alloc (.cells #[] 9)).alloc (.cells #[.slice (some ⟨w.heap.size, 0, none⟩) 0 0] 49)).alloc (.map #[] 0)).alloc (.cells #[.map (some (w.heap.size + 1 + 1))] 60)).alloc (.cells #[.slice A len cap] 41)).heap.size = w.heap.size + 5 := by simp
  clear r0 b1 m2 b3
  obtain ⟨W0, hW0⟩ : ∃ W0, ((((w.alloc (.cells #[] 9)).alloc (.cells #[.slice (some ⟨w.heap.size, 0, none⟩) 0 0] 49)).alloc (.map #[] 0)).alloc (.cells #[.map (some (w.heap.size + 1 + 1))] 60)).alloc (.cells #[.slice A len cap] 41) = W0 := ⟨_, rfl⟩
  rw [hW0] at r0' b1' m2' b3' b4 hb0 hsz ⊢
  clear hW0
  refine wpIn_rangeFunc_ownH rfl (by omega) (gf := 55) (lb := #[.pointer (some ⟨w.heap.size + 1 + 1 + 1 + 1, 0, none⟩)]) rfl trivial (enters_of Try.func55 (by kernel_rfl) rfl)
    (places_stops Fence.wide _ trivial rfl (by omega) (w.heap.size + 1 + 1 + 1 + 1) A len cap hlen hz hM W0 hb0 (by omega) b4.cell) belowK_t (belowK_b hb0.size) (Below.refl _ _) (fun _ => rfl)
    (fun pre W => NmI es w.heap.size pre W ∧ Below w.heap.size w W)
    (fun _ _ _ => False)
    (OwnFrom.and (nmI_own (by omega)) (ownFrom_below (Nat.le_refl _) hb0.size))
    (fun _ _ _ _ _ hs _ _ => hs)
    ⟨⟨⟨_, b1', r0'⟩, b3', m2', by omega⟩, hb0⟩
    (fun x a' W => ∃ Bx, w.heap.size + 5 ≤ Bx ∧ Box W Bx 25 [.string x.1.2.s, .int .i64 x.1.2.m.kind, .slice x.1.2.A x.1.2.n x.1.2.ca, .int .i64 x.1.2.m.rate, .slice x.1.2.B x.1.2.k x.1.2.cb, .int .i64 x.1.2.m.time] ∧
      a' = { tmps := #[.slice A len cap, undef, .slice none 0 0, .pointer (some ⟨w.heap.size + 1, 0, none⟩), .pointer (some ⟨w.heap.size + 1 + 1 + 1, 0, none⟩), undef, .pointer (some ⟨Bx, 0, none⟩), .slice (some ⟨w.heap.size, 0, none⟩) 0 0, .map (some (w.heap.size + 1 + 1)), .slice A len cap, .func (.func 55) #[] #[.pointer (some ⟨w.heap.size + 1 + 1 + 1 + 1, 0, none⟩)], .int .i64 (x.1.1 : Int), .agg #[.string x.1.2.s, .int .i64 x.1.2.m.kind, .slice x.1.2.A x.1.2.n x.1.2.ca, .int .i64 x.1.2.m.rate, .slice x.1.2.B x.1.2.k x.1.2.cb, .int .i64 x.1.2.m.time], undef, undef, undef, undef, undef, undef, undef, undef, undef, undef, undef, undef, undef, undef], defers := [] })
    (fun x a' _ X Y row hs hg hr => by obtain ⟨Bx, h1, h2, h3⟩ := hs; exact ⟨Bx, h1, box_own h2 hg (fun r e => (hr r e).2), h3⟩)
    ?assign ?body ?done ?stop
  case assign =>
    rintro l pre x W K ⟨hi, hB⟩ hK
    have hsW := hB.size
    unfold encI
    gi_wp2
    refine hK _ _ ((KeepsOthers.alloc _ _).from _) ((Below.refl _ W).alloc hsW _) ⟨?_, hB.alloc hsW _⟩ ⟨W.heap.size, hi.size, Box.new W 25 _, rfl⟩
    obtain ⟨v, h1, h2⟩ := hi.row
    exact ⟨⟨v, h1.alloc _, own_keep h2 (m_below _ _)⟩, hi.mbox.alloc _, hi.map.alloc _, by have := hi.size; rw [World.size_alloc]; omega⟩
  case body =>
    rintro l pre x a' W hl ⟨r, hr⟩ ⟨hi, hB⟩ ⟨Bx, hBx, bX, rfl⟩ hlt
    obtain ⟨acc, hacc⟩ : ∃ acc, namesOf (pre.map fun y => y.1.2.m) = acc := ⟨_, rfl⟩
    obtain ⟨⟨v, k1, k2⟩, k3, k4, k5⟩ := hi
    rw [hacc] at k2 k4
    have hnm := ((hM.keep hB).one x.2).name
    have hkey : keyOf Try.prog 9 (.string x.1.2.s) = some (.string x.1.2.m.name) := by
      rw [hnm.eq]
      exact WideMaps.keyOf_string_mk Try.underlying9 (by have := hs _ (List.mem_of_getElem? x.2); show x.1.2.m.name.toArray.size ≤ _; rw [List.size_toArray]; unfold maxLen; omega)
    have hal : acc.length ≤ 100000 := by have := namesOf_len (pre.map fun y => y.1.2.m); rw [hacc, List.length_map] at this; omega
    have hpl : pre.length < maxLen := by unfold maxLen; omega
    obtain ⟨Av, cv, rfl, _⟩ := own_slice k2
    have c0 := bX.cell 0
    simp only [List.getElem?_cons_zero] at c0
    have cm := k3.cell
    have HI := Lib.hid (And.intro k1 (And.intro k2 (And.intro k3 (And.intro k5 (And.intro hB (And.intro hacc hnm))))))
    have HM := Lib.hid k4
    have HK := Lib.hid hkey
    clear hr hB k1 k2 k3 k4 bX hkey hnm hacc
    by_cases hin : x.1.2.m.name ∈ acc
    · have HIN := Lib.hid hin
      clear hin
      gi_wp2_with (gi_at_lookup; refine wpListIn_lookup_own_bool _ rfl _ _ 60 rfl 9 4 (Maps.string_keyed Try.underlying9) Try.underlying60 Try.underlying4 (Try.zeroValue4 _) (w.heap.size + 1 + 1) pre.length _ rfl HM.out _ _ rfl HK.out ?_; intro c hat; obtain rfl : c = true := (by rw [setD_has hat]; exact decide_eq_true HIN.out); clear hat)
      obtain ⟨k1, k2, k3, k5, hB, hacc, _⟩ := HI.out
      have hns : namesOf ((pre ++ [x]).map fun y => y.1.2.m) = acc := by
        rw [List.map_append, List.map_cons, List.map_nil, namesOf_snoc, hacc]
        unfold addN; rw [if_pos HIN.out]
      exact ⟨KeepsFrom.refl _ _, Below.refl _ _, ⟨⟨_, k1, by rw [hns]; exact k2⟩, k3, by rw [hns, List.length_append]; exact HM.out.mono (by simp), k5⟩, hB⟩
    · have HIN := Lib.hid hin
      clear hin
      gi_wp2_with (first
        | (gi_at_lookup; refine wpListIn_lookup_own_bool _ rfl _ _ 60 rfl 9 4 (Maps.string_keyed Try.underlying9) Try.underlying60 Try.underlying4 (Try.zeroValue4 _) (w.heap.size + 1 + 1) pre.length _ rfl HM.out _ _ rfl HK.out ?_; intro c hat; obtain rfl : c = false := (by rw [setD_has hat]; exact decide_eq_false HIN.out); clear hat)
        | (gi_at_mapUpdate; refine wpListIn_mapUpdate_own _ rfl _ _ _ 60 rfl 9 4 (Maps.string_keyed Try.underlying9) Try.underlying60 _ (w.heap.size + 1 + 1) pre.length _ rfl HM.out hpl _ _ _ rfl rfl HK.out _ [] (plainElem_bool Try.underlying4 true) ?_; intro w1 hown1 hgrow1; have HU := Lib.hid (And.intro hown1 hgrow1); have hk1 := names_kept HM.out hgrow1; have d0 := hk1.cell c0 id; have dn := (hk1.boxed HI.out.1 id).cell; have HR := Lib.hid (own_keep (hk1.own HI.out.2.1 fun _ _ => id) (m_below w1 (.cells #[.string x.1.2.s] 9))); have dnl : w.heap.size + 1 < w1.heap.size := (hk1.boxed HI.out.1 id).lt; have HL := Lib.hid (lies_str w1 x.1.2.s); clear hown1 hgrow1 hk1 c0 cm)
        | (gi_at_builtin; refine wpListIn_append_rows _ rowStr rfl _ _ rfl w.heap.size _ acc.length (acc.map strV) rfl HR.out (some ⟨w1.heap.size, 0, none⟩) 1 1 [.string x.1.2.s] rfl rfl HL.out (by intro u hu; rcases List.mem_singleton.1 hu with rfl; rfl) (by omega) (by have := HI.out.2.2.2.1; simp only [World.size_alloc]; omega) ?_; intro v3 w3 hown hgr hob; obtain ⟨A3, c3, e3, _⟩ := own_slice hown; subst e3; have hx3 := (((names_kept HM.out HU.out.2).boxed HI.out.1 id).alloc (.cells #[.string x.1.2.s] 9)).kept hgr (Boxed.not_row (((names_kept HM.out HU.out.2).boxed HI.out.1 id).alloc (.cells #[.string x.1.2.s] 9)) (by decide) HR.out); have cf3 := hx3.cell; have ff3 := hx3.frozen; have HG := Lib.hid (And.intro hown (And.intro hgr (And.intro hob hx3))); clear hown hgr hob hx3))
      obtain ⟨k1, k2, k3, k5, hB, hacc, hnm⟩ := HI.out
      obtain ⟨hown1, hgrow1⟩ := HU.out
      obtain ⟨hown, hgr, hob, hx3⟩ := HG.out
      have hns : namesOf ((pre ++ [x]).map fun y => y.1.2.m) = acc ++ [x.1.2.m.name] := by
        rw [List.map_append, List.map_cons, List.map_nil, namesOf_snoc, hacc]
        unfold addN; rw [if_neg HIN.out]
      have hk1 := names_kept HM.out hgrow1
      have BL : Below w.heap.size W (w3.setCell ⟨w.heap.size + 1, 0, none⟩ (.slice A3 (acc.length + 1) c3)) :=
        ((((Below.refl w.heap.size W).grown hgrow1 hB.size (fun k e => by cases e; omega)).alloc (Nat.le_trans hB.size hgrow1.size) _).grown hgr (by rw [World.size_alloc]; have := hB.size; have := hgrow1.size; omega) (fun k e => (HR.out.lt k e).1)).setCell (p := ⟨w.heap.size + 1, 0, none⟩) (by show _ ≤ w.heap.size + 1; omega) _
      refine ⟨(((KeepsFrom.of_grownBy hgrow1 (fun j e => by cases e; omega)).trans ((KeepsOthers.alloc w1 _).from _)).trans ((KeepsOthers.of_grownBy hgr (fun j o e ho => by
          obtain ⟨o', h1, h2⟩ := own_isCells HR.out e
          rw [ho] at h1
          injection h1 with h1
          subst h1
          exact h2)).from _)).trans ((KeepsOthers.setCell _ _ _).from _), BL, ⟨⟨_, hx3.set _, ?_⟩, ?_, ?_, Nat.le_trans k5 BL.size⟩, hB.trans BL⟩
      · rw [hns, List.length_append, List.map_append]
        have := (CKept.of_set (X := fun b => b = w.heap.size + 1) (W := w3) ⟨w.heap.size + 1, 0, none⟩ (.slice A3 (acc.length + 1) c3) rfl).own hown (fun g hg e => Boxed.not_row hx3 (by decide) hown (by rw [hg, e]))
        rw [hnm.eq] at this
        exact this
      · exact (((hk1.boxed k3 id).alloc (.cells #[.string x.1.2.s] 9)).kept hgr (Boxed.not_row ((hk1.boxed k3 id).alloc (.cells #[.string x.1.2.s] 9)) (by decide) HR.out)).other (by omega) _
      · rw [hns, setD_snoc, List.length_append]
        exact ((hown1.alloc _).kept hgr (map_not_row (hown1.alloc _) HR.out)).setCell (a := ⟨w.heap.size + 1, 0, none⟩) (by show w.heap.size + 1 + 1 ≠ w.heap.size + 1; omega) _
  case done =>
    rintro D ys W hD ⟨hF, hl⟩ ⟨hi, hB⟩ hK
    obtain ⟨⟨v, k1, k2⟩, k3, k4, k5⟩ := hi
    have hdat : (ys.map fun y => y.1.2.m) = datM es := by
      unfold datM
      conv => rhs; rw [← hF.all hl]
      rw [List.map_map]; rfl
    rw [hdat] at k2
    obtain ⟨Av, cv, rfl, hc1, _⟩ := own_slice k2
    have d1 := k1.cell
    have HI := Lib.hid (And.intro k2 hB)
    clear k1 k2 k3 k4 hB
    gi_wp2
    refine ⟨by simp, .inl ⟨_, _, rfl, run_takeDeferred hK, ?_⟩⟩
    have hk : CKept (fun _ => False) W (W.putObj D (.deferred none)) := CKept.of_own (grownBy_putObj' _ D _) (fun r e => by cases e; exact ⟨_, hK, rfl⟩)
    refine ⟨_, results_tmp rfl _ _ _, ⟨Av, cv, rfl, hc1, ?_⟩, HI.out.2.trans (belowK_b (w := W0) hb0.size _ D _ _ hD hK rfl rfl)⟩
    exact Lies.of_own (hk.own HI.out.1 fun _ _ => id)
  case stop =>
    rintro D c pre W _ _ h _
    exact h.elim
end Go.Proofs.Ytikdolgcdkmmaaa

/-
  Rows of texts that are held against one another. No statement of the seat is proved here.
-/
namespace Go.Proofs.Ytikdolgcdkmmaaa
open Go.RowKit
open Dc (D D0)

theorem Strs.keep {w w' : World} {A : Option Addr} {ss : List (List UInt8)} (h : Strs w A ss) (hb : Below w.heap.size w w') : Strs w' A ss := Lies.keep h hb
theorem Strs.get {w : World} {A : Option Addr} {ss : List (List UInt8)} (h : Strs w A ss) {i : Nat} {s : List UInt8} (hi : ss[i]? = some s) : ∃ b off t, A = some ⟨b, off, none⟩ ∧ w.cell? ⟨b, off + i, none⟩ = some (.string t) ∧ Str t s := by
  obtain ⟨b, off, e, hc⟩ := h i (strV s) (by rw [List.getElem?_map, hi]; rfl)
  exact ⟨b, off, _, e, hc, Str.mk s⟩
theorem Strs.take {w : World} {A : Option Addr} {ss : List (List UInt8)} (h : Strs w A ss) (k : Nat) : Strs w A (ss.take k) := by unfold Strs; rw [List.map_take]; exact Lies.take h k
theorem bytes_ne {a b : ByteArray} {s t : List UInt8} {q : Bool} (ha : Str a s) (hb : Str b t) (h : decide (s = t) = q) : (a.toList != b.toList) = !q := by
  show (!(a.toList == b.toList)) = !q
  rw [str_eq ha hb, ← h]
  by_cases e : s = t <;> simp [e]

set_option maxRecDepth 100000 in
set_option maxHeartbeats 4000000 in
theorem texts_calls {w : World} {A B : Option Addr} {n m ca cb : Nat} {ss ts : List (List UInt8)} (hn : ss.length = n) (hm : ts.length = m) (hA : Strs w A ss) (hB : Strs w B ts) (hz : n ≤ 1000000) :
    Calls Try.prog 24 #[.slice A n ca, .slice B m cb] w fun e w' => e = .returned (.bool (decide (ss = ts))) ∧ Below w.heap.size w w' := by
  obtain ⟨q, hq⟩ : ∃ q, decide (ss = ts) = q := ⟨_, rfl⟩
  rw [hq]
  have HP := Lib.hid (And.intro hq (And.intro hA hB))
  have HL := Lib.hid (And.intro hn hm)
  clear hq hA hB
  by_cases h1 : n = m
  · subst h1
    clear hn hm
    go_enter Try.func24, Try.ntmps24
    go_wp2_with fail
    go_loopw [5] (fun v5 wr => ∃ i : Nat, v5 = .int .i64 i ∧ i ≤ n ∧ Hid (Below w.heap.size w wr ∧ ∀ j, j < i → ss[j]? = ts[j]?)) (fun v5 _ => n - (intOf v5).toNat)
    case atStart => exact ⟨0, rfl, by omega, ⟨Below.refl _ _, fun j hj => absurd hj (by omega)⟩⟩
    case round =>
      obtain ⟨i, rfl, hi, hrel⟩ := hrel
      by_cases hlt : i < n
      · have g1 : (i : Int) < (n : Int) := by omega
        have g2 : (0 : Int) ≤ (i : Int) := by omega
        obtain ⟨h1, h2⟩ := HL.out
        have hie : ss[i]? = some (ss[i]'(by omega)) := List.getElem?_eq_getElem (by omega)
        generalize ss[i]'(by omega) = x at hie
        have hif : ts[i]? = some (ts[i]'(by omega)) := List.getElem?_eq_getElem (by omega)
        generalize ts[i]'(by omega) = y at hif
        obtain ⟨ba, oa, x0, eA, c0, hx0⟩ := (HP.out.2.1.keep hrel.out.1).get hie
        obtain ⟨bb, ob, y0, eB, d0, hy0⟩ := (HP.out.2.2.keep hrel.out.1).get hif
        subst eA eB
        obtain ⟨c, hc⟩ : ∃ c, decide (x = y) = c := ⟨_, rfl⟩
        have hne := bytes_ne hx0 hy0 hc
        have hse : (x0.toList == y0.toList) = c := by rw [str_eq hx0 hy0, ← hc]; by_cases e : x = y <;> simp [e]
        have hpe : x0.toList = y0.toList ↔ c = true := by rw [← hse, beq_iff_eq]
        have HI := Lib.hid (And.intro hie (And.intro hif hc))
        clear hie hif hc h1 h2 hx0 hy0
        cases c
        · have hpn : ¬ x0.toList = y0.toList := fun h => Bool.noConfusion (hpe.1 h)
          clear hpe
          go_wp2_with fail
          go_quiet (fail)
          go_wp2_with fail
          go_ret
          have hx : ss ≠ ts := fun e => by
            have h3 := HI.out.1
            rw [e, HI.out.2.1] at h3
            injection h3 with h3
            exact of_decide_eq_false HI.out.2.2 h3.symm
          rw [← HP.out.1, decide_eq_false hx]
          exact ⟨rfl, hrel.out.1.trans (Same.below (Same.drewN _ _))⟩
        · have hpn : x0.toList = y0.toList := hpe.2 rfl
          clear hpe
          go_wp2_with fail
          go_quiet (fail)
          go_wp2_with fail
          refine ⟨⟨i + 1, by go_num, by omega, ⟨hrel.out.1.trans (Same.below (Same.drewN _ _)), fun j hj => ?_⟩⟩, by simp [intOf]; omega⟩
          rcases Nat.lt_or_ge j i with h | h
          · exact hrel.out.2 j h
          · obtain rfl : i = j := by omega
            rw [HI.out.1, HI.out.2.1, of_decide_eq_true HI.out.2.2]
      · have g1 : ¬ (i : Int) < (n : Int) := by omega
        go_wp2_with fail
        go_ret
        have hx : ss = ts := by
          apply List.ext_getElem?
          intro j
          rcases Nat.lt_or_ge j i with h | h
          · exact hrel.out.2 j h
          · have := HL.out
            rw [List.getElem?_eq_none (by omega), List.getElem?_eq_none (by omega)]
        rw [← HP.out.1, decide_eq_true hx]
        exact ⟨rfl, hrel.out.1⟩
  · have g1 : (n : Int) ≠ (m : Int) := by omega
    have HE := Lib.hid (show q = false by rw [← HP.out.1]; exact decide_eq_false fun h => h1 (by rw [← hn, ← hm, h]))
    clear hn hm
    go_enter Try.func24, Try.ntmps24
    go_wp2_with fail
    go_ret
    exact ⟨by rw [HE.out]; first | done | rfl, Below.refl _ _⟩

/-! The document's Names. -/
theorem mem_foldN : ∀ (ss acc : List (List UInt8)) (s : List UInt8), s ∈ ss.foldl addN acc ↔ s ∈ acc ∨ s ∈ ss
  | [], acc, s => by simp
  | t :: ss, acc, s => by
    rw [List.foldl_cons, mem_foldN ss]
    have : s ∈ addN acc t ↔ s ∈ acc ∨ s = t := by
      unfold addN; split
      · exact ⟨.inl, fun h => h.elim id fun e => by rw [e]; assumption⟩
      · simp
    rw [this, List.mem_cons, or_assoc]
theorem mem_namesOf {ms : List Mt} {s : List UInt8} : s ∈ namesOf ms ↔ s ∈ ms.map Mt.name := by unfold namesOf; rw [mem_foldN]; simp

set_option maxRecDepth 100000 in
set_option maxHeartbeats 8000000 in
theorem rbnames_calls {w : World} {A : Option Addr} {len cap : Nat} {es : List En} (hlen : es.length = len) (hz : len ≤ 100000) (hM : Mets w A es) :
    Calls Try.prog 26 #[.slice A len cap] w fun e W' => (∃ A' c', e = .returned (.slice A' (namesOf (datM es)).length c') ∧ Strs W' A' (namesOf (datM es))) ∧ Below w.heap.size w W' := by
  have HP := Lib.hid (And.intro hlen hM)
  clear hlen hM
  go_enter Try.func26, Try.ntmps26
  go_wp2_with fail
  go_loopw [3, 4] (fun v3 v4 wr => ∃ i : Nat, v4 = .int .i64 i ∧ i ≤ len ∧ Hid (Below w.heap.size w wr ∧ wr.ownsRow w.heap.size 9 1 v3 (namesOf (datM (es.take i))).length ((namesOf (datM (es.take i))).map strV))) (fun _ v4 _ => len - (intOf v4).toNat)
  case atStart => exact ⟨0, rfl, by omega, ⟨Below.refl _ _, ⟨rfl, .inl ⟨rfl, rfl⟩⟩⟩⟩
  case round =>
    obtain ⟨i, rfl, hi, hrel⟩ := hrel
    by_cases hlt : i < len
    · have g1 : (i : Int) < (len : Int) := by omega
      have g2 : (0 : Int) ≤ (i : Int) := by omega
      obtain ⟨hlen, hM⟩ := HP.out
      have hie : es[i]? = some (es[i]'(by omega)) := List.getElem?_eq_getElem (by omega)
      generalize es[i]'(by omega) = x at hie
      have hMr := hM.keep hrel.out.1
      obtain ⟨b, off, eA, c0, -, -, -, -, -⟩ := hMr.get hie
      subst eA
      obtain ⟨acc, hacc⟩ : ∃ acc, namesOf (datM (es.take i)) = acc := ⟨_, rfl⟩
      have hown := hrel.out.2
      rw [hacc] at hown
      have hal : acc.length ≤ i := by
        have := namesOf_len (datM (es.take i))
        rw [hacc, datM_len, List.length_take] at this
        omega
      obtain ⟨Av, cv, rfl, _⟩ := own_slice hown
      have HI := Lib.hid (And.intro hie (And.intro hacc (And.intro hown hrel.out.1)))
      have HN := Lib.hid (hMr.one hie).name
      obtain ⟨wo, hwo⟩ : ∃ wo, wo = wr := ⟨_, rfl⟩
      subst hwo
      clear hlen hM hMr hie hacc hown hrel
      go_wp2_with fail
      go_loopw [5, 6] (fun v5 v6 wr => ∃ (k : Nat) (q : Bool), v6 = .int .i64 k ∧ v5 = .bool q ∧ k ≤ i ∧ Hid (Below wo.heap.size wo wr ∧ q = decide (x.m.name ∈ (datM (es.take k)).map Mt.name))) (fun _ v6 _ => i - (intOf v6).toNat)
      case atStart => exact ⟨0, false, rfl, rfl, by omega, ⟨Below.refl _ _, by simp [datM]⟩⟩
      case round =>
        obtain ⟨k, q, rfl, rfl, hk, hrel⟩ := hrel
        by_cases hkl : k < i
        · have h1 : (k : Int) < (i : Int) := by omega
          have h2 : (0 : Int) ≤ (k : Int) := by omega
          have h3 : (k : Int) < (len : Int) := by omega
          obtain ⟨hlen, hM⟩ := HP.out
          have hke : es[k]? = some (es[k]'(by omega)) := List.getElem?_eq_getElem (by omega)
          generalize es[k]'(by omega) = y at hke
          have hMr := hM.keep (below_then HI.out.2.2.2 hrel.out.1)
          obtain ⟨b', off', eA, d0, -, -, -, -, -⟩ := hMr.get hke
          injection eA with eA
          injection eA with eA1 eA2
          subst eA1 eA2
          have c0' := (hrel.out.1.cell (cell_lt c0)).trans c0
          have hse := str_eq (hMr.one hke).name HN.out
          obtain ⟨p, hp⟩ : ∃ p, (y.m.name == x.m.name) = p := ⟨_, rfl⟩
          rw [hp] at hse
          have HS := Lib.hid (show decide (x.m.name ∈ (datM (es.take (k + 1))).map Mt.name) = (q || p) by
            rw [take_step hke, hrel.out.2, ← hp]
            unfold datM
            rw [List.map_append, List.map_append, Bool.eq_iff_iff, Bool.or_eq_true, decide_eq_true_eq, decide_eq_true_eq, beq_iff_eq, List.mem_append]
            show _ ∨ x.m.name ∈ [y.m.name] ↔ _
            rw [List.mem_singleton]
            exact or_congr_right ⟨Eq.symm, Eq.symm⟩)
          clear hlen hM hMr hke hp
          cases q
          · cases p
            all_goals
              go_wp2_with fail
              go_quiet (fail)
              go_wp2_with fail
              refine ⟨⟨k + 1, _, by go_num, rfl, by omega, ⟨hrel.out.1.trans (Same.below (Same.drewN _ _)), by rw [HS.out]; rfl⟩⟩, by simp [intOf]; omega⟩
          · go_wp2_with fail
            go_quiet (fail)
            go_wp2_with fail
            refine ⟨⟨k + 1, _, by go_num, rfl, by omega, ⟨hrel.out.1.trans (Same.below (Same.drewN _ _)), by rw [HS.out]; rfl⟩⟩, by simp [intOf]; omega⟩
        · have h1 : ¬ (k : Int) < (i : Int) := by omega
          obtain rfl : i = k := by omega
          have hMr := HP.out.2.keep (below_then HI.out.2.2.2 hrel.out.1)
          have c0' := (hrel.out.1.cell (cell_lt c0)).trans c0
          have hq : q = decide (x.m.name ∈ acc) := by rw [hrel.out.2, ← HI.out.2.1]; exact decide_eq_decide.2 mem_namesOf.symm
          have hns : namesOf (datM (es.take (i + 1))) = addN acc x.m.name := by
            rw [take_step HI.out.1]
            unfold datM
            rw [List.map_append, List.map_cons, List.map_nil, namesOf_snoc]
            have := HI.out.2.1
            unfold datM at this
            rw [this]
          have HR := Lib.hid (own_keep HI.out.2.2.1 hrel.out.1)
          have HR2 := Lib.hid (own_keep HR.out (m_below wr (.cells #[.string x.s] 9)))
          have HLs := Lib.hid (lies_str wr x.s)
          have HB := Lib.hid (below_then HI.out.2.2.2 hrel.out.1)
          have HNS := Lib.hid hns
          cases q
          · have HQ := Lib.hid (of_decide_eq_false hq.symm)
            clear hMr hq hrel hns
            go_wp2_with (first | (at_builtin; refine wpList_append_rows _ rowStr rfl _ _ rfl w.heap.size _ acc.length (acc.map strV) rfl HR2.out (some ⟨wr.heap.size, 0, none⟩) 1 1 [.string x.s] rfl rfl HLs.out (by intro u hu; rcases List.mem_singleton.1 hu with rfl; rfl) (by omega) (by have := HB.out.size; simp only [size_alloc]; omega) ?_; intro v3 w3 hown hgr hob; have HG := Lib.hid (And.intro hown hgr); clear hown hgr hob))
            refine ⟨⟨i + 1, by go_num, by omega, ⟨(below_then HB.out (m_below _ _)).grown HG.out.2 (below_then HB.out (m_below _ _)).size (fun k hk => (HR2.out.lt k hk).1), ?_⟩⟩, by simp [intOf]; omega⟩
            have h5 := HG.out.1
            rw [HNS.out]
            unfold addN
            rw [if_neg HQ.out, List.length_append, List.map_append]
            rw [HN.out.eq] at h5
            exact h5
          · have HQ := Lib.hid (of_decide_eq_true hq.symm)
            clear hMr hq hrel hns
            go_wp2_with fail
            refine ⟨⟨i + 1, by go_num, by omega, ⟨HB.out, ?_⟩⟩, by simp [intOf]; omega⟩
            rw [HNS.out]
            unfold addN
            rw [if_pos HQ.out]
            exact HR.out
    · have g1 : ¬ (i : Int) < (len : Int) := by omega
      obtain rfl : len = i := by omega
      have hown := hrel.out.2
      rw [List.take_of_length_le (by have := HP.out.1; omega)] at hown
      obtain ⟨Av, cv, rfl, _⟩ := own_slice hown
      have HO := Lib.hid hown
      clear hown
      go_wp2_with fail
      go_ret
      exact ⟨⟨Av, ⟨cv, rfl⟩, Lies.of_own HO.out⟩, hrel.out.1⟩
end Go.Proofs.Ytikdolgcdkmmaaa
