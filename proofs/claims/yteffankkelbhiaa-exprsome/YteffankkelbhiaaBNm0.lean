/-
  BNormal, BFw. No statement of the seat is proved here.
-/
import Derived.Test.YteffankkelbhiaaBRow0
import Derived.Test.YteffankkelbhiaaBOwn
import Derived.Test.YteffankkelbhiaaMNormal
/-
  batch.Check and batch.Normal. No statement of the seat is proved here.
-/
namespace Go.Proofs.Yteffankkelbhiaa
open Go.RowKit Go.Shelf
open Dc (D D0)

/-- Each of them is small. -/
def Smalls (es : List En) : Prop := ∀ e ∈ es, Small e.m

set_option maxRecDepth 100000 in
set_option maxHeartbeats 2000000 in
theorem bcheck_calls {w : World} {A : Option Addr} {len cap : Nat} {es : List En} (hlen : es.length = len) (hz : len ≤ 100000) (hM : Mets w A es) (hs : Smalls es) :
    Calls Try.prog 25 #[.slice A len cap] w fun e w' => e = .returned (.tuple #[.int .i64 ((fwB checkM (datM es)).1 : Int), .int .i64 (fwB checkM (datM es)).2]) ∧ Below w.heap.size w w' := by
  have hC := first_check (cap := cap) (C := checkM) (J := fun _ _ => True) hlen hz hM (Below.refl _ _) (fun _ _ _ _ _ _ _ => trivial) (fun _ _ _ _ _ _ _ => trivial) trivial
    (fun pre x W _ hB _ _ => (mcheck_calls (ca := x.1.2.ca) (cb := x.1.2.cb) ((hM.keep hB).one x.2) (hs _ (List.mem_of_getElem? x.2))).mono fun e w' h => ⟨h.1, h.2.mono hB.size, KeepsX.of_below h.2, trivial⟩)
  obtain ⟨p, hp⟩ : ∃ p, fwB checkM (datM es) = p := ⟨_, rfl⟩
  rw [hp] at hC ⊢
  obtain ⟨p1, p2⟩ := p
  have HC := Lib.hid hC
  clear hC hp hM hs
  go_enter Try.func25, Try.ntmps25
  go_wp2_with fail
  refine HC.out.mono ?_
  rintro e w2 ⟨rfl, hb, _⟩
  have HB := Lib.hid hb
  clear hb
  go_wp2_with fail
  go_ret2
  exact ⟨rfl, HB.out⟩

/-- What a call of the closure leaves. -/
structure FormR (X : Nat → Prop) (W : World) (base fb : Nat) (v : Value) (i : Nat) (fs : List En) (m : Mt) (W' : World) : Prop where
  row : ∃ v' e', e'.m = nM m ∧ Boxed W' fb 33 v' ∧ RowM X W' base v' (i + 1) (fs ++ [e'])
  below : ∀ B, B ≤ fb → B ≤ base → Below B W W'
  block : ∀ b, b < W.heap.size → b ≠ fb → v.ownBlock ≠ some b → W'.heap[b]? = W.heap[b]?

theorem RowM.cells {X : Nat → Prop} {W : World} {base n g : Nat} {v : Value} {fs : List En} (h : RowM X W base v n fs) (hg : v.ownBlock = some g) : ∃ o : Obj, W.heap[g]? = some o ∧ o.isCells = true := by
  rcases h.own.2 with ⟨rfl, _⟩ | ⟨g', cap, cur, rfl, _, hh, _⟩
  · cases hg
  · injection hg with hg; subst hg; exact ⟨_, hh, rfl⟩

/-- What the closure of Normal has in hand. -/
def FormJ {es : List En} (n0 : Nat) (pre : List (It es)) (W : World) : Prop :=
  ∃ v fs, Boxed W (n0 + 1) 33 v ∧ RowM (fun b => b = n0 + 1 ∨ (n0 + 2 ≤ b ∧ b < n0 + 6)) W n0 v pre.length fs ∧ datM fs = pre.map fun y => nM y.1.2.m

theorem formJ_own {es : List En} (n0 B : Nat) : OwnFrom B (FormJ (es := es) n0) := fun _ _ _ _ ⟨v, fs, h1, h2, h3⟩ hg hr =>
  ⟨v, fs, (CKept.of_own (X := fun _ => False) hg fun r e => (hr r e).2).boxed h1 id, h2.kept (CKept.of_own hg fun r e => (hr r e).2), h3⟩
theorem formJ_set {es : List En} {n0 : Nat} {s : List (It es)} {W : World} {b : Nat} (u : Value) (h : FormJ n0 s W) (h1 : n0 + 2 ≤ b) (h2 : b < n0 + 5) : FormJ n0 s (W.setCell ⟨b, 0, none⟩ u) := by
  obtain ⟨v, fs, k1, k2, k3⟩ := h
  exact ⟨v, fs, k1.other (by omega) u, k2.kept (CKept.of_set _ _ (.inr ⟨h1, by show b < n0 + 6; omega⟩)), k3⟩
theorem results_tmp3 {fn : Func} {t u x : Tmp} (h : fn.results = #[.tmp t, .tmp u, .tmp x]) (tmps : Array Value) (P : Program) (w : World) :
    (results fn tmps).run P w = .ok (.tuple #[tmps.getD t undef, tmps.getD u undef, tmps.getD x undef]) w := by
  simp [results, h]

/-- What Normal of a batch tells. -/
def nB (ms : List Mt) : List Mt := if (fwB codeM ms).2 = 0 then ms.map nM else []
def NormB (w : World) (ms : List Mt) (p : Nat × Int) (r : List Mt) (e : Ending) (w' : World) : Prop :=
  (∃ A n cap fs, e = .returned (.tuple #[.slice A n cap, .int .i64 (p.1 : Int), .int .i64 p.2]) ∧ Mets w' A fs ∧ fs.length = n ∧ datM fs = r) ∧ Below w.heap.size w w' ∧ p = fwB codeM ms ∧ r = nB ms

end Go.Proofs.Yteffankkelbhiaa

/-
  The first metric of a row that is wrong, by its place. No statement of the seat is proved here.
-/
namespace Go.Proofs.Yteffankkelbhiaa
open Go.RowKit
open Dc (D D0)

theorem fw_full {C : Mt → Int} {es : List En} (h : ∀ (j : Nat) e, es[j]? = some e → C e.m = 0) : fw C (datM es) = (0, 0) := fw_all fun m hm => by
  obtain ⟨e, he, rfl⟩ := List.mem_map.1 hm
  obtain ⟨j, hj, rfl⟩ := List.mem_iff_getElem.1 he
  exact h j _ (List.getElem?_eq_getElem hj)
theorem en_split {es : List En} {i : Nat} {e : En} (hi : es[i]? = some e) : es = es.take i ++ e :: es.drop (i + 1) := by
  obtain ⟨h, rfl⟩ := List.getElem?_eq_some_iff.1 hi
  rw [← List.drop_eq_getElem_cons h, List.take_append_drop]
theorem fw_at {C : Mt → Int} {es : List En} {i : Nat} {e : En} (h : ∀ (j : Nat) x, es[j]? = some x → j < i → C x.m = 0) (hi : es[i]? = some e) (hc : C e.m ≠ 0) : fw C (datM es) = (i, C e.m) := by
  have hl := (List.getElem?_eq_some_iff.1 hi).1
  have : datM es = datM (es.take i) ++ e.m :: datM (es.drop (i + 1)) := by
    conv => lhs; rw [en_split hi]
    unfold datM; rw [List.map_append, List.map_cons]
  rw [this, fw_first (fun m hm => ?_) hc]
  · unfold datM; rw [List.length_map, List.length_take, Nat.min_eq_left (by omega)]
  · obtain ⟨x, hx, rfl⟩ := List.mem_map.1 hm
    obtain ⟨j, hj, rfl⟩ := List.mem_iff_getElem.1 hx
    rw [List.length_take] at hj
    exact h j _ (by rw [List.getElem_take]; exact List.getElem?_eq_getElem (by omega)) (by omega)
theorem take_step {es : List En} {i : Nat} {e : En} (hi : es[i]? = some e) : es.take (i + 1) = es.take i ++ [e] := by
  obtain ⟨h, rfl⟩ := List.getElem?_eq_some_iff.1 hi
  rw [List.take_succ_eq_append_getElem h]
theorem datM_len (es : List En) : (datM es).length = es.length := by unfold datM; rw [List.length_map]
theorem fwB_in {C : Mt → Int} {es : List En} (h : ¬ 1000 < es.length) : fwB C (datM es) = fw C (datM es) := by unfold fwB; rw [datM_len, if_neg h]
theorem fwB_out {C : Mt → Int} {es : List En} (h : 1000 < es.length) : fwB C (datM es) = (1000, 12) := by unfold fwB; rw [datM_len, if_pos h]
end Go.Proofs.Yteffankkelbhiaa
