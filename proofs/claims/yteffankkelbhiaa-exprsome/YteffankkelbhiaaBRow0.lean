/-
  BPlaces, BFirst. No statement of the seat is proved here.
-/
import Derived.RangeFuncNested
import Derived.RangeFuncBound
import Derived.RangeFuncCalls
import Derived.RangeFuncLeaves
import Derived.Shelf.Abstract
import Derived.Shelf.RegionOpen
import Derived.WalkKit
import Derived.OwnWalkIn
import Derived.TacticsInMore
import Derived.LoopNIn
import Derived.LoopIn
import Derived.Test.YteffankkelbhiaaBRows
import Derived.RangeFuncBox
/-
  batch.places: the iterator over a batch, for every loop body. No statement of the seat is proved here.
-/
namespace Go.Proofs.Yteffankkelbhiaa
open Go.RowKit Go.Shelf
open Dc (D D0)

attribute [local go_sem] Oper.semAt_some

/-- A metric of a row, with its place. -/
abbrev It (es : List En) := { x : Nat × En // es[x.1]? = some x.2 }
/-- The first ones of a row, in order. -/
def Firsts (es : List En) (xs : List (It es)) : Prop := ∀ (i : Nat) x, xs[i]? = some x → x.1.1 = i
theorem Firsts.nil (es : List En) : Firsts es [] := fun i x h => by simp at h
theorem Firsts.push {es : List En} {xs : List (It es)} (h : Firsts es xs) {x : It es} (hx : x.1.1 = xs.length) : Firsts es (xs ++ [x]) := fun i y hy => by
  rcases Nat.lt_or_ge i xs.length with hlt | hge
  · rw [List.getElem?_append_left hlt] at hy; exact h i y hy
  · rw [List.getElem?_append_right hge] at hy
    have h0 : i - xs.length = 0 := by
      rcases Nat.eq_zero_or_pos (i - xs.length) with h0 | h0
      · exact h0
      · rw [List.getElem?_eq_none (by show 1 ≤ _; omega)] at hy; cases hy
    rw [h0] at hy
    injection hy with hy
    subst hy
    omega
theorem Firsts.take {es : List En} {xs : List (It es)} (h : Firsts es xs) : xs.map (fun x => x.1.2) = es.take xs.length := by
  apply List.ext_getElem?
  intro i
  rcases Nat.lt_or_ge i xs.length with hlt | hge
  · rw [List.getElem?_take_of_lt hlt, List.getElem?_map, List.getElem?_eq_getElem hlt]
    have := h i _ (List.getElem?_eq_getElem hlt)
    have h2 := xs[i].2
    rw [this] at h2
    rw [h2]; rfl
  · rw [List.getElem?_eq_none (by simpa using hge), List.getElem?_eq_none (by rw [List.length_take]; omega)]
theorem Firsts.all {es : List En} {xs : List (It es)} (h : Firsts es xs) (hl : xs.length = es.length) : xs.map (fun x => x.1.2) = es := by rw [h.take, hl, List.take_length]

/-- What a round is handed. -/
def encI {es : List En} (x : It es) : Array Value := #[.int .i64 (x.1.1 : Int), .agg #[.string x.1.2.s, .int .i64 x.1.2.m.kind, .slice x.1.2.A x.1.2.n x.1.2.ca, .int .i64 x.1.2.m.rate, .slice x.1.2.B x.1.2.k x.1.2.cb, .int .i64 x.1.2.m.time]]

set_option maxRecDepth 100000 in
set_option maxHeartbeats 2000000 in
theorem places1_in {es : List En} {w0 : World} (F : Fence) (n : Nat) (hf : F.fn 64) (hro : F.round = none) (hn : 1 ≤ n) (l Bs : Nat) (A : Option Addr) (len cap : Nat) (hlen : es.length = len) (hz : len ≤ 100000) (hM : Mets w0 A es) (J Jx : List (It es) → World → Prop)
    (W : World) (hb0 : Below w0.heap.size w0 W) (hJ : AbidesFrom W.heap.size J)
    (hY : ∀ pre x W, J pre W → pre.length < len → YieldAt F (n - 1) Try.prog l (encI x) W fun e W' =>
      (e = .returned (.bool true) ∧ J (pre ++ [x]) W' ∧ Below w0.heap.size W W') ∨ (e = .returned (.bool false) ∧ Jx (pre ++ [x]) W'))
    (hBs : W.cell? ⟨Bs, 0, none⟩ = some (.slice A len cap)) (h0 : J [] W) :
    CallsIn F n Try.prog 64 #[.func (.yield l) #[] #[], .pointer (some ⟨Bs, 0, none⟩)] W fun e W' => (∃ v, e = .returned v) ∧
      ((∃ ys, (Firsts es ys ∧ ys.length = es.length) ∧ J ys W') ∨ (∃ pre, (Firsts es pre ∧ pre.length ≤ es.length) ∧ Jx pre W')) := by
  refine callsIn_of_wp Try.func64 rfl hf ?_ hro
  simp only [Try.ntmps64, List.size_toArray, List.length_cons, List.length_nil, Nat.reduceAdd, Nat.reduceSub, Array.replicate_succ, Array.replicate_zero, List.push_toArray, List.append_toArray, List.nil_append, List.cons_append]
  have HJ := Lib.hid hJ
  have HY := Lib.hid hY
  clear hJ hY
  gi_wp2
  gi_loopw [7] (fun i wr => ∃ k : Nat, k ≤ len ∧ i = .int .i64 k ∧ Hid (∃ pre : List (It es), pre.length = k ∧ Firsts es pre ∧ J pre wr ∧ Below W.heap.size W W ∧ Below w0.heap.size w0 wr ∧ W.heap.size ≤ wr.heap.size))
    (fun i _ => len - (intOf i).toNat)
  case atStart => exact ⟨0, Nat.zero_le _, rfl, Lib.hid ⟨[], rfl, Firsts.nil es, h0, Below.refl _ _, hb0, Nat.le_refl _⟩⟩
  case round =>
    obtain ⟨k, hk, rfl, hrel⟩ := hrel
    by_cases hlt : k < len
    · obtain ⟨pre, hpl, hpf, hJs, _, hb, hsz⟩ := hrel.out
      have hke : k < es.length := by omega
      obtain ⟨b, off, eA, c0, c1, c2, c3, c4, c5⟩ := (hM.keep hb).get (List.getElem?_eq_getElem hke)
      subst eA
      have g1 : (k : Int) < (len : Int) := by omega
      have hJ1 : J pre (wr.alloc (.cells #[.string es[k].s, .int .i64 es[k].m.kind, .slice es[k].A es[k].n es[k].ca, .int .i64 es[k].m.rate, .slice es[k].B es[k].k es[k].cb, .int .i64 es[k].m.time] 25)) := HJ.out pre wr _ none hJs (World.grownBy_alloc wr _ none) (fun r e => by cases e)
      have hY1 := HY.out pre ⟨(k, es[k]), List.getElem?_eq_getElem hke⟩ _ hJ1 (by omega)
      unfold encI at hY1
      dsimp only at hY1
      obtain ⟨fn, tmps, assign, body, hy, hR⟩ := hY1
      have HK := Lib.hid (And.intro hpl (And.intro hpf (And.intro hb hsz)))
      clear hJs hpl hpf hb hsz hJ1
      gi_wp2
      refine hR.mono ?_
      rintro e W3 (⟨rfl, hJ3, hk3⟩ | ⟨rfl, hJx3⟩)
      · gi_wp2
        go_roundw
        case rel => exact ⟨k + 1, by omega, by simp, Lib.hid ⟨_, by rw [List.length_append, HK.out.1]; rfl, HK.out.2.1.push HK.out.1.symm, hJ3, Below.refl _ _, HK.out.2.2.1.trans (((Below.refl _ _).alloc HK.out.2.2.1.size _).trans hk3), by have := HK.out.2.2.2; have := hk3.size; rw [size_alloc] at this; omega⟩⟩
        case measure => simp [intOf]; omega
      · gi_wp2
        refine bodyPost_ret (results_none rfl _ _ _) rfl ?_
        exact ⟨⟨_, rfl⟩, .inr ⟨_, ⟨HK.out.2.1.push HK.out.1.symm, by rw [List.length_append, HK.out.1]; show k + 1 ≤ es.length; omega⟩, hJx3⟩⟩
    · obtain rfl : k = len := by omega
      have g1 : ¬ (k : Int) < (k : Int) := by omega
      gi_wp2
      go_end0
      obtain ⟨pre, hpl, hpf, hJs, _⟩ := hrel.out
      exact ⟨⟨_, rfl⟩, .inl ⟨pre, ⟨hpf, by omega⟩, hJs⟩⟩

set_option maxHeartbeats 1000000 in
theorem places_in (F : Fence) (n : Nat) (hf : F.fn 57) (hro : F.round = none) (A : Option Addr) (len cap : Nat) (w : World) :
    CallsIn F n Try.prog 57 #[.slice A len cap] w fun e w' => e = .returned (.func (.func 64) #[] #[.pointer (some ⟨w.heap.size, 0, none⟩)]) ∧ w' = w.alloc (.cells #[.slice A len cap] 33) := by
  refine callsIn_of_wp Try.func57 rfl hf ?_ hro
  simp only [Try.ntmps57, List.size_toArray, List.length_cons, List.length_nil, Nat.reduceAdd, Nat.reduceSub, Array.replicate_succ, Array.replicate_zero, List.push_toArray, List.append_toArray, List.nil_append, List.cons_append]
  gi_wp2
  go_ret
  exact ⟨rfl, rfl⟩

/-- places(l) hands back a value that tells l's metrics, in order, whatever the body does that keeps what was there. -/
theorem places_stops {es : List En} {w0 : World} (F : Fence) (n : Nat) (hf : F.fn 64) (hro : F.round = none) (hn : 1 ≤ n) (Bs : Nat) (A : Option Addr) (len cap : Nat) (hlen : es.length = len) (hz : len ≤ 100000) (hM : Mets w0 A es) (w : World) (hb0 : Below w0.heap.size w0 w) (hBs : Bs < w.heap.size)
    (hc : w.cell? ⟨Bs, 0, none⟩ = some (.slice A len cap)) :
    SeqStopsK F n Try.prog 64 #[.pointer (some ⟨Bs, 0, none⟩)] (encI (es := es)) (Below w0.heap.size) (fun ys => Firsts es ys ∧ ys.length = es.length) (fun pre => Firsts es pre ∧ pre.length ≤ es.length) len w := fun l J Jx W hW hJ _ hY h0 =>
  places1_in F n hf hro hn l Bs A len cap hlen hz hM J Jx W (hb0.trans (hW.mono hb0.size)) hJ hY ((hW.cell (p := ⟨Bs, 0, none⟩) hBs).trans hc) h0
end Go.Proofs.Yteffankkelbhiaa

/-
  batch.firstWrong, over whatever function tells what is wrong. No statement of the seat is proved here.
-/
namespace Go.Proofs.Yteffankkelbhiaa
open Go.RowKit Go.Shelf
open Dc (D D0)

attribute [local go_sem] Oper.semAt_some

theorem ownFrom_up {β : Type} {B B' : Nat} {I : β → World → Prop} (h : OwnFrom B I) (hB : B ≤ B') : OwnFrom B' I := fun s W W' row hs hg hr => h s W W' row hs hg (fun r e => ⟨Nat.le_trans hB (hr r e).1, (hr r e).2⟩)
theorem box_own {W W' : World} {g : Nat} {t : TypeId} {cs : List Value} {row : Option Nat} (h : Box W g t cs) (hg : W.grownBy W' row) (hr : ∀ r, row = some r → ∃ o : Obj, W.heap[r]? = some o ∧ o.isCells = false) : Box W' g t cs := by
  refine (hg.block g h.lt fun e => ?_).trans h
  obtain ⟨o, ho, hc⟩ := hr g e.symm
  unfold Box at h
  rw [h] at ho
  injection ho with ho
  subst ho
  cases hc

/-- What a call in a round keeps: what is no cells, and the caller's own four blocks. -/
structure KeepsX (B : Nat) (W W' : World) : Prop where
  size : W.heap.size ≤ W'.heap.size
  same : ∀ (b : Nat) (o : Obj), W.heap[b]? = some o → B ≤ b → (o.isCells = false ∨ b < B + 4) → W'.heap[b]? = some o
theorem KeepsX.of_below {B : Nat} {W W' : World} (h : Below W.heap.size W W') : KeepsX B W W' := ⟨h.size, fun b _ hb _ _ => (h.block b (Array.getElem?_eq_some_iff.1 hb).1).trans hb⟩
theorem KeepsX.from {B B' : Nat} {W W' : World} (h : KeepsX B W W') (hB : B ≤ B') : KeepsFrom B' W W' := ⟨h.size, fun b o hb ho hc => h.same b o ho (Nat.le_trans hB hb) (.inl hc)⟩
theorem KeepsX.boxed {B b : Nat} {W W' : World} {t : TypeId} {v : Value} (h : KeepsX B W W') (hb : Boxed W b t v) (h1 : B ≤ b) (h2 : b < B + 4) : Boxed W' b t v := h.same b _ hb h1 (.inr h2)

/-- What a round of firstWrong may know. -/
structure FirstI (es : List En) (C : Mt → Int) (J : List (It es) → World → Prop) (b0 : Nat) (g : Value) (w0 : World) (pre : List (It es)) (W : World) : Prop where
  j : J pre W
  fn : Boxed W b0 48 g
  r0 : Boxed W (b0 + 1) 3 (.int .i64 0)
  r1 : Boxed W (b0 + 1 + 1) 30 (.int .i64 0)
  all : ∀ y ∈ pre, C y.1.2.m = 0
  size : b0 + 4 ≤ W.heap.size
/-- How a round of it is left. -/
structure FirstX (es : List En) (C : Mt → Int) (b0 : Nat) (c : Code) (pre : List (It es)) (W : World) : Prop where
  ret : c = .ret
  last : ∃ ini x, pre = ini ++ [x] ∧ (∀ y ∈ ini, C y.1.2.m = 0) ∧ C x.1.2.m ≠ 0 ∧ Boxed W (b0 + 1) 3 (.int .i64 (x.1.1 : Int)) ∧ Boxed W (b0 + 1 + 1) 30 (.int .i64 (C x.1.2.m))

theorem fw_done {es : List En} {C : Mt → Int} {xs : List (It es)} (hF : Firsts es xs) (hl : xs.length = es.length) (h : ∀ y ∈ xs, C y.1.2.m = 0) : fw C (datM es) = (0, 0) := by
  refine fw_all fun m hm => ?_
  unfold datM at hm
  rw [← hF.all hl, List.map_map] at hm
  obtain ⟨y, hy, rfl⟩ := List.mem_map.1 hm
  exact h y hy
theorem fw_stop {es : List En} {C : Mt → Int} {ini : List (It es)} {x : It es} (hF : Firsts es (ini ++ [x])) (h : ∀ y ∈ ini, C y.1.2.m = 0) (hx : C x.1.2.m ≠ 0) : fw C (datM es) = (x.1.1, C x.1.2.m) := by
  have h1 : x.1.1 = ini.length := hF ini.length x (by simp)
  have h2 := hF.take
  rw [List.map_append, List.length_append, List.map_cons, List.map_nil] at h2
  have h3 : datM es = datM (ini.map fun x => x.1.2) ++ x.1.2.m :: datM (es.drop (ini.length + [x].length)) := by
    show es.map En.m = _
    conv => lhs; rw [← List.take_append_drop (ini.length + [x].length) es, ← h2]
    unfold datM
    simp
  rw [h3, fw_first (fun m hm => ?_) hx]
  · rw [h1]; unfold datM; simp
  · unfold datM at hm
    rw [List.map_map] at hm
    obtain ⟨y, hy, rfl⟩ := List.mem_map.1 hm
    exact h y hy

set_option maxRecDepth 100000 in
set_option maxHeartbeats 4000000 in
theorem first_check {es : List En} {w0 w : World} {A : Option Addr} {len cap : Nat} {C : Mt → Int} {J : List (It es) → World → Prop} (hlen : es.length = len) (hz : len ≤ 100000) (hM : Mets w0 A es) (hb0 : Below w0.heap.size w0 w)
    (hJ : OwnFrom w.heap.size J) (hJ2 : ∀ s W b v, J s W → w.heap.size ≤ b → b < w.heap.size + 3 → J s (W.setCell ⟨b, 0, none⟩ v)) (h0 : J [] w)
    (hg : ∀ pre (x : It es) W, J pre W → Below w0.heap.size w0 W → w.heap.size + 4 ≤ W.heap.size → pre.length < len → Calls Try.prog 21 (#[.agg #[.string x.1.2.s, .int .i64 x.1.2.m.kind, .slice x.1.2.A x.1.2.n x.1.2.ca, .int .i64 x.1.2.m.rate, .slice x.1.2.B x.1.2.k x.1.2.cb, .int .i64 x.1.2.m.time]]) W fun e W' =>
      e = .returned (.int .i64 (C x.1.2.m)) ∧ Below w0.heap.size W W' ∧ KeepsX w.heap.size W W' ∧ J (pre ++ [x]) W') :
    Calls Try.prog 45 #[.slice A len cap, .func (.func 21) #[] #[]] w fun e W' => e = .returned (.tuple #[.int .i64 ((fwB C (datM es)).1 : Int), .int .i64 (fwB C (datM es)).2]) ∧ Below w0.heap.size w0 W' ∧ ((fwB C (datM es)).2 = 0 → ∃ xs, Firsts es xs ∧ xs.length = es.length ∧ J xs W') := by
  obtain ⟨p, hp⟩ : ∃ p, fwB C (datM es) = p := ⟨_, rfl⟩
  rw [hp]
  obtain ⟨p1, p2⟩ := p
  have HP := Lib.hid (And.intro hp (And.intro hJ (And.intro hJ2 (And.intro hg hM))))
  have hw0 := hb0.size
  have hdl : (datM es).length = len := by unfold datM; rw [List.length_map]; exact hlen
  refine (callsIn_wide (n := 9)).1 ?_
  refine callsIn_of_wp_marks Try.func45 rfl trivial ?_ rfl
  simp only [Try.ntmps45, List.size_toArray, List.length_cons, List.length_nil, Nat.reduceAdd, Nat.reduceSub, Array.replicate_succ, Array.replicate_zero, List.push_toArray, List.append_toArray, List.nil_append, List.cons_append]
  by_cases h1 : 1000 < len
  · have hp' := hp
    unfold fwB at hp'
    rw [if_pos (by omega)] at hp'
    injection hp' with e1 e2
    subst e1 e2
    have g1 : (1000 : Int) < (len : Int) := by omega
    have HX := Lib.hid hb0
    clear hJ hJ2 hg hp h0 hM hb0
    gi_wp2
    refine ⟨.tuple #[.int .i64 1000, .int .i64 12], ?_, rfl, ?_, fun h => absurd h (by decide)⟩
    · simp [results, Try.f45, go_sem]
    · exact ((HX.out.alloc hw0 _).alloc (by simp; omega) _).alloc (by simp; omega) _
  · have hp' := hp
    unfold fwB at hp'
    rw [if_neg (by omega)] at hp'
    have HP' := Lib.hid hp'
    have g1 : ¬ (1000 : Int) < (len : Int) := by omega
    have b0 := Boxed.new w 48 (.func (.func 21) #[] #[])
    have b1 := Boxed.new (w.alloc (.cells #[.func (.func 21) #[] #[]] 48)) 3 (.int .i64 0)
    have b2 := Boxed.new ((w.alloc (.cells #[.func (.func 21) #[] #[]] 48)).alloc (.cells #[.int .i64 0] 3)) 30 (.int .i64 0)
    rw [World.size_alloc] at b1
    rw [World.size_alloc, World.size_alloc] at b2
    clear hJ2 hg hp hp'
    gi_wp2_with (refine ⟨trivial, ?_⟩; gi_at_call 57; refine (places_in Fence.wide _ trivial rfl _ _ _ _).mono ?_; rintro e w' ⟨rfl, rfl⟩)
    have b3 := Boxed.new (((w.alloc (.cells #[.func (.func 21) #[] #[]] 48)).alloc (.cells #[.int .i64 0] 3)).alloc (.cells #[.int .i64 0] 30)) 33 (.slice A len cap)
    rw [World.size_alloc, World.size_alloc, World.size_alloc] at b3
    replace b2 := b2.alloc (.cells #[.slice A len cap] 33)
    replace b1 := (b1.alloc (.cells #[.int .i64 0] 30)).alloc (.cells #[.slice A len cap] 33)
    replace b0 := ((b0.alloc (.cells #[.int .i64 0] 3)).alloc (.cells #[.int .i64 0] 30)).alloc (.cells #[.slice A len cap] 33)
    replace h0 := hJ.alloc (.cells #[.slice A len cap] 33) (hJ.alloc (.cells #[.int .i64 0] 30) (hJ.alloc (.cells #[.int .i64 0] 3) (hJ.alloc (.cells #[.func (.func 21) #[] #[]] 48) h0)))
    replace hb0 := (((hb0.alloc hb0.size (.cells #[.func (.func 21) #[] #[]] 48)).alloc (by have := hb0.size; simp; omega) (.cells #[.int .i64 0] 3)).alloc (by have := hb0.size; simp; omega) (.cells #[.int .i64 0] 30)).alloc (by have := hb0.size; simp; omega) (.cells #[.slice A len cap] 33)
    have hsz : ((((w.alloc (.cells #[.func (.func 21) #[] #[]] 48)).alloc (.cells #[.int .i64 0] 3)).alloc (.cells #[.int .i64 0] 30)).alloc (.cells #[.slice A len cap] 33)).heap.size = w.heap.size + 4 := by simp
    obtain ⟨W0, hW0⟩ : ∃ W0, (((w.alloc (.cells #[.func (.func 21) #[] #[]] 48)).alloc (.cells #[.int .i64 0] 3)).alloc (.cells #[.int .i64 0] 30)).alloc (.cells #[.slice A len cap] 33) = W0 := ⟨_, rfl⟩
    rw [hW0] at b0 b1 b2 b3 h0 hb0 hsz ⊢
    clear hW0
    refine wpIn_rangeFunc_ownH rfl (by omega) (gf := 64) (lb := #[.pointer (some ⟨w.heap.size + 1 + 1 + 1, 0, none⟩)]) rfl trivial (enters_of Try.func64 (by kernel_rfl) rfl)
      (places_stops Fence.wide _ trivial rfl (by omega) (w.heap.size + 1 + 1 + 1) A len cap hlen hz hM W0 hb0 (by omega) b3.cell) belowK_t (belowK_b hb0.size) (Below.refl _ _) (fun _ => rfl)
      (fun pre W => FirstI es C J w.heap.size (.func (.func 21) #[] #[]) w0 pre W ∧ Below w0.heap.size w0 W)
      (fun c pre W => FirstX es C w.heap.size c pre W ∧ Below w0.heap.size w0 W)
      (OwnFrom.and (fun s X Y row hs hg hr => ⟨ownFrom_up hJ (by omega) s X Y row hs.j hg hr, box_own (cs := [_]) hs.fn hg (fun r e => (hr r e).2), box_own (cs := [_]) hs.r0 hg (fun r e => (hr r e).2), box_own (cs := [_]) hs.r1 hg (fun r e => (hr r e).2), hs.all, Nat.le_trans hs.size hg.size⟩) (ownFrom_below (Nat.le_refl _) hb0.size))
      (fun c => OwnFrom.and (fun s X Y row hs hg hr => by obtain ⟨h1, ini, x, h2, h3, h4, h5, h6⟩ := hs; exact ⟨h1, ini, x, h2, h3, h4, box_own (cs := [_]) h5 hg (fun r e => (hr r e).2), box_own (cs := [_]) h6 hg (fun r e => (hr r e).2)⟩) (ownFrom_below (Nat.le_refl _) hb0.size))
      ⟨⟨h0, b0, b1, b2, by simp, by omega⟩, hb0⟩
      (fun x a' W => ∃ Bx, w.heap.size + 4 ≤ Bx ∧ Box W Bx 25 [.string x.1.2.s, .int .i64 x.1.2.m.kind, .slice x.1.2.A x.1.2.n x.1.2.ca, .int .i64 x.1.2.m.rate, .slice x.1.2.B x.1.2.k x.1.2.cb, .int .i64 x.1.2.m.time] ∧
        a' = { tmps := #[.slice A len cap, .func (.func 21) #[] #[], undef, .pointer (some ⟨w.heap.size, 0, none⟩), .pointer (some ⟨w.heap.size + 1, 0, none⟩), .pointer (some ⟨w.heap.size + 1 + 1, 0, none⟩), .int .i64 (x.1.1 : Int), .pointer (some ⟨Bx, 0, none⟩), undef, .slice A len cap, .int .i64 len, .bool false, .slice A len cap, .func (.func 64) #[] #[.pointer (some ⟨w.heap.size + 1 + 1 + 1, 0, none⟩)], .int .i64 (x.1.1 : Int), .agg #[.string x.1.2.s, .int .i64 x.1.2.m.kind, .slice x.1.2.A x.1.2.n x.1.2.ca, .int .i64 x.1.2.m.rate, .slice x.1.2.B x.1.2.k x.1.2.cb, .int .i64 x.1.2.m.time], undef, undef, undef, undef, undef, undef, undef], defers := [] })
      (fun x a' _ X Y row hs hg hr => by obtain ⟨Bx, h1, h2, h3⟩ := hs; exact ⟨Bx, h1, box_own h2 hg (fun r e => (hr r e).2), h3⟩)
      ?assign ?body ?done ?stop
    case assign =>
      rintro l pre x W K ⟨hi, hB⟩ hK
      have hsW := hB.size
      unfold encI
      gi_wp2
      exact hK _ _ ((KeepsOthers.alloc _ _).from _) ((Below.refl _ W).alloc hsW _) ⟨⟨hJ.alloc _ hi.j, hi.fn.alloc _, hi.r0.alloc _, hi.r1.alloc _, hi.all, by have := hi.size; rw [World.size_alloc]; omega⟩, hB.alloc hsW _⟩ ⟨W.heap.size, hi.size, Box.new W 25 _, rfl⟩
    case body =>
      rintro l pre x a' W hl ⟨r, hr⟩ ⟨hi, hB⟩ ⟨Bx, hBx, bX, rfl⟩ hlt
      have hC := HP.out.2.2.2.1 pre x W hi.j hB hi.size hlt
      obtain ⟨c, hc⟩ : ∃ c, C x.1.2.m = c := ⟨_, rfl⟩
      rw [hc] at hC
      have HC := Lib.hid hC
      have HI := Lib.hid (And.intro hi (And.intro hB hc))
      have c0 := bX.cell 0
      have c1 := bX.cell 1
      have c2 := bX.cell 2
      have c3 := bX.cell 3
      have c4 := bX.cell 4
      have c5 := bX.cell 5
      have cf := hi.fn.cell
      simp only [List.getElem?_cons_zero, List.getElem?_cons_succ] at c0 c1 c2 c3 c4 c5
      clear hi hB hC bX hc
      by_cases hz0 : c = 0
      · have HE := Lib.hid hz0
        gi_wp2_with (refine ⟨trivial, ?_⟩; gi_at_call 21; refine (CallsIn.inRound l (callsIn_wide.2 HC.out)).mono ?_; rintro e w2 ⟨rfl, hb, hk, hj⟩)
        exact ⟨hk.from (by omega), hb, ⟨hj, hk.boxed HI.out.1.fn (by omega) (by omega), hk.boxed HI.out.1.r0 (by omega) (by omega), hk.boxed HI.out.1.r1 (by omega) (by omega), fun y hy => by
          rcases List.mem_append.1 hy with hy | hy
          · exact HI.out.1.all y hy
          · rcases List.mem_singleton.1 hy with rfl
            exact HI.out.2.2.trans HE.out, Nat.le_trans HI.out.1.size hk.size⟩, HI.out.2.1.trans hb⟩
      · have HE := Lib.hid hz0
        gi_wp2_with (refine ⟨trivial, ?_⟩; gi_at_call 21; refine (CallsIn.inRound l (callsIn_wide.2 HC.out)).mono ?_; rintro e w2 ⟨rfl, hb, hk, hj⟩; have HK := Lib.hid (And.intro hb hk); have d1 := (hk.boxed HI.out.1.r0 (by omega) (by omega)).cell; have d2 := (hk.boxed HI.out.1.r1 (by omega) (by omega)).cell; have f1 := (hk.boxed HI.out.1.r0 (by omega) (by omega)).frozen; have f2 := (hk.boxed HI.out.1.r1 (by omega) (by omega)).frozen; clear hb hk hj c0 c1 c2 c3 c4 c5 cf)
        obtain ⟨hb, hk⟩ := HK.out
        exact ⟨(hk.from (by omega)).trans (((KeepsOthers.setCell _ _ _).trans (KeepsOthers.setCell _ _ _)).from _), ⟨rfl, pre, x, rfl, HI.out.1.all, by rw [HI.out.2.2]; exact HE.out,
          ((hk.boxed HI.out.1.r0 (by omega) (by omega)).set _).other (by omega) _, by rw [HI.out.2.2]; exact ((hk.boxed HI.out.1.r1 (by omega) (by omega)).other (by omega) _).set _⟩,
          ((HI.out.2.1.trans hb).setCell (p := ⟨w.heap.size + 1, 0, none⟩) (by show _ ≤ w.heap.size + 1; omega) _).setCell (p := ⟨w.heap.size + 1 + 1, 0, none⟩) (by show _ ≤ w.heap.size + 1 + 1; omega) _⟩
    case done =>
      rintro D xs W hD ⟨hF, hl⟩ ⟨hi, hB⟩ hK
      have d1 := hi.r0.cell
      have d2 := hi.r1.cell
      have f1 := hi.r0.frozen
      have f2 := hi.r1.frozen
      have HI := Lib.hid (And.intro hi (And.intro hB (And.intro hF hl)))
      clear hi hB hF hl
      gi_wp2
      obtain ⟨hi, hB, hF, hl⟩ := HI.out
      have hK' := ((KeepsOthers.setCell W ⟨w.heap.size + 1, 0, none⟩ (.int .i64 0)).trans (KeepsOthers.setCell _ ⟨w.heap.size + 1 + 1, 0, none⟩ (.int .i64 0))).same D _ hK rfl
      refine ⟨by simp, .inl ⟨_, _, rfl, run_takeDeferred hK', ?_⟩⟩
      have e1 := (cell_kept (((hi.r0.set (.int .i64 0)).other (B' := w.heap.size + 1 + 1) (by omega) (.int .i64 0)).cell) (grownBy_putObj' _ D (.deferred none)) (fun r e => by cases e; exact ⟨_, hK', rfl⟩))
      have e2 := (cell_kept (((hi.r1.other (B' := w.heap.size + 1) (by omega) (.int .i64 0)).set (.int .i64 0)).cell) (grownBy_putObj' _ D (.deferred none)) (fun r e => by cases e; exact ⟨_, hK', rfl⟩))
      have hfw := HP'.out.symm.trans (fw_done hF hl hi.all)
      injection hfw with q1 q2
      subst q1 q2
      refine ⟨.tuple #[.int .i64 0, .int .i64 0], ?_, rfl, ((hB.setCell (p := ⟨w.heap.size + 1, 0, none⟩) (by show _ ≤ w.heap.size + 1; omega) _).setCell (p := ⟨w.heap.size + 1 + 1, 0, none⟩) (by show _ ≤ w.heap.size + 1 + 1; omega) _).trans (belowK_b (w := W0) hb0.size _ D _ _ hD hK' rfl rfl), fun _ => ⟨xs, hF, hl,
        hJ.putObj _ (HP.out.2.2.1 _ _ _ _ (HP.out.2.2.1 _ _ _ _ hi.j (by omega) (by omega)) (by omega) (by omega)) (by omega) hK' rfl⟩⟩
      simp [results, Try.f45, go_sem, e1, e2]
    case stop =>
      rintro D c pre W hD ⟨hF, hl⟩ ⟨hx, hB⟩ hK
      obtain ⟨rfl, ini, x, rfl, h2, h3, h4, h5⟩ := hx
      have d1 := h4.cell
      have d2 := h5.cell
      have HI := Lib.hid (And.intro h2 (And.intro h3 (And.intro h4 (And.intro h5 (And.intro hB (And.intro hF hl))))))
      clear h2 h3 h4 h5 hB hF hl
      gi_wp2
      obtain ⟨h2, h3, h4, h5, hB, hF, hl⟩ := HI.out
      refine ⟨by simp, .inl ⟨_, _, rfl, run_takeDeferred hK, ?_⟩⟩
      have e1 := cell_kept h4.cell (grownBy_putObj' _ D (.deferred none)) (fun r e => by cases e; exact ⟨_, hK, rfl⟩)
      have e2 := cell_kept h5.cell (grownBy_putObj' _ D (.deferred none)) (fun r e => by cases e; exact ⟨_, hK, rfl⟩)
      have hfw := HP'.out.symm.trans (fw_stop hF h2 h3)
      injection hfw with q1 q2
      subst q1 q2
      refine ⟨.tuple #[.int .i64 (x.1.1 : Int), .int .i64 (C x.1.2.m)], ?_, rfl, hB.trans (belowK_b (w := W0) hb0.size _ D _ _ hD hK rfl rfl), fun h => absurd h h3⟩
      simp [results, Try.f45, go_sem, e1, e2]
end Go.Proofs.Yteffankkelbhiaa
