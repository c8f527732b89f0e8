/-
  OgFirst, OgStep, OgRd, SdRes. No statement of the seat is proved here.
-/
import Derived.Test.YtbcmchkgamkceaaGreatDoorGrMRows
import Derived.Test.YtbcmchkgamkceaaGreatDoorGrSdMath
import Derived.Test.YtbcmchkgamkceaaGreatDoorGrMRef1
import Derived.Test.YtbcmchkgamkceaaGreatDoorGrTAwake
import Derived.Test.YtbcmchkgamkceaaGreatDoorGrMNormal
import Derived.Test.YtbcmchkgamkceaaGreatDoorGrDParse
import Derived.Deep.RegionHeld3
/-
  The document's First: a name, and values. No statement of the seat is proved here.
-/
namespace Go.Proofs.YtbcmchkgamkceaaGreatDoor
open Go.RowKit
open Dc (D D0)

/-- An append onto a row of our own, as a step of a region that draws its order. -/
theorem step_append_rows (w : World) {sl el : TypeId} {z : Value} {size bytes : Nat} (T : RowTy sl el z size bytes) {ops : Array Oper} {o : Oper} {a : Act} {K : Act → World → Prop} {Q : Exit → Act → World → Prop} {E : Prop} (hgd : o.guard = none) (s x : Operand)
    (ho : o.op = .call { callee := .builtin .append, args := #[s, x], argTypes := #[sl, sl] })
    (base : Nat) (v : Value) (n : Nat) (xs : List Value) (hs : a.eval s = v) (hown : w.ownsRow base el size v n xs)
    (A : Option Addr) (m c : Nat) (ys : List Value) (hx : a.eval x = .slice A m c) (hl : ys.length = m * size) (hv : Lies w A ys) (h1 : ∀ u ∈ ys, u.oneCell' = true)
    (hfit : n + m ≤ 1000000) (hbase : base ≤ w.heap.size)
    (h : ∀ v' w', w'.ownsRow base el size v' (n + m) (xs ++ ys) → w.grownBy w' v.ownBlock → (v'.ownBlock = v.ownBlock ∨ v'.ownBlock = some w.heap.size) → K (a.put o.dst v') w') :
    if Region.wanted o (yielded ops a.tmps) = true then Oper.wp Tryz.prog o a w K Q else E := by
  have hw : Region.wanted o (yielded ops a.tmps) = true := by simp [Region.wanted, hgd]
  rw [if_pos hw]
  obtain ⟨v', w', hr, h2, h3, h4⟩ := run_append_rows w T base o.type v n xs hown A m c ys hl hv h1 hfit hbase
  unfold Oper.wp execOp
  simp only [ho, resolve, invoke, builtin, Sem.run_bind, Sem.run_pure, Result.andThen_ok, List.map_toArray, List.map_cons, List.map_nil, hs, hx, hr]
  exact h v' w' h2 h3 h4
/-- What is wrong with a first piece. -/
def firstF (l : List UInt8) : Int × Int := match cutsB 58 l with
  | [] => (15, 0)
  | name :: vs => if nameR name = false then (15, 0) else if vs = [] then (11, (l.length : Int)) else match valsD 1 (name.length + 1) vs with
    | .inl e => (17, (e : Int))
    | .inr _ => (0, 0)
/-- A first piece is this name and these values. -/
def FirstOk (l : List UInt8) (name : List UInt8) (ds : List D) : Prop := ∃ vs, cutsB 58 l = name :: vs ∧ nameR name = true ∧ vs ≠ [] ∧ valsD 1 (name.length + 1) vs = .inr ds
theorem firstD_bad {l : List UInt8} {c a : Int} (h : firstF l = (c, a)) (hc : c ≠ 0) (n : Nat) (ps : List (List UInt8)) : firstD n l ps (cutsB 58 l) = (M0, c, a) := by
  unfold firstF at h
  rcases hk : cutsB 58 l with _ | ⟨name, vs⟩
  · exact absurd hk (cutsB_ne _ _)
  · rw [hk] at h
    rw [firstD]
    simp only at h
    by_cases h1 : nameR name = false
    · rw [if_pos h1] at h ⊢
      injection h with h2 h3
      subst h2 h3
      rfl
    · rw [if_neg h1] at h ⊢
      by_cases h2 : vs = []
      · rw [if_pos h2] at h ⊢
        injection h with h2 h3
        subst h2 h3
        rfl
      · rw [if_neg h2] at h ⊢
        rcases hv : valsD 1 (name.length + 1) vs with e | ds
        · rw [hv] at h
          injection h with h2 h3
          subst h2 h3
          rfl
        · rw [hv] at h
          injection h with h2 h3
          exact absurd h2.symm hc
theorem firstD_ok {l name : List UInt8} {ds : List D} (h : FirstOk l name ds) (n : Nat) (ps : List (List UInt8)) : firstD n l ps (cutsB 58 l) = kindsD n (l.length + 1) name ds ps := by
  obtain ⟨vs, h1, h2, h3, h4⟩ := h
  rw [h1, firstD, h2, if_neg (by decide), if_neg h3, h4]
theorem oparses_says {l : List UInt8} {d : D} {c a : Int} (h : Dc.parse l = (d, c, a)) {w w' : World} {e : Ending} (k : Dc.Parses w l e w') : e = .returned (.tuple #[.agg #[.bool d.neg, .int .u64 d.c, .int .i64 d.e], .agg #[.int .i64 c, .int .i64 a]]) ∧ Below w.heap.size w w' := by
  unfold Dc.Parses at k
  rw [h] at k
  exact k
theorem Lies.but {w w' : World} {A : Option Addr} {vs : List Value} {g : Nat} (h : Lies w A vs) (hb : But g w w') (hg : ∀ x, A = some x → x.block ≠ g) : Lies w' A vs := fun i u hu => by
  obtain ⟨b, off, e, hc⟩ := h i u hu
  have hlt := cell_lt hc
  refine ⟨b, off, e, ?_⟩
  have hk := hb.block b hlt (hg _ e)
  unfold World.cell? at hc ⊢
  rw [hk]
  exact hc
/-- What First, and values, leave in the metric. -/
def FirstP (t : TypeId) (w : World) (g : Nat) (l : List UInt8) (c a : Int) (w' : World) : Prop :=
  But g w w' ∧ ((c ≠ 0 ∧ firstF l = (c, a)) ∨ (c = 0 ∧ a = 0 ∧ ∃ nm A n ca name ds, FirstOk l name ds ∧ Str nm name ∧ ds.length = n ∧ Decs w' A ds ∧ Box w' g t [.string nm, .int .i64 0, .slice A n ca, .int .i64 1000000, .slice none 0 0, .int .i64 0]))

/-- The pieces lie, and the metric is written into, while the values are read; L: what else lies. -/
structure VsI (t : TypeId) (w W : World) (B g gl n : Nat) (L : List (Nat × TypeId × List Value)) (pv : List Value) (nm : ByteArray) (v : Value) (ds : List D) : Prop where
  kept : But g w W
  box : Box W g t [.string nm, .int .i64 0, v, .int .i64 1000000, .slice none 0 0, .int .i64 0]
  own : W.ownsRow B 51 3 v n (flatD ds)
  pcs_ : Lies W (some ⟨gl, 0, none⟩) pv
  bx : ∀ x ∈ L, Box W x.1 x.2.1 x.2.2
  lx : ∀ x ∈ L, w.heap.size ≤ x.1 ∧ x.1 < B
  lo : w.heap.size ≤ gl ∧ gl < B
  hi : B ≤ W.heap.size
  lt : g < w.heap.size
section
variable {t : TypeId} {w W W' : World} {B g gl n : Nat} {L : List (Nat × TypeId × List Value)} {pv : List Value} {nm : ByteArray} {v : Value} {ds : List D}
theorem VsI.next (h : VsI t w W B g gl n L pv nm v ds) (b : Below W.heap.size W W') : VsI t w W' B g gl n L pv nm v ds :=
  ⟨h.kept.trans (.of_below b), h.box.keep b, own_keep h.own b, h.pcs_.keep b, fun x hx => (h.bx x hx).keep b, h.lx, h.lo, Nat.le_trans h.hi b.size, h.lt⟩
theorem VsI.alloc (h : VsI t w W B g gl n L pv nm v ds) (o : Obj) : VsI t w (W.alloc o) B g gl n L pv nm v ds := h.next ((Below.refl _ _).alloc (Nat.le_refl _) o)
theorem VsI.drew (h : VsI t w W B g gl n L pv nm v ds) : VsI t w W.drew B g gl n L pv nm v ds := h.next (Same.below (Same.drewN W 1))
theorem VsI.put (h : VsI t w W B g gl n L pv nm v ds) (i : Nat) (u : Value) {nm' : ByteArray} {v' : Value} {ds' : List D} {n' : Nat} (hb : [Value.string nm, .int .i64 0, v, .int .i64 1000000, .slice none 0 0, .int .i64 0].set i u = [.string nm', .int .i64 0, v', .int .i64 1000000, .slice none 0 0, .int .i64 0]) (ho : W.ownsRow B 51 3 v' n' (flatD ds')) : VsI t w (W.setCell ⟨g, i, none⟩ u) B g gl n' L pv nm' v' ds' := by
  have hlo := h.lo
  have hlt := h.lt
  have hbut : But g W (W.setCell ⟨g, i, none⟩ u) := (But.refl g W).set i u
  refine ⟨h.kept.trans hbut, by rw [← hb]; exact h.box.set i u, own_set ho (q := ⟨g, i, none⟩) (by show g < B; omega) u, h.pcs_.but hbut (fun x e => by injection e with e; subst e; show gl ≠ g; omega), fun x hx => (h.bx x hx).but hbut (by have := h.lx x hx; omega), h.lx, h.lo, Nat.le_trans h.hi hbut.size, hlt⟩
theorem VsI.base (h : VsI t w W B g gl n L pv nm v ds) : ∀ k, v.ownBlock = some k → B ≤ k := by
  intro k hk
  rcases h.own.2 with ⟨rfl, _⟩ | ⟨g, cap, cur, rfl, hg, _⟩
  · cases hk
  · injection hk with hk; subst hk; exact hg
theorem grown_box {w w' : World} {row : Option Nat} {b : Nat} {t : TypeId} {cs : List Value} (h : w.grownBy w' row) (hb : Box w b t cs) (hne : ∀ k, row = some k → k ≠ b) : Box w' b t cs :=
  (h.block b hb.lt (fun e => hne b e.symm rfl)).trans hb
theorem VsI.six (h : VsI t w W B g gl n L pv nm v ds) : W.cell? ⟨g, 0, none⟩ = some (.string nm) ∧ W.cell? ⟨g, 1, none⟩ = some (.int .i64 0) ∧ W.cell? ⟨g, 2, none⟩ = some v ∧ W.cell? ⟨g, 3, none⟩ = some (.int .i64 1000000) ∧ W.cell? ⟨g, 4, none⟩ = some (.slice none 0 0) ∧ W.cell? ⟨g, 5, none⟩ = some (.int .i64 0) :=
  ⟨h.box.cell 0, h.box.cell 1, h.box.cell 2, h.box.cell 3, h.box.cell 4, h.box.cell 5⟩
theorem VsI.pc {ps : List (Nat × List UInt8)} (h : VsI t w W B g gl n L (flatP ps) nm v ds) {i a : Nat} {q : List UInt8} (hi : ps[i]? = some (a, q)) : W.cell? ⟨gl, i * 2, none⟩ = some (.int .i64 a) ∧ W.cell? ⟨gl, i * 2 + 1, none⟩ = some (.string ⟨q.toArray⟩) := by
  obtain ⟨b, off, e, hc⟩ := h.pcs_ (i * 2) (.int .i64 a) (by rw [flatP_get0, hi]; rfl)
  obtain ⟨b', off', e', hc'⟩ := h.pcs_ (i * 2 + 1) (.string ⟨q.toArray⟩) (by rw [flatP_get1, hi]; rfl)
  injection e with e
  injection e with e1 e2
  subst e1 e2
  injection e' with e
  injection e with e1 e2
  subst e1 e2
  exact ⟨by simpa using hc, by simpa using hc'⟩
theorem VsI.name (h : VsI t w W B g gl n L pv nm v ds) (nm' : ByteArray) : VsI t w (W.setCell ⟨g, 0, none⟩ (.string nm')) B g gl n L pv nm' v ds := h.put 0 _ rfl h.own
theorem VsI.mem (h : VsI t w W B g gl n L pv nm v ds) {b : Nat} {t' : TypeId} {x y : Value} (hm : (b, t', [x, y]) ∈ L) : W.cell? ⟨b, 0, none⟩ = some x ∧ W.cell? ⟨b, 1, none⟩ = some y ∧ W.frozen? ⟨b, 0, none⟩ = false ∧ W.frozen? ⟨b, 1, none⟩ = false :=
  ⟨(h.bx _ hm).cell 0, (h.bx _ hm).cell 1, (h.bx _ hm).frozen 0, (h.bx _ hm).frozen 1⟩
theorem but_set_new {w W : World} {g b : Nat} (h : But g w W) (hb : w.heap.size ≤ b) (i : Nat) (u : Value) : But g w (W.setCell ⟨b, i, none⟩ u) :=
  ⟨h.os, h.tape, h.output, Nat.le_trans h.size (by simp [World.setCell]), fun k hk hne => (Below.heap_setCell W ⟨b, i, none⟩ u k (by show k ≠ b; omega)).trans (h.block k hk hne)⟩
/-- The fault is stored. -/
theorem VsI.told (h : VsI t w W B g gl n L pv nm v ds) {b : Nat} {x y : Value} (hm : (b, 42, [x, y]) ∈ L) (c a : Value) : Box ((W.setCell ⟨b, 0, none⟩ c).setCell ⟨b, 1, none⟩ a) b 42 [c, a] ∧ But g w ((W.setCell ⟨b, 0, none⟩ c).setCell ⟨b, 1, none⟩ a) := by
  have hl := h.lx _ hm
  exact ⟨((h.bx _ hm).set 0 c).set 1 a, but_set_new (but_set_new h.kept hl.1 0 c) hl.1 1 a⟩
theorem VsI.fin (h : VsI t w W B g gl n L pv nm v ds) {b : Nat} {x y : Int} (hm : (b, 42, [.int .i64 x, .int .i64 y]) ∈ L) (c a : Int) {l name : List UInt8} (hok : FirstOk l name ds) (hs : Str nm name) :
    FirstP t w g l 0 0 ((W.setCell ⟨b, 0, none⟩ (.int .i64 c)).setCell ⟨b, 1, none⟩ (.int .i64 a)) := by
  have hl := h.lx _ hm
  have hlt := h.lt
  have hb0 : Box W b 42 [.int .i64 x, .int .i64 y] := h.bx _ hm
  have hb1 : Box (W.setCell ⟨b, 0, none⟩ (.int .i64 c)) b 42 [.int .i64 c, .int .i64 y] := hb0.set 0 _
  obtain ⟨A, ca, rfl, _⟩ := own_slice h.own
  have hd : Decs W A ds := Decs.of_own h.own
  refine ⟨(h.told hm _ _).2, .inr ⟨rfl, rfl, nm, A, n, ca, name, ds, hok, hs, own_lenD h.own, (hd.set_fault hb0 0 _).set_fault hb1 1 _, ?_⟩⟩
  simp only at hl
  exact (h.box.far (q := ⟨b, 0, none⟩) (by show g ≠ b; omega) _).far (q := ⟨b, 1, none⟩) (by show g ≠ b; omega) _
/-- A value is appended, and the row is stored. -/
theorem VsI.push (h : VsI t w W B g gl n L pv nm v ds) {v' : Value} {n' : Nat} {ds' : List D} (hg : W.grownBy W' v.ownBlock) (ho : W'.ownsRow B 51 3 v' n' (flatD ds')) : VsI t w (W'.setCell ⟨g, 2, none⟩ v') B g gl n' L pv nm v' ds' := by
  have hlo := h.lo
  have hlt := h.lt
  have hB : ∀ k, v.ownBlock = some k → B ≤ k := by
    intro k hk
    rcases h.own.2 with ⟨rfl, _⟩ | ⟨g, cap, cur, rfl, hg, _⟩
    · cases hk
    · injection hk with hk; subst hk; exact hg
  have hb : Below B W W' := (Below.refl B W).grown hg h.hi hB
  have hput : But g W' (W'.setCell ⟨g, 2, none⟩ v') := (But.refl g W').set 2 v'
  have pc : Lies W' (some ⟨gl, 0, none⟩) pv := fun i u hu => by
    obtain ⟨b, off, e, hc⟩ := h.pcs_ i u hu
    refine ⟨b, off, e, ?_⟩
    injection e with e
    injection e with e1 e2
    subst e1 e2
    rw [hb.cell (p := ⟨gl, 0 + i, none⟩) (by show gl < B; omega)]
    exact hc
  refine ⟨⟨hput.os.trans (hb.os.trans h.kept.os), hput.tape.trans (hb.tape.trans h.kept.tape), hput.output.trans (hb.output.trans h.kept.output), Nat.le_trans h.kept.size (Nat.le_trans hb.size hput.size), fun k hk hne => (hput.block k (Nat.lt_of_lt_of_le hk (Nat.le_trans h.kept.size hb.size)) hne).trans ((hb.block k (by omega)).trans (h.kept.block k hk hne))⟩, (h.box.below hb (by omega)).set 2 v', own_set ho (q := ⟨g, 2, none⟩) (by show g < B; omega) v', pc.but hput (fun x e => by injection e with e; subst e; show gl ≠ g; omega), fun x hx => ((h.bx x hx).below hb (by have := h.lx x hx; omega)).but hput (by have := h.lx x hx; omega), h.lx, h.lo, Nat.le_trans (Nat.le_trans h.hi hb.size) hput.size, hlt⟩
end

set_option maxRecDepth 100000 in
set_option maxHeartbeats 4000000 in
theorem rfirst_calls {s : ByteArray} {l : List UInt8} (hs : Str s l) (hl : l.length ≤ 8192) {w : World} {g : Nat} (hb : Box w g 35 [.string ⟨#[]⟩, .int .i64 0, .slice none 0 0, .int .i64 1000000, .slice none 0 0, .int .i64 0]) :
    Calls Tryz.prog 44 #[.agg #[.int .i64 0, .string s], .pointer (some ⟨g, 0, none⟩)] w fun e w' => ∃ c a, e = .returned (.agg #[.int .i64 c, .int .i64 a]) ∧ FirstP 35 w g l c a w' := by
  have HS := Lib.hid hs
  have HB := Lib.hid hb
  have hlt := hb.lt
  have hsz : (s.size : Int) = (l.length : Int) := by rw [hs.size]
  have HC := Lib.hid (fun W => rcut_calls hs (by omega) 58 0 (by omega) W)
  clear hs hb
  go_enter Tryz.func44, Tryz.ntmps44
  go_wp2_with fail
  refine (HC.out _).mono ?_
  rintro e w1 ⟨v1, rfl, hp⟩
  obtain ⟨pcs, hpc⟩ : ∃ pcs, cutsP 58 0 l = pcs := ⟨_, rfl⟩
  rw [hpc] at hp
  have hpl : pcs.length ≤ 8193 := by rw [← hpc]; have := cutsP_length 58 0 l; omega
  obtain ⟨gl, cap, rfl, hgl, hlies, _⟩ := hp.slice (by rw [← hpc]; exact cutsP_ne _ _ _)
  have hg2 : gl < w1.heap.size := by
    obtain ⟨b, off, e, hc⟩ := hlies 0 ((flatP pcs)[0]'(by rw [flatP_length]; have := List.length_pos_iff.2 (by rw [← hpc]; exact cutsP_ne _ _ _ : pcs ≠ []); omega)) (List.getElem?_eq_getElem _)
    injection e with e
    injection e with e1 _
    subst e1
    exact cell_lt hc
  simp only [size_alloc] at hgl
  have hk2 := hp.kept
  have HV := Lib.hid (show VsI 35 w w1 w1.heap.size g gl 0 [(w.heap.size, 76, [.int .i64 0, .string s]), (w.heap.size + 1, 42, [.int .i64 0, .int .i64 0])] (flatP pcs) ⟨#[]⟩ (.slice none 0 0) [] from by
    have q1 := (Box.new w 76 [.int .i64 0, .string s]).alloc (.cells #[.int .i64 0, .int .i64 0] 42)
    have q2 := Box.new (w.alloc (.cells #[.int .i64 0, .string s] 76)) 42 [.int .i64 0, .int .i64 0]
    rw [size_alloc] at q2
    have hkk : Below w.heap.size w w1 := (((Below.refl _ _).alloc (Nat.le_refl _) _).alloc (by rw [size_alloc]; omega) _).trans (hk2.mono (by simp only [size_alloc]; omega))
    exact ⟨.of_below hkk, HB.out.keep hkk, own_nilD _ _, hlies, fun x hx => by
      simp only [List.mem_cons, List.not_mem_nil, or_false] at hx
      rcases hx with rfl | rfl
      · exact q1.keep hk2
      · exact q2.keep hk2, fun x hx => by
      simp only [List.mem_cons, List.not_mem_nil, or_false] at hx
      rcases hx with rfl | rfl
      · exact ⟨Nat.le_refl _, by show w.heap.size < _; omega⟩
      · exact ⟨Nat.le_succ _, by show w.heap.size + 1 < _; omega⟩, ⟨by omega, hg2⟩, Nat.le_refl _, hlt⟩)
  have HP := Lib.hid (And.intro hpc hpl)
  clear hp hpc hpl hgl hlies hg2 hk2 HC HB
  generalize w1.heap.size = B at HV
  obtain ⟨name, vs, hcut⟩ : ∃ name vs, cutsB 58 l = name :: vs := by
    rcases h : cutsB 58 l with _ | ⟨name, vs⟩
    · exact absurd h (cutsB_ne _ _)
    · exact ⟨_, _, rfl⟩
  have hpcs : pcs = (0, name) :: placed (name.length + 1) vs := by
    rw [← HP.out.1]; unfold cutsP; rw [hcut, placed, Nat.zero_add]
  have hln : name.length ≤ l.length ∧ lenB vs ≤ l.length ∧ (vs ≠ [] → name.length + 1 + lenB vs = l.length + 1) := by
    have h1 := lenB_cuts 58 l
    rw [hcut, lenB_cons] at h1
    refine ⟨by omega, by omega, fun _ => by omega⟩
  have hlen : pcs.length = vs.length + 1 := by rw [hpcs, List.length_cons, placed_length]
  obtain ⟨c0, c1, c2, c3, c4, c5⟩ := VsI.six HV.out
  obtain ⟨d0, d1⟩ := VsI.pc (i := 0) HV.out (by rw [hpcs]; rfl)
  simp only [Nat.zero_mul, Nat.zero_add] at d0 d1
  rw [hlen]
  have hNs := Str.mk name
  generalize (⟨name.toArray⟩ : ByteArray) = nm at hNs d1
  have HN := Lib.hid (And.intro hNs (And.intro hcut (And.intro hpcs hln)))
  have f0 : w1.frozen? ⟨g, 0, none⟩ = false := HV.out.box.frozen 0
  clear hcut hpcs hln hlen hNs
  have HNM := Lib.hid (fun W => rname_calls HN.out.1 (by have := HN.out.2.2.2.1; omega) W)
  go_wp2_with fail
  refine (HNM.out _).mono ?_
  rintro e w2 ⟨rfl, hb⟩
  have HV2 := Lib.hid ((HV.out.name nm).next hb)
  clear hb HNM HV c0 c1 c2 c3 c4 c5 d0 d1 f0
  obtain ⟨p0, p1, _, _⟩ := HV2.out.mem (.head _)
  obtain ⟨r0, r1, s0, s1⟩ := HV2.out.mem (.tail _ (.head _))
  have gz : (0 : Int) ≤ (s.size : Int) ∧ (s.size : Int) ≤ 8192 := by omega
  by_cases hnm : nameR name = false
  · have HE := Lib.hid (show firstF l = (15, 0) by unfold firstF; rw [HN.out.2.1]; simp only; rw [if_pos hnm])
    have HT := Lib.hid (HV2.out.told (.tail _ (.head _)) (.int .i64 15) (.int .i64 0))
    rw [hnm]
    go_wp2_with fail
    refine ret_fault rfl rfl rfl HT.out.1 ?_
    exact ⟨15, 0, rfl, HT.out.2, .inl ⟨by decide, HE.out⟩⟩
  have hnt : nameR name = true := by simpa using hnm
  rw [hnt]
  have HNT := Lib.hid hnt
  clear hnm hnt
  by_cases hv0 : vs = []
  · have HE := Lib.hid (show firstF l = (11, (l.length : Int)) by unfold firstF; rw [HN.out.2.1]; simp only; rw [HNT.out, if_neg (by decide), if_pos hv0])
    have HT := Lib.hid (HV2.out.told (.tail _ (.head _)) (.int .i64 11) (.int .i64 (l.length : Int)))
    subst hv0
    go_wp2_with fail
    refine ret_fault rfl rfl rfl HT.out.1 ?_
    exact ⟨11, _, rfl, HT.out.2, .inl ⟨by decide, HE.out⟩⟩
  · have hvl : 0 < vs.length := List.length_pos_iff.2 hv0
    have hne : ((vs.length : Int) + 1 == 1) = false := by simp; omega
    have HV0 := Lib.hid hv0
    have hvn : vs.length ≤ 8192 := by have := length_lenB vs; have := HN.out.2.2.2.2.1; omega
    have hg := fguard
    clear hv0 p0 p1 r0 r1 s0 s1 gz
    go_wp2_with fail
    go_loopw [6] (fun v6 wr => ∃ (j : Nat) (acc : List D) (v : Value), v6 = .int .i64 ((j : Int) + 1) ∧ j ≤ vs.length ∧ j ≤ 64 ∧ Hid (VsI 35 w wr B g gl acc.length [(w.heap.size, 76, [.int .i64 0, .string s]), (w.heap.size + 1, 42, [.int .i64 0, .int .i64 0])] (flatP pcs) nm v acc ∧ VG (name.length + 1) vs j acc ∧ acc.length = j)) (fun v6 _ => vs.length + 1 - (intOf v6).toNat)
    case atStart => exact ⟨0, [], .slice none 0 0, rfl, by omega, by omega, ⟨HV2.out, VG.start _ _, rfl⟩⟩
    case round =>
      obtain ⟨j, acc, v, rfl, hjn, hj64, hrel⟩ := hrel
      clear HV2
      have g0 : (0 : Int) ≤ (j : Int) := by omega
      by_cases hlt : j < vs.length
      · have hlt' : (j : Int) + 1 < ((vs.length + 1 : Nat) : Int) := by omega
        have hpc : pcs[j + 1]? = some (name.length + 1 + lenB (vs.take j), vs[j]) := by
          rw [HN.out.2.2.1, List.getElem?_cons_succ, placed_get _ _ hlt]
        obtain ⟨d0, d1⟩ := hrel.out.1.pc hpc
        have hTs := Str.mk vs[j]
        generalize (⟨vs[j].toArray⟩ : ByteArray) = T at hTs d1
        have hvj : vs[j].length ≤ 8192 := by have := lenB_all vs hlt; have := HN.out.2.2.2.2.1; omega
        obtain ⟨d, c, a, hd⟩ : ∃ d c a, Dc.parse vs[j] = (d, c, a) := ⟨_, _, _, rfl⟩
        have HP := Lib.hid (fun W => (Dc.rparse_calls T _ hTs (by omega) W).mono fun _ _ k => oparses_says hd k)
        have HD := Lib.hid (And.intro hd hpc)
        clear hd hpc hTs hvj
        go_wp2_with fail
        refine (HP.out _).mono ?_
        rintro e w3 ⟨rfl, hb⟩
        have HV3 := Lib.hid (((hrel.out.1.next hb).alloc (.cells #[.bool d.neg, .int .u64 d.c, .int .i64 d.e] 51)).alloc (.cells #[.int .i64 c, .int .i64 a] 42))
        have HG := Lib.hid hrel.out.2
        obtain ⟨d0, d1⟩ := HV3.out.pc HD.out.2
        obtain ⟨r0, r1, s0, s1⟩ := HV3.out.mem (.tail _ (.head _))
        obtain ⟨c0, c1, c2, c3, c4, c5⟩ := VsI.six HV3.out
        have e0 := (Box.new w3 51 [.bool d.neg, .int .u64 d.c, .int .i64 d.e]).alloc (.cells #[.int .i64 c, .int .i64 a] 42)
        have q0 := e0.cell 0
        have q1 := e0.cell 1
        have q2 := e0.cell 2
        have e1 := Box.new (w3.alloc (.cells #[.bool d.neg, .int .u64 d.c, .int .i64 d.e] 51)) 42 [.int .i64 c, .int .i64 a]
        rw [size_alloc] at e1
        have q3 := e1.cell 0
        have q4 := e1.cell 1
        simp only [List.getElem?_cons_zero, List.getElem?_cons_succ] at q0 q1 q2 q3 q4
        have f2 := HV3.out.box.frozen 2
        clear e0 e1 hb HP hrel
        by_cases hbad : c ≠ 0
        · have kq1 := fne_run (x := c) (y := a) (u := 0) (v := 0) (decide_eq_false (fun e => hbad (congrArg Prod.fst e)))
          have HE := Lib.hid (show firstF l = (17, ((name.length + 1 + lenB (vs.take j) : Nat) : Int)) by
            unfold firstF
            rw [HN.out.2.1]
            simp only
            rw [HNT.out, if_neg (by decide), if_neg HV0.out, HG.out.1.bad hlt (.inl (by rw [HD.out.1]; exact hbad))])
          have HT := Lib.hid (HV3.out.told (.tail _ (.head _)) (.int .i64 17) (.int .i64 ((name.length + 1 + lenB (vs.take j) : Nat) : Int)))
          generalize ((name.length + 1 + lenB (vs.take j) : Nat) : Int) = at_ at HE HT d0
          clear hbad
          go_wp2_with fail
          refine ret_fault rfl rfl rfl HT.out.1 ?_
          exact ⟨17, _, rfl, HT.out.2, .inl ⟨by decide, HE.out⟩⟩
        · obtain ⟨rfl, rfl⟩ : c = 0 ∧ a = 0 := by
            have hc0 : c = 0 := by omega
            obtain ⟨d', e', _⟩ := parse_zero (v := vs[j]) (by rw [HD.out.1]; exact hc0)
            rw [HD.out.1] at e'
            injection e' with _ e'
            injection e' with h1 h2
            exact ⟨h1, h2⟩
          have kq1 := fne_run (x := 0) (y := 0) (u := 0) (v := 0) (decide_eq_true rfl)
          clear hbad
          by_cases h64 : 64 ≤ j
          · have HE := Lib.hid (show firstF l = (17, ((name.length + 1 + lenB (vs.take j) : Nat) : Int)) by
              unfold firstF
              rw [HN.out.2.1]
              simp only
              rw [HNT.out, if_neg (by decide), if_neg HV0.out, HG.out.1.bad hlt (.inr (by omega))])
            have HT := Lib.hid (HV3.out.told (.tail _ (.head _)) (.int .i64 17) (.int .i64 ((name.length + 1 + lenB (vs.take j) : Nat) : Int)))
            generalize ((name.length + 1 + lenB (vs.take j) : Nat) : Int) = at_ at HE HT d0
            have g64 : 64 < (j : Int) + 1 := by omega
            go_wp2_with fail
            refine ret_fault rfl rfl rfl HT.out.1 ?_
            exact ⟨17, _, rfl, HT.out.2, .inl ⟨by decide, HE.out⟩⟩
          · have g64 : ¬ 64 < (j : Int) + 1 := by omega
            have HE := Lib.hid (show VG (name.length + 1) vs (j + 1) (acc ++ [d]) by
              have := HG.out.1.ok hlt (by rw [HD.out.1]; rintro (h | h); exact h rfl; omega)
              rwa [HD.out.1] at this)
            clear d0 d1 r0 r1 s0 s1 c0 c1 c3 c4 c5 q3 q4
            have hds : w3.heap.size < ((w3.alloc (.cells #[.bool d.neg, .int .u64 d.c, .int .i64 d.e] 51)).alloc (.cells #[.int .i64 0, .int .i64 0] 42)).heap.size := by simp only [size_alloc]; omega
            go_wp2_with fail
            generalize ((w3.alloc (.cells #[.bool d.neg, .int .u64 d.c, .int .i64 d.e] 51)).alloc (.cells #[.int .i64 0, .int .i64 0] 42)) = W4 at HV3 c2 q0 q1 q2 f2 hds ⊢
            generalize w3.heap.size = gd at q0 q1 q2 hds ⊢
            have HV4 := Lib.hid (HV3.out.drew.alloc (.cells #[.bool d.neg, .int .u64 d.c, .int .i64 d.e] 51))
            have HL4 := Lib.hid (decs_at (w := W4.drew) (n := W4.heap.size) rfl (Dl.mk_ d))
            have hgl4 : g < W4.heap.size := HV3.out.box.lt
            have gacc : acc.length ≤ 64 := by have := HG.out.2; omega
            obtain ⟨A0, ca0, e0, -, -, -, -⟩ := own_slice HV3.out.own
            subst e0
            go_region_law (refine step_append_rows _ rowDec rfl (.tmp 72) (.tmp 74) rfl B (.slice A0 acc.length ca0) acc.length (flatD acc) rfl HV4.out.own (some ⟨W4.heap.size, 0, none⟩) 1 1 (flatD [d]) rfl rfl HL4.out flatD_cells (by omega) HV4.out.hi ?_; intro v5 w5 hown5 hgr5 hob5; obtain ⟨A5, ca5, e5, -, -, -, -⟩ := own_slice hown5; subst e5; rw [← flatD_append] at hown5; have HO5 := Lib.hid (And.intro hgr5 hown5); have hbx5 := grown_box hgr5 HV4.out.box (fun k hk => (by have := HV4.out.base k hk; have := HV4.out.lo; have := HV4.out.lt; omega)); have c2 : w5.cell? ⟨g, 2, none⟩ = some (.slice A0 acc.length ca0) := hbx5.cell 2; have f2 := hbx5.frozen 2; clear hgr5 hown5 hob5 hbx5)
            all_goals
              go_wp2_with fail
              refine ⟨⟨j + 1, acc ++ [d], .slice A5 (acc.length + 1) ca5, by go_num, by omega, by omega, ⟨?_, HE.out, by rw [List.length_append, HG.out.2]; rfl⟩⟩, by simp [intOf]; omega⟩
              rw [List.length_append]
              exact HV4.out.push HO5.out.1 HO5.out.2
      · have hlt' : ¬ (j : Int) + 1 < ((vs.length + 1 : Nat) : Int) := by omega
        obtain ⟨r0, r1, s0, s1⟩ := hrel.out.1.mem (.tail _ (.head _))
        have HF := Lib.hid (hrel.out.1.fin (.tail _ (.head _)) 0 0 ⟨vs, HN.out.2.1, HNT.out, HV0.out, hrel.out.2.1.end_ hlt⟩ HN.out.1)
        have HT := Lib.hid (hrel.out.1.told (.tail _ (.head _)) (.int .i64 0) (.int .i64 0))
        clear hrel
        go_wp2_with fail
        refine ret_fault rfl rfl rfl HT.out.1 ?_
        exact ⟨0, 0, rfl, HF.out⟩
end Go.Proofs.YtbcmchkgamkceaaGreatDoor

/-
  How package dog reads a line, piece by piece and turn by turn, as plain data; and that this is what a line says. Nothing of the program.
-/
namespace Go.Proofs.YtbcmchkgamkceaaGreatDoor
open Dc (D D0)

/-- The metric with which a line begins. -/
def M1 : Mt := ⟨[], 0, [], 1000000, [], 0⟩
/-- The metric behind the first piece. -/
def firstM (p : List UInt8) : Mt := match cutsB 58 p with
  | [] => M1
  | name :: vs => match valsD 1 (name.length + 1) vs with
    | .inl _ => M1
    | .inr ds => ⟨name, 0, ds, 1000000, [], 0⟩
theorem firstM_ok {l name : List UInt8} {ds : List D} (h : FirstOk l name ds) : firstM l = ⟨name, 0, ds, 1000000, [], 0⟩ ∧ firstF l = (0, 0) := by
  obtain ⟨vs, h1, h2, h3, h4⟩ := h
  unfold firstM firstF
  rw [h1]
  simp only
  rw [h4, h2, if_neg (by decide), if_neg h3]
  exact ⟨rfl, rfl⟩
theorem firstF_cases (l : List UInt8) : ((firstF l).1 ≠ 0) ∨ ∃ name ds, FirstOk l name ds := by
  unfold firstF FirstOk
  rcases hk : cutsB 58 l with _ | ⟨name, vs⟩
  · exact .inl (by simp)
  · simp only
    by_cases h1 : nameR name = false
    · exact .inl (by rw [if_pos h1]; exact (by decide : (15 : Int) ≠ 0))
    · rw [if_neg h1]
      by_cases h2 : vs = []
      · exact .inl (by rw [if_pos h2]; exact (by decide : (11 : Int) ≠ 0))
      · rw [if_neg h2]
        rcases hv : valsD 1 (name.length + 1) vs with e | ds
        · exact .inl (by exact (by decide : (17 : Int) ≠ 0))
        · exact .inr ⟨name, ds, vs, rfl, by simpa using h1, h2, hv⟩
/-- One turn: whether the piece is of its kind, what is wrong, and the metric then. -/
def stepT (j : Nat) (m : Mt) (p : List UInt8) : Bool × Int × Int × Mt :=
  if j = 0 then (true, (firstF p).1, (firstF p).2, firstM p)
  else if j = 1 then (true, codeDK p, 0, { m with kind := kindD p })
  else if j = 2 then (if p.head? = some 64 then (true, if (rated p.tail).2.1 ≠ 0 ∨ (m.kind = 2 ∧ (rated p.tail).1 ≠ 1000000) then 18 else 0, 0, { m with rate := (rated p.tail).1 }) else (false, 0, 0, m))
  else if j = 3 then (if p.head? = some 35 then (match parseT p.tail with
    | .inl _ => (true, 19, 0, m)
    | .inr ts => if 32 < ts.length then (true, 19, 0, m) else (true, 0, 0, { m with tags := norm ts })) else (false, 0, 0, m))
  else (if p.head? = some 84 then (true, if (parsed p.tail 1 MaxT).2.1 ≠ 0 then 20 else 0, 0, { m with time := (parsed p.tail 1 MaxT).1 }) else (false, 0, 0, m))
/-- A piece, from a turn on: a fault, or the next turn and the metric. -/
def innerT : Nat → Nat → Mt → List UInt8 → (Int × Int) ⊕ (Nat × Mt)
  | 0, _, _, _ => .inl (11, 0)
  | n + 1, j, m, p => if (stepT j m p).2.1 ≠ 0 then .inl ((stepT j m p).2.1, (stepT j m p).2.2.1) else if (stepT j m p).1 = true then .inr (j + 1, (stepT j m p).2.2.2) else innerT n (j + 1) m p
/-- All pieces, of which the first one begins at a place. -/
def runT (k j : Nat) (m : Mt) : List (List UInt8) → (Int × Int) ⊕ Mt
  | [] => .inr m
  | p :: ps => match innerT (5 - j) j m p with
    | .inl e => .inl (e.1, (k : Int) + e.2)
    | .inr y => runT (k + p.length + 1) y.1 y.2 ps
def outT (n : Nat) : (Int × Int) ⊕ Mt → Mt × Int × Int
  | .inl e => (M0, e.1, e.2)
  | .inr m => if m.kind = 0 then (M0, 11, (n : Int)) else (m, 0, 0)
def parseP (l : List UInt8) : Mt × Int × Int := if 8192 < l.length then failS 12 0 else outT l.length (runT 0 0 M1 (cutsB 124 l))

theorem stepT0 (m : Mt) (p : List UInt8) : stepT 0 m p = (true, (firstF p).1, (firstF p).2, firstM p) := rfl
theorem stepT1 (m : Mt) (p : List UInt8) : stepT 1 m p = (true, codeDK p, 0, { m with kind := kindD p }) := rfl
theorem stepT2 (m : Mt) (p : List UInt8) : stepT 2 m p = if p.head? = some 64 then (true, if (rated p.tail).2.1 ≠ 0 ∨ (m.kind = 2 ∧ (rated p.tail).1 ≠ 1000000) then 18 else 0, 0, { m with rate := (rated p.tail).1 }) else (false, 0, 0, m) := rfl
theorem stepT3 (m : Mt) (p : List UInt8) : stepT 3 m p = if p.head? = some 35 then ((match parseT p.tail with
    | .inl _ => (true, 19, 0, m)
    | .inr ts => if 32 < ts.length then (true, 19, 0, m) else (true, 0, 0, { m with tags := norm ts })) : Bool × Int × Int × Mt) else (false, 0, 0, m) := rfl
theorem step_rate_bad {m : Mt} {q : List UInt8} (hb : (rated q).2.1 ≠ 0 ∨ (m.kind = 2 ∧ (rated q).1 ≠ 1000000)) : stepT 2 m (64 :: q) = (true, 18, 0, { m with rate := (rated q).1 }) := by
  rw [stepT2, if_pos (show (64 :: q).head? = some 64 from rfl)]
  show (true, (if (rated q).2.1 ≠ 0 ∨ (m.kind = 2 ∧ (rated q).1 ≠ 1000000) then (18 : Int) else 0), (0 : Int), _) = _
  rw [if_pos hb]; rfl
theorem step_rate {m : Mt} {q : List UInt8} (hb : ¬ ((rated q).2.1 ≠ 0 ∨ (m.kind = 2 ∧ (rated q).1 ≠ 1000000))) : stepT 2 m (64 :: q) = (true, 0, 0, { m with rate := (rated q).1 }) := by
  rw [stepT2, if_pos (show (64 :: q).head? = some 64 from rfl)]
  show (true, (if (rated q).2.1 ≠ 0 ∨ (m.kind = 2 ∧ (rated q).1 ≠ 1000000) then (18 : Int) else 0), (0 : Int), _) = _
  rw [if_neg hb]; rfl
theorem step_tags_bad {m : Mt} {q : List UInt8} {e : Nat} (h : parseT q = .inl e) : stepT 3 m (35 :: q) = (true, 19, 0, m) := by
  rw [stepT3, if_pos (show (35 :: q).head? = some 35 from rfl)]
  show (match parseT q with | .inl _ => _ | .inr ts => _ : Bool × Int × Int × Mt) = _
  rw [h]
theorem step_tags_many {m : Mt} {q : List UInt8} {ts : List Tg} (h : parseT q = .inr ts) (hl : 32 < ts.length) : stepT 3 m (35 :: q) = (true, 19, 0, m) := by
  rw [stepT3, if_pos (show (35 :: q).head? = some 35 from rfl)]
  show (match parseT q with | .inl _ => _ | .inr ts => _ : Bool × Int × Int × Mt) = _
  rw [h]
  show (if 32 < ts.length then _ else _) = _
  rw [if_pos hl]
theorem step_tags {m : Mt} {q : List UInt8} {ts : List Tg} (h : parseT q = .inr ts) (hl : ¬ 32 < ts.length) : stepT 3 m (35 :: q) = (true, 0, 0, { m with tags := norm ts }) := by
  rw [stepT3, if_pos (show (35 :: q).head? = some 35 from rfl)]
  show (match parseT q with | .inl _ => _ | .inr ts => _ : Bool × Int × Int × Mt) = _
  rw [h]
  show (if 32 < ts.length then _ else _) = _
  rw [if_neg hl]
theorem stepT4 (m : Mt) (p : List UInt8) : stepT 4 m p = if p.head? = some 84 then (true, if (parsed p.tail 1 MaxT).2.1 ≠ 0 then 20 else 0, 0, { m with time := (parsed p.tail 1 MaxT).1 }) else (false, 0, 0, m) := rfl
theorem step_time_bad {m : Mt} {q : List UInt8} (hb : (parsed q 1 MaxT).2.1 ≠ 0) : stepT 4 m (84 :: q) = (true, 20, 0, { m with time := (parsed q 1 MaxT).1 }) := by
  rw [stepT4, if_pos (show (84 :: q).head? = some 84 from rfl)]
  show (true, (if (parsed q 1 MaxT).2.1 ≠ 0 then (20 : Int) else 0), (0 : Int), _) = _
  rw [if_pos hb]; rfl
theorem step_time {m : Mt} {q : List UInt8} (hb : ¬ (parsed q 1 MaxT).2.1 ≠ 0) : stepT 4 m (84 :: q) = (true, 0, 0, { m with time := (parsed q 1 MaxT).1 }) := by
  rw [stepT4, if_pos (show (84 :: q).head? = some 84 from rfl)]
  show (true, (if (parsed q 1 MaxT).2.1 ≠ 0 then (20 : Int) else 0), (0 : Int), _) = _
  rw [if_neg hb]; rfl
theorem innerT_succ (n j : Nat) (m : Mt) (p : List UInt8) : innerT (n + 1) j m p = if (stepT j m p).2.1 ≠ 0 then .inl ((stepT j m p).2.1, (stepT j m p).2.2.1) else if (stepT j m p).1 = true then .inr (j + 1, (stepT j m p).2.2.2) else innerT n (j + 1) m p := rfl
theorem innerT_bad {n j : Nat} {m m' : Mt} {p : List UInt8} {b : Bool} {c a : Int} (h : stepT j m p = (b, c, a, m')) (hc : c ≠ 0) : innerT (n + 1) j m p = .inl (c, a) := by
  rw [innerT_succ, h, if_pos hc]
theorem innerT_yes {n j : Nat} {m m' : Mt} {p : List UInt8} {a : Int} (h : stepT j m p = (true, 0, a, m')) : innerT (n + 1) j m p = .inr (j + 1, m') := by
  rw [innerT_succ, h, if_neg (fun h => h rfl), if_pos rfl]
theorem innerT_no {n j : Nat} {m : Mt} {p : List UInt8} (h : stepT j m p = (false, 0, 0, m)) : innerT (n + 1) j m p = innerT n (j + 1) m p := by
  rw [innerT_succ, h]; rfl

theorem pieceD_tags_bad {k : Int} {x : Rt} {q : List UInt8} {e : Nat} (hl : ¬ 2 ≤ x.last) (h : parseT q = .inl e) : pieceD k x (35 :: q) = .inl 19 := by
  rw [pieceD_tags, if_neg hl, h]
theorem pieceD_tags_many {k : Int} {x : Rt} {q : List UInt8} {ts : List Tg} (hl : ¬ 2 ≤ x.last) (h : parseT q = .inr ts) (h2 : 32 < ts.length) : pieceD k x (35 :: q) = .inl 19 := by
  rw [pieceD_tags, if_neg hl, h]
  show (if 32 < ts.length then _ else _) = _
  rw [if_pos h2]
theorem pieceD_tags_ok {k : Int} {x : Rt} {q : List UInt8} {ts : List Tg} (hl : ¬ 2 ≤ x.last) (h : parseT q = .inr ts) (h2 : ¬ 32 < ts.length) : pieceD k x (35 :: q) = .inr { x with last := 2, tags := norm ts } := by
  rw [pieceD_tags, if_neg hl, h]
  show (if 32 < ts.length then _ else _) = _
  rw [if_neg h2]
theorem firstF_at (l : List UInt8) : 0 ≤ (firstF l).2 ∧ (firstF l).2 ≤ (l.length : Int) + 1 := by
  unfold firstF
  have hl := lenB_cuts 58 l
  rcases hk : cutsB 58 l with _ | ⟨name, vs⟩
  · exact ⟨Int.le_refl 0, by show (0 : Int) ≤ _; omega⟩
  · rw [hk, lenB_cons] at hl
    simp only
    by_cases h1 : nameR name = false
    · rw [if_pos h1]; exact ⟨Int.le_refl 0, by show (0 : Int) ≤ _; omega⟩
    · rw [if_neg h1]
      by_cases h2 : vs = []
      · rw [if_pos h2]; exact ⟨by show (0 : Int) ≤ (l.length : Int); omega, by show (l.length : Int) ≤ _; omega⟩
      · rw [if_neg h2]
        rcases hv : valsD 1 (name.length + 1) vs with e | ds
        · have := valsD_at _ _ _ hv
          exact ⟨by show (0 : Int) ≤ (e : Int); omega, by show (e : Int) ≤ _; omega⟩
        · exact ⟨Int.le_refl 0, by show (0 : Int) ≤ _; omega⟩
theorem stepT_at (j : Nat) (m : Mt) (p : List UInt8) : 0 ≤ (stepT j m p).2.2.1 ∧ (stepT j m p).2.2.1 ≤ (p.length : Int) + 1 := by
  have h0 : (0 : Int) ≤ 0 ∧ (0 : Int) ≤ (p.length : Int) + 1 := by omega
  unfold stepT
  split
  · exact firstF_at p
  · split
    · exact h0
    · split
      · split
        · exact h0
        · exact h0
      · split
        · split
          · split
            · exact h0
            · split <;> exact h0
          · exact h0
        · split <;> exact h0
theorem stepT_no {j : Nat} {m m' : Mt} {p : List UInt8} {c a : Int} (h : stepT j m p = (false, c, a, m')) : m' = m := by
  have key : ∀ {b : Bool} {x y : Int} {z : Mt}, (b, x, y, z) = (false, c, a, m') → b = false ∧ z = m' := fun e => by
    injection e with e1 e2
    injection e2 with e2 e3
    injection e3 with e3 e4
    exact ⟨e1, e4⟩
  have bad : ∀ {x y : Int} {z : Mt}, (true, x, y, z) = (false, c, a, m') → m' = m := fun e => absurd (key e).1 (by decide)
  have good : ∀ {x y : Int}, (false, x, y, m) = (false, c, a, m') → m' = m := fun e => (key e).2.symm
  unfold stepT at h
  split at h
  · exact bad h
  · split at h
    · exact bad h
    · split at h
      · split at h
        · exact bad h
        · exact good h
      · split at h
        · split at h
          · split at h
            · exact bad h
            · split at h <;> exact bad h
          · exact good h
        · split at h
          · exact bad h
          · exact good h
/-- A piece behind the first two: from the turn behind the last one told. -/
theorem inner_rest (name : List UInt8) (k : Int) (ds : List D) (x : Rt) (hx : x.last ≤ 3) (p : List UInt8) :
    innerT (5 - (x.last + 2)) (x.last + 2) ⟨name, k, ds, x.rate, x.tags, x.time⟩ p = match pieceD k x p with
      | .inl c => .inl (c, 0)
      | .inr y => .inr (y.last + 2, ⟨name, k, ds, y.rate, y.tags, y.time⟩) := by
  have e2 : ∀ n, p.head? ≠ some 64 → innerT (n + 1) 2 ⟨name, k, ds, x.rate, x.tags, x.time⟩ p = innerT n 3 ⟨name, k, ds, x.rate, x.tags, x.time⟩ p := fun n h => innerT_no (by rw [stepT2, if_neg h])
  have e3 : ∀ n, p.head? ≠ some 35 → innerT (n + 1) 3 ⟨name, k, ds, x.rate, x.tags, x.time⟩ p = innerT n 4 ⟨name, k, ds, x.rate, x.tags, x.time⟩ p := fun n h => innerT_no (by rw [stepT3, if_neg h])
  have e4 : ∀ n, p.head? ≠ some 84 → innerT (n + 1) 4 ⟨name, k, ds, x.rate, x.tags, x.time⟩ p = innerT n 5 ⟨name, k, ds, x.rate, x.tags, x.time⟩ p := fun n h => innerT_no (by rw [stepT4, if_neg h])
  have g4 : p.head? ≠ some 84 → innerT (5 - (x.last + 2)) (x.last + 2) ⟨name, k, ds, x.rate, x.tags, x.time⟩ p = innerT (5 - (x.last + 2)) (x.last + 2) ⟨name, k, ds, x.rate, x.tags, x.time⟩ p := fun _ => rfl
  rcases p with _ | ⟨b, q⟩
  · rw [pieceD_nil]
    rcases (by omega : x.last = 0 ∨ x.last = 1 ∨ x.last = 2 ∨ x.last = 3) with h | h | h | h <;> rw [h]
    · show innerT (2 + 1) 2 _ [] = _
      rw [e2 _ (by simp), e3 _ (by simp), e4 _ (by simp)]; rfl
    · show innerT (1 + 1) 3 _ [] = _
      rw [e3 _ (by simp), e4 _ (by simp)]; rfl
    · show innerT (0 + 1) 4 _ [] = _
      rw [e4 _ (by simp)]; rfl
    · rfl
  · by_cases h1 : b = 64
    · subst h1
      rw [pieceD_rate]
      by_cases hl : 1 ≤ x.last
      · rw [if_pos hl]
        rcases (by omega : x.last = 1 ∨ x.last = 2 ∨ x.last = 3) with h | h | h <;> rw [h]
        · show innerT (1 + 1) 3 _ _ = _
          rw [e3 _ (by simp), e4 _ (by simp)]; rfl
        · show innerT (0 + 1) 4 _ _ = _
          rw [e4 _ (by simp)]; rfl
        · rfl
      · have h : x.last = 0 := by omega
        rw [if_neg hl, h]
        show innerT (2 + 1) 2 _ _ = _
        by_cases hb : (rated q).2.1 ≠ 0 ∨ (k = 2 ∧ (rated q).1 ≠ 1000000)
        · rw [innerT_bad (step_rate_bad hb) (by decide), if_pos hb]
        · rw [innerT_yes (step_rate hb), if_neg hb]
    · by_cases h2 : b = 35
      · subst h2
        by_cases hl : 2 ≤ x.last
        · rw [pieceD_tags, if_pos hl]
          rcases (by omega : x.last = 2 ∨ x.last = 3) with h | h <;> rw [h]
          · show innerT (0 + 1) 4 _ _ = _
            rw [e4 _ (by simp)]; rfl
          · rfl
        · have key : ∀ n, innerT (n + 1) 3 ⟨name, k, ds, x.rate, x.tags, x.time⟩ (35 :: q) = match pieceD k x (35 :: q) with
              | .inl c => .inl (c, 0)
              | .inr y => .inr (y.last + 2, ⟨name, k, ds, y.rate, y.tags, y.time⟩) := fun n => by
            rcases hp : parseT q with e | ts
            · rw [innerT_bad (step_tags_bad hp) (by decide), pieceD_tags_bad hl hp]
            · by_cases h32 : 32 < ts.length
              · rw [innerT_bad (step_tags_many hp h32) (by decide), pieceD_tags_many hl hp h32]
              · rw [innerT_yes (step_tags hp h32), pieceD_tags_ok hl hp h32]
          rcases (by omega : x.last = 0 ∨ x.last = 1) with h | h <;> rw [h]
          · show innerT (2 + 1) 2 _ _ = _
            rw [e2 _ (by simp), key]
          · show innerT (1 + 1) 3 _ _ = _
            rw [key]
      · by_cases h3 : b = 84
        · subst h3
          rw [pieceD_time]
          by_cases hl : 3 ≤ x.last
          · have h : x.last = 3 := by omega
            rw [if_pos hl, h]; rfl
          · rw [if_neg hl]
            have key : ∀ n, innerT (n + 1) 4 ⟨name, k, ds, x.rate, x.tags, x.time⟩ (84 :: q) = match (if (parsed q 1 MaxT).2.1 ≠ 0 then .inl 20 else .inr { x with last := 3, time := (parsed q 1 MaxT).1 } : Int ⊕ Rt) with
                | .inl c => .inl (c, 0)
                | .inr y => .inr (y.last + 2, ⟨name, k, ds, y.rate, y.tags, y.time⟩) := fun n => by
              by_cases hb : (parsed q 1 MaxT).2.1 ≠ 0
              · rw [innerT_bad (step_time_bad hb) (by decide), if_pos hb]
              · rw [innerT_yes (step_time hb), if_neg hb]
            rcases (by omega : x.last = 0 ∨ x.last = 1 ∨ x.last = 2) with h | h | h <;> rw [h]
            · show innerT (2 + 1) 2 _ _ = _
              rw [e2 _ (by simp), e3 _ (by simp), key]
            · show innerT (1 + 1) 3 _ _ = _
              rw [e3 _ (by simp), key]
            · show innerT (0 + 1) 4 _ _ = _
              rw [key]
        · rw [pieceD_none k x h1 h2 h3]
          have n2 : (b :: q).head? ≠ some 64 := by simpa using h1
          have n3 : (b :: q).head? ≠ some 35 := by simpa using h2
          have n4 : (b :: q).head? ≠ some 84 := by simpa using h3
          rcases (by omega : x.last = 0 ∨ x.last = 1 ∨ x.last = 2 ∨ x.last = 3) with h | h | h | h <;> rw [h]
          · show innerT (2 + 1) 2 _ _ = _
            rw [e2 _ n2, e3 _ n3, e4 _ n4]; rfl
          · show innerT (1 + 1) 3 _ _ = _
            rw [e3 _ n3, e4 _ n4]; rfl
          · show innerT (0 + 1) 4 _ _ = _
            rw [e4 _ n4]; rfl
          · rfl
theorem pieceD_last {k : Int} {x y : Rt} {p : List UInt8} (h : pieceD k x p = .inr y) : y.last ≤ 3 := by
  rcases p with _ | ⟨b, q⟩
  · rw [pieceD_nil] at h; cases h
  · by_cases h1 : b = 64
    · subst h1
      rw [pieceD_rate] at h
      split at h
      · cases h
      · split at h
        · cases h
        · injection h with h; subst h; exact Nat.le_succ_of_le (Nat.le_succ _)
    · by_cases h2 : b = 35
      · subst h2
        by_cases hl : 2 ≤ x.last
        · rw [pieceD_tags, if_pos hl] at h
          cases h
        · rcases hp : parseT q with e | ts
          · rw [pieceD_tags_bad hl hp] at h; cases h
          · by_cases h32 : 32 < ts.length
            · rw [pieceD_tags_many hl hp h32] at h; cases h
            · rw [pieceD_tags_ok hl hp h32] at h
              injection h with h; subst h; exact Nat.le_succ _
      · by_cases h3 : b = 84
        · subst h3
          rw [pieceD_time] at h
          split at h
          · cases h
          · split at h
            · cases h
            · injection h with h; subst h; exact Nat.le_refl _
        · rw [pieceD_none k x h1 h2 h3] at h; cases h
theorem run_rest (name : List UInt8) (k : Int) (ds : List D) : ∀ (ps : List (List UInt8)) (n : Nat) (x : Rt), x.last ≤ 3 →
    runT n (x.last + 2) ⟨name, k, ds, x.rate, x.tags, x.time⟩ ps = match restD k n x ps with
      | .inl e => .inl (e.1, (e.2 : Int))
      | .inr y => .inr ⟨name, k, ds, y.rate, y.tags, y.time⟩
  | [], n, x, _ => rfl
  | p :: ps, n, x, hx => by
    rw [runT, inner_rest name k ds x hx p]
    rcases h : pieceD k x p with c | y
    · rw [restD_bad h]
      show Sum.inl (c, (n : Int) + 0) = _
      rw [Int.add_zero]
    · rw [restD_ok h]
      exact run_rest name k ds ps _ y (pieceD_last h)
theorem parseP_is (l : List UInt8) : parseP l = parseD l := by
  unfold parseP parseD
  by_cases hl : 8192 < l.length
  · rw [if_pos hl, if_pos hl]
  · rw [if_neg hl, if_neg hl]
    rcases hps : cutsB 124 l with _ | ⟨p, ps⟩
    · exact absurd hps (cutsB_ne 124 l)
    · show _ = firstD l.length p ps (cutsB 58 p)
      rw [runT, innerT_succ, stepT0]
      rcases firstF_cases p with hc | ⟨name, ds, hok⟩
      · rw [if_pos hc, firstD_bad rfl hc]
        show outT _ (Sum.inl ((firstF p).1, ((0 : Nat) : Int) + (firstF p).2)) = _
        rw [show ((0 : Nat) : Int) + (firstF p).2 = (firstF p).2 by omega]
        rfl
      · obtain ⟨e1, e2⟩ := firstM_ok hok
        rw [e2, if_neg (fun h => h rfl), firstD_ok hok]
        show outT _ (runT (0 + p.length + 1) 1 (firstM p) ps) = _
        rw [e1, Nat.zero_add]
        rcases ps with _ | ⟨w, ps⟩
        · rfl
        · rw [runT, innerT_succ, stepT1, kindsD]
          by_cases hk : kindD w = 0
          · rw [if_pos (show codeDK w ≠ 0 by unfold codeDK; rw [if_pos hk]; decide), if_pos hk]
            show outT _ (Sum.inl (codeDK w, ((p.length + 1 : Nat) : Int) + 0)) = _
            rw [Int.add_zero, show codeDK w = 16 from if_pos hk]
            rfl
          · rw [if_neg (show ¬ codeDK w ≠ 0 by unfold codeDK; rw [if_neg hk]; decide), if_neg hk]
            show outT _ (runT (p.length + 1 + w.length + 1) (R0.last + 2) ⟨name, kindD w, ds, R0.rate, R0.tags, R0.time⟩ ps) = _
            rw [run_rest name (kindD w) ds ps _ R0 (by decide)]
            rcases restD (kindD w) (p.length + 1 + w.length + 1) R0 ps with e | y
            · rfl
            · show (if kindD w = 0 then _ else _) = _
              rw [if_neg hk]
end Go.Proofs.YtbcmchkgamkceaaGreatDoor

/-
  A metric that is written into, field by field, while a line is read. No statement of the seat is proved here.
-/
namespace Go.Proofs.YtbcmchkgamkceaaGreatDoor
open Go.RowKit
open Dc (D D0)

/-- At g the metric m lies. -/
def Rd (t : TypeId) (W : World) (g : Nat) (m : Mt) : Prop :=
  ∃ s A n ca B k cb, Box W g t [.string s, .int .i64 m.kind, .slice A n ca, .int .i64 m.rate, .slice B k cb, .int .i64 m.time] ∧ MIs W s A n B k m
/-- The same, while a call reads a piece; the Fault that it tells lies in the call's own first block. -/
structure Mth (t : TypeId) (w W : World) (g : Nat) (m : Mt) : Prop where
  kept : But g w W
  rd : Rd t W g m
  res : Box W w.heap.size 42 [.int .i64 0, .int .i64 0]
  lt : g < w.heap.size
section
variable {t : TypeId} {w W W' : World} {g : Nat} {m : Mt}
theorem Rd.next (h : Rd t W g m) (b : Below W.heap.size W W') : Rd t W' g m := by
  obtain ⟨s, A, n, ca, B, k, cb, hb, hm⟩ := h
  exact ⟨s, A, n, ca, B, k, cb, hb.keep b, hm.keep b⟩
theorem Rd.lt (h : Rd t W g m) : g < W.heap.size := by
  obtain ⟨s, A, n, ca, B, k, cb, hb, hm⟩ := h
  exact hb.lt
theorem Mth.start (h : Rd t w g m) : Mth t w (w.alloc (.cells #[.int .i64 0, .int .i64 0] 42)) g m :=
  ⟨(But.refl g w).alloc _, h.next ((Below.refl _ _).alloc (Nat.le_refl _) _), Box.new w 42 [.int .i64 0, .int .i64 0], h.lt⟩
theorem Mth.next (h : Mth t w W g m) (b : Below W.heap.size W W') : Mth t w W' g m := ⟨h.kept.trans (.of_below b), h.rd.next b, h.res.keep b, h.lt⟩
theorem Mth.alloc (h : Mth t w W g m) (o : Obj) : Mth t w (W.alloc o) g m := h.next ((Below.refl _ _).alloc (Nat.le_refl _) o)
theorem Mth.drew (h : Mth t w W g m) : Mth t w W.drew g m := h.next (Same.below (Same.drewN W 1))
theorem Mth.cells (h : Mth t w W g m) : ∃ s A n ca B k cb, W.cell? ⟨g, 0, none⟩ = some (.string s) ∧ W.cell? ⟨g, 1, none⟩ = some (.int .i64 m.kind) ∧ W.cell? ⟨g, 2, none⟩ = some (.slice A n ca) ∧ W.cell? ⟨g, 3, none⟩ = some (.int .i64 m.rate) ∧ W.cell? ⟨g, 4, none⟩ = some (.slice B k cb) ∧ W.cell? ⟨g, 5, none⟩ = some (.int .i64 m.time) ∧
    (W.frozen? ⟨g, 1, none⟩ = false ∧ W.frozen? ⟨g, 3, none⟩ = false ∧ W.frozen? ⟨g, 4, none⟩ = false ∧ W.frozen? ⟨g, 5, none⟩ = false) := by
  obtain ⟨s, A, n, ca, B, k, cb, hb, _⟩ := h.rd
  exact ⟨s, A, n, ca, B, k, cb, hb.cell 0, hb.cell 1, hb.cell 2, hb.cell 3, hb.cell 4, hb.cell 5, hb.frozen 1, hb.frozen 3, hb.frozen 4, hb.frozen 5⟩
theorem Mth.two (h : Mth t w W g m) : W.cell? ⟨w.heap.size, 0, none⟩ = some (.int .i64 0) ∧ W.cell? ⟨w.heap.size, 1, none⟩ = some (.int .i64 0) ∧ W.frozen? ⟨w.heap.size, 0, none⟩ = false ∧ W.frozen? ⟨w.heap.size, 1, none⟩ = false :=
  ⟨h.res.cell 0, h.res.cell 1, h.res.frozen 0, h.res.frozen 1⟩
/-- The fault is stored. -/
theorem Mth.told (h : Mth t w W g m) (c a : Int) : Box ((W.setCell ⟨w.heap.size, 0, none⟩ (.int .i64 c)).setCell ⟨w.heap.size, 1, none⟩ (.int .i64 a)) w.heap.size 42 [.int .i64 c, .int .i64 a] ∧ But g w ((W.setCell ⟨w.heap.size, 0, none⟩ (.int .i64 c)).setCell ⟨w.heap.size, 1, none⟩ (.int .i64 a)) ∧
    Rd t ((W.setCell ⟨w.heap.size, 0, none⟩ (.int .i64 c)).setCell ⟨w.heap.size, 1, none⟩ (.int .i64 a)) g m := by
  have hb1 : Box (W.setCell ⟨w.heap.size, 0, none⟩ (.int .i64 c)) w.heap.size 42 [.int .i64 c, .int .i64 0] := h.res.set 0 _
  have hl := h.lt
  obtain ⟨s, A, n, ca, B, k, cb, hb, hm⟩ := h.rd
  refine ⟨hb1.set 1 _, but_set_new (but_set_new h.kept (Nat.le_refl _) 0 _) (Nat.le_refl _) 1 _, s, A, n, ca, B, k, cb, (hb.far (q := ⟨w.heap.size, 0, none⟩) (by show g ≠ w.heap.size; omega) _).far (q := ⟨w.heap.size, 1, none⟩) (by show g ≠ w.heap.size; omega) _, hm.name, hm.vlen, (hm.vals.set_fault h.res 0 _).set_fault hb1 1 _, hm.tlen, (hm.tags.set_fault h.res 0 _).set_fault hb1 1 _⟩
theorem Mth.kind (h : Mth t w W g m) (x : Int) : Mth t w (W.setCell ⟨g, 1, none⟩ (.int .i64 x)) g { m with kind := x } := by
  obtain ⟨s, A, n, ca, B, k, cb, hb, hm⟩ := h.rd
  have h2 := hm.set_met (s := s) (kd := m.kind) (A0 := A) (n0 := n) (ca0 := ca) (rt := m.rate) (B0 := B) (k0 := k) (cb0 := cb) (tm := m.time) hb 1 (.int .i64 x)
  exact ⟨h.kept.set 1 _, ⟨s, A, n, ca, B, k, cb, hb.set 1 _, h2.name, h2.vlen, h2.vals, h2.tlen, h2.tags⟩, h.res.far (q := ⟨g, 1, none⟩) (by have := h.lt; show w.heap.size ≠ g; omega) _, h.lt⟩
theorem Mth.rate (h : Mth t w W g m) (x : Int) : Mth t w (W.setCell ⟨g, 3, none⟩ (.int .i64 x)) g { m with rate := x } := by
  obtain ⟨s, A, n, ca, B, k, cb, hb, hm⟩ := h.rd
  have h2 := hm.set_met (s := s) (kd := m.kind) (A0 := A) (n0 := n) (ca0 := ca) (rt := m.rate) (B0 := B) (k0 := k) (cb0 := cb) (tm := m.time) hb 3 (.int .i64 x)
  exact ⟨h.kept.set 3 _, ⟨s, A, n, ca, B, k, cb, hb.set 3 _, h2.name, h2.vlen, h2.vals, h2.tlen, h2.tags⟩, h.res.far (q := ⟨g, 3, none⟩) (by have := h.lt; show w.heap.size ≠ g; omega) _, h.lt⟩
theorem Mth.time (h : Mth t w W g m) (x : Int) : Mth t w (W.setCell ⟨g, 5, none⟩ (.int .i64 x)) g { m with time := x } := by
  obtain ⟨s, A, n, ca, B, k, cb, hb, hm⟩ := h.rd
  have h2 := hm.set_met (s := s) (kd := m.kind) (A0 := A) (n0 := n) (ca0 := ca) (rt := m.rate) (B0 := B) (k0 := k) (cb0 := cb) (tm := m.time) hb 5 (.int .i64 x)
  exact ⟨h.kept.set 5 _, ⟨s, A, n, ca, B, k, cb, hb.set 5 _, h2.name, h2.vlen, h2.vals, h2.tlen, h2.tags⟩, h.res.far (q := ⟨g, 5, none⟩) (by have := h.lt; show w.heap.size ≠ g; omega) _, h.lt⟩
theorem Mth.tags (h : Mth t w W g m) {B' : Option Addr} {k' : Nat} (cb' : Nat) {ts : List Tg} (hl : ts.length = k') (ht : Tags W B' ts) : Mth t w (W.setCell ⟨g, 4, none⟩ (.slice B' k' cb')) g { m with tags := ts } := by
  obtain ⟨s, A, n, ca, B, k, cb, hb, hm⟩ := h.rd
  have h2 := hm.set_met (s := s) (kd := m.kind) (A0 := A) (n0 := n) (ca0 := ca) (rt := m.rate) (B0 := B) (k0 := k) (cb0 := cb) (tm := m.time) hb 4 (.slice B' k' cb')
  have h3 := ht.set_met (s := s) (kd := m.kind) (A0 := A) (n0 := n) (ca0 := ca) (rt := m.rate) (B0 := B) (k0 := k) (cb0 := cb) (tm := m.time) hb 4 (.slice B' k' cb')
  exact ⟨h.kept.set 4 _, ⟨s, A, n, ca, B', k', cb', hb.set 4 _, h2.name, h2.vlen, h2.vals, hl, h3⟩, h.res.far (q := ⟨g, 4, none⟩) (by have := h.lt; show w.heap.size ≠ g; omega) _, h.lt⟩
end
/-- What a call tells of a piece. -/
def MethP (t : TypeId) (w : World) (g : Nat) (x : Bool × Int × Int × Mt) (e : Ending) (w' : World) : Prop :=
  e = .returned (.tuple #[.bool x.1, .agg #[.int .i64 x.2.1, .int .i64 x.2.2.1]]) ∧ But g w w' ∧ (x.2.1 = 0 → Rd t w' g x.2.2.2)
theorem methP_of {t : TypeId} {w w' : World} {g : Nat} {x : Bool × Int × Int × Mt} {o : Bool} {c a : Int} {m : Mt} (hx : x = (o, c, a, m)) (hb : But g w w') (hr : c = 0 → Rd t w' g m) : MethP t w g x (.returned (.tuple #[.bool o, .agg #[.int .i64 c, .int .i64 a]])) w' := by
  subst hx
  exact ⟨rfl, hb, hr⟩
end Go.Proofs.YtbcmchkgamkceaaGreatDoor

/-
  Lines of StatsD: the two blocks of what Parse tells, while it goes on. No statement of the seat is proved here.
-/
namespace Go.Proofs.YtbcmchkgamkceaaGreatDoor
open Go.RowKit
open Dc (D D0)

structure ResS (w W : World) : Prop where
  one : Box W w.heap.size 35 [.string ⟨#[]⟩, .int .i64 0, .slice none 0 0, .int .i64 0, .slice none 0 0, .int .i64 0]
  two : Box W (w.heap.size + 1) 42 [.int .i64 0, .int .i64 0]
  kept : Below w.heap.size w W
section
variable {w W W' : World}
theorem ResS.start (w : World) : ResS w ((w.alloc (.cells #[.string ⟨#[]⟩, .int .i64 0, .slice none 0 0, .int .i64 0, .slice none 0 0, .int .i64 0] 35)).alloc (.cells #[.int .i64 0, .int .i64 0] 42)) := by
  have HB := ((Kb.start w).push 35 [.string ⟨#[]⟩, .int .i64 0, .slice none 0 0, .int .i64 0, .slice none 0 0, .int .i64 0]).pushAt (g := w.heap.size + 1) (by rw [size_alloc]) 42 [.int .i64 0, .int .i64 0]
  exact ⟨HB.box (_, _, _) (.tail _ (.head _)), HB.box (_, _, _) (.head _), HB.kept⟩
theorem ResS.next (h : ResS w W) (k : Below W.heap.size W W') : ResS w W' := ⟨h.one.keep k, h.two.keep k, below_then h.kept k⟩
theorem ResS.alloc (h : ResS w W) (o : Obj) : ResS w (W.alloc o) := h.next ((Below.refl _ _).alloc (Nat.le_refl _) o)
theorem ResS.drew (h : ResS w W) : ResS w W.drew := h.next (Same.below (Same.drewN W 1))
theorem ResS.cells (h : ResS w W) : W.cell? ⟨w.heap.size, 0, none⟩ = some (.string ⟨#[]⟩) ∧ W.cell? ⟨w.heap.size, 1, none⟩ = some (.int .i64 0) ∧ W.cell? ⟨w.heap.size, 2, none⟩ = some (.slice none 0 0) ∧ W.cell? ⟨w.heap.size, 3, none⟩ = some (.int .i64 0) ∧ W.cell? ⟨w.heap.size, 4, none⟩ = some (.slice none 0 0) ∧ W.cell? ⟨w.heap.size, 5, none⟩ = some (.int .i64 0) ∧
    W.cell? ⟨w.heap.size + 1, 0, none⟩ = some (.int .i64 0) ∧ W.cell? ⟨w.heap.size + 1, 1, none⟩ = some (.int .i64 0) :=
  ⟨h.one.cell 0, h.one.cell 1, h.one.cell 2, h.one.cell 3, h.one.cell 4, h.one.cell 5, h.two.cell 0, h.two.cell 1⟩
theorem ResS.frozen (h : ResS w W) : W.frozen? ⟨w.heap.size, 0, none⟩ = false ∧ W.frozen? ⟨w.heap.size, 1, none⟩ = false ∧ W.frozen? ⟨w.heap.size, 2, none⟩ = false ∧ W.frozen? ⟨w.heap.size, 3, none⟩ = false ∧ W.frozen? ⟨w.heap.size, 4, none⟩ = false ∧ W.frozen? ⟨w.heap.size, 5, none⟩ = false ∧
    W.frozen? ⟨w.heap.size + 1, 0, none⟩ = false ∧ W.frozen? ⟨w.heap.size + 1, 1, none⟩ = false :=
  ⟨h.one.frozen 0, h.one.frozen 1, h.one.frozen 2, h.one.frozen 3, h.one.frozen 4, h.one.frozen 5, h.two.frozen 0, h.two.frozen 1⟩
theorem ResS.put (h : ResS w W) {s : ByteArray} {A B : Option Addr} {n k : Nat} {m : Mt} (hm : MIs W s A n B k m) (ca cb : Nat) (c a : Int) :
    PutMF w (putMF W w.heap.size (w.heap.size + 1) s m.kind A n ca m.rate B k cb m.time c a) w.heap.size (w.heap.size + 1) s A n ca B k cb m c a :=
  putMF_tells h.kept (Nat.le_refl _) (Nat.le_succ _) (by omega) h.one h.two hm ca cb c a
/-- A fault, as it is told. -/
theorem ResS.fault (h : ResS w W) (c a : Int) : PutMF w (putMF W w.heap.size (w.heap.size + 1) ⟨#[]⟩ 0 none 0 0 0 none 0 0 0 c a) w.heap.size (w.heap.size + 1) ⟨#[]⟩ none 0 0 none 0 0 M0 c a :=
  h.put (mis0 W none none) 0 0 c a
theorem PutMF.fault {g g' : Nat} {c : Int} {a : Nat} (h : PutMF w W g g' ⟨#[]⟩ none 0 0 none 0 0 M0 c a) {x : Mt × Int × Int} (hx : x = failS c a) :
    TellsM w x (.returned (.tuple #[.agg #[.string ⟨#[]⟩, .int .i64 0, .slice none 0 0, .int .i64 0, .slice none 0 0, .int .i64 0], .agg #[.int .i64 c, .int .i64 a]])) W := by
  subst hx
  exact ⟨_, _, _, _, _, _, _, rfl, h.met, h.kept⟩
theorem PutMF.told {g g' : Nat} {s : ByteArray} {A : Option Addr} {ca : Nat} {name : List UInt8} {k : Int} {d : D} {r : Int} (h : PutMF w W g g' s A 1 ca none 0 0 (oneS name k d r) 0 0) {x : Mt × Int × Int} (hx : x = (oneS name k d r, 0, 0)) :
    TellsM w x (.returned (.tuple #[.agg #[.string s, .int .i64 k, .slice A 1 ca, .int .i64 r, .slice none 0 0, .int .i64 0], .agg #[.int .i64 0, .int .i64 0]])) W := by
  subst hx
  exact ⟨_, _, _, _, _, _, _, rfl, h.met, h.kept⟩
end
/-- A metric of a line is laid, whose value lies in a row of its own. -/
structure MetS (w W : World) (gm gs : Nat) (s : ByteArray) (k r : Int) (d : D) : Prop where
  res : ResS w W
  box : Box W gm 35 [.string s, .int .i64 k, .slice (some ⟨gs, 0, none⟩) 1 1, .int .i64 r, .slice none 0 0, .int .i64 0]
  decs : Decs W (some ⟨gs, 0, none⟩) [d]
  lo : w.heap.size + 2 ≤ gm
section
variable {w W W' : World} {gm gs : Nat} {s : ByteArray} {k r : Int} {d : D}
theorem ResS.lo (h : ResS w W) : w.heap.size + 2 ≤ W.heap.size := h.two.lt
theorem MetS.next (h : MetS w W gm gs s k r d) (b : Below W.heap.size W W') : MetS w W' gm gs s k r d := ⟨h.res.next b, h.box.keep b, h.decs.keep b, h.lo⟩
theorem MetS.alloc (h : MetS w W gm gs s k r d) (o : Obj) : MetS w (W.alloc o) gm gs s k r d := h.next ((Below.refl _ _).alloc (Nat.le_refl _) o)
theorem MetS.first (h : ResS w W) (s : ByteArray) (k r : Int) (d : D) : MetS w ((W.alloc (.cells #[.bool d.neg, .int .u64 d.c, .int .i64 d.e] 51)).alloc (.cells #[.string s, .int .i64 k, .slice (some ⟨W.heap.size, 0, none⟩) 1 1, .int .i64 r, .slice none 0 0, .int .i64 0] 35)).drew (W.heap.size + 1) W.heap.size s k r d := by
  have hb := Box.new (W.alloc (.cells #[.bool d.neg, .int .u64 d.c, .int .i64 d.e] 51)) 35 [.string s, .int .i64 k, .slice (some ⟨W.heap.size, 0, none⟩) 1 1, .int .i64 r, .slice none 0 0, .int .i64 0]
  rw [size_alloc] at hb
  exact ⟨((h.alloc _).alloc _).drew, hb.keep (Same.below (Same.drewN _ 1)), (((decs_at rfl (Dl.mk_ d)).alloc _).drew), by have := h.lo; omega⟩
theorem MetS.second (h : ResS w W) (s : ByteArray) (k r : Int) (d : D) : MetS w ((W.alloc (.cells #[.string s, .int .i64 k, .slice (some ⟨W.heap.size + 1, 0, none⟩) 1 1, .int .i64 r, .slice none 0 0, .int .i64 0] 35)).alloc (.cells #[.bool d.neg, .int .u64 d.c, .int .i64 d.e] 51)).drew W.heap.size (W.heap.size + 1) s k r d := by
  have hb := Box.new W 35 [.string s, .int .i64 k, .slice (some ⟨W.heap.size + 1, 0, none⟩) 1 1, .int .i64 r, .slice none 0 0, .int .i64 0]
  exact ⟨((h.alloc _).alloc _).drew, (hb.alloc _).keep (Same.below (Same.drewN _ 1)), ((decs_at (by rw [size_alloc]) (Dl.mk_ d)).drew), by have := h.lo; omega⟩
theorem MetS.rate (h : MetS w W gm gs s k r d) (r' : Int) : MetS w (W.setCell ⟨gm, 3, none⟩ (.int .i64 r')) gm gs s k r' d := by
  have hb : Box W gm 35 (mC s k (some ⟨gs, 0, none⟩) 1 1 r none 0 0 0) := h.box
  have l := h.lo
  exact ⟨⟨h.res.one.far (q := ⟨gm, 3, none⟩) (by show w.heap.size ≠ gm; omega) _, h.res.two.far (q := ⟨gm, 3, none⟩) (by show w.heap.size + 1 ≠ gm; omega) _, below_set h.res.kept (by omega) 3 _⟩, h.box.set 3 _, h.decs.set_met hb 3 _, l⟩
theorem MetS.six (h : MetS w W gm gs s k r d) : W.cell? ⟨gm, 0, none⟩ = some (.string s) ∧ W.cell? ⟨gm, 1, none⟩ = some (.int .i64 k) ∧ W.cell? ⟨gm, 2, none⟩ = some (.slice (some ⟨gs, 0, none⟩) 1 1) ∧ W.cell? ⟨gm, 3, none⟩ = some (.int .i64 r) ∧ W.cell? ⟨gm, 4, none⟩ = some (.slice none 0 0) ∧ W.cell? ⟨gm, 5, none⟩ = some (.int .i64 0) :=
  ⟨h.box.cell 0, h.box.cell 1, h.box.cell 2, h.box.cell 3, h.box.cell 4, h.box.cell 5⟩
theorem MetS.put (h : MetS w W gm gs s k r d) {name : List UInt8} (hs : Str s name) : PutMF w (putMF W w.heap.size (w.heap.size + 1) s k (some ⟨gs, 0, none⟩) 1 1 r none 0 0 0 0 0) w.heap.size (w.heap.size + 1) s (some ⟨gs, 0, none⟩) 1 1 none 0 0 (oneS name k d r) 0 0 :=
  h.res.put (m := oneS name k d r) ⟨hs, rfl, h.decs, rfl, Tags.nil⟩ 1 0 0 0
end
theorem parses_says {l : List UInt8} {d : D} {c a : Int} (h : Dc.parse l = (d, c, a)) {w w' : World} {e : Ending} (k : Dc.Parses w l e w') : e = .returned (.tuple #[.agg #[.bool d.neg, .int .u64 d.c, .int .i64 d.e], .agg #[.int .i64 c, .int .i64 a]]) ∧ Below w.heap.size w w' := by
  unfold Dc.Parses at k
  rw [h] at k
  exact k
theorem told3_says {r : Int × Int × Int} {n c a : Int} (h : r = (n, c, a)) {w w' : World} {e : Ending} (k : Told3 w r e w') : e = .returned (.tuple #[.int .i64 n, .agg #[.int .i64 c, .int .i64 a]]) ∧ Below w.heap.size w w' := by
  rw [h] at k
  exact k
theorem mis_one {W : World} {s : ByteArray} {A : Option Addr} {name : List UInt8} {k : Int} {d : D} {r : Int} (hs : Str s name) (hd : Decs W A [d]) : MIs W s A 1 none 0 (oneS name k d r) := ⟨hs, rfl, hd, rfl, Tags.nil⟩
end Go.Proofs.YtbcmchkgamkceaaGreatDoor
