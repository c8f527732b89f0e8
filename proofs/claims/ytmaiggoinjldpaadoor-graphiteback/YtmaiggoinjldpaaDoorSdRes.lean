/-
  Lines of StatsD: the two blocks of what Parse tells, while it goes on. No statement of the seat is proved here.
-/
import Derived.Test.YtmaiggoinjldpaaDoorGrNRate
import Derived.Test.YtmaiggoinjldpaaDoorGrSdRef
import Derived.Test.YtmaiggoinjldpaaDoorGrDParse
namespace Go.Proofs.YtmaiggoinjldpaaDoor
open Go.RowKit
open Dc (D D0)

structure ResS (w W : World) : Prop where
  one : Box W w.heap.size 26 [.string ⟨#[]⟩, .int .i64 0, .slice none 0 0, .int .i64 0, .slice none 0 0, .int .i64 0]
  two : Box W (w.heap.size + 1) 29 [.int .i64 0, .int .i64 0]
  kept : Below w.heap.size w W
section
variable {w W W' : World}
theorem ResS.start (w : World) : ResS w ((w.alloc (.cells #[.string ⟨#[]⟩, .int .i64 0, .slice none 0 0, .int .i64 0, .slice none 0 0, .int .i64 0] 26)).alloc (.cells #[.int .i64 0, .int .i64 0] 29)) := by
  have HB := ((Kb.start w).push 26 [.string ⟨#[]⟩, .int .i64 0, .slice none 0 0, .int .i64 0, .slice none 0 0, .int .i64 0]).pushAt (g := w.heap.size + 1) (by rw [size_alloc]) 29 [.int .i64 0, .int .i64 0]
  exact ⟨HB.box (_, _, _) (.tail _ (.head _)), HB.box (_, _, _) (.head _), HB.kept⟩
theorem ResS.next (h : ResS w W) (k : Below W.heap.size W W') : ResS w W' := ⟨h.one.keep k, h.two.keep k, below_then h.kept k⟩
theorem ResS.alloc (h : ResS w W) (o : Obj) : ResS w (W.alloc o) := h.next ((Below.refl _ _).alloc (Nat.le_refl _) o)
theorem ResS.drew (h : ResS w W) : ResS w W.drew := h.next (Same.below (Same.drewN W 1))
theorem ResS.cells (h : ResS w W) : W.cell? ⟨w.heap.size, 0, none⟩ = some (.string ⟨#[]⟩) ∧ W.cell? ⟨w.heap.size, 1, none⟩ = some (.int .i64 0) ∧ W.cell? ⟨w.heap.size, 2, none⟩ = some (.slice none 0 0) ∧ W.cell? ⟨w.heap.size, 3, none⟩ = some (.int .i64 0) ∧ W.cell? ⟨w.heap.size, 4, none⟩ = some (.slice none 0 0) ∧ W.cell? ⟨w.heap.size, 5, none⟩ = some (.int .i64 0) ∧
    W.cell? ⟨w.heap.size + 1, 0, none⟩ = some (.int .i64 0) ∧ W.cell? ⟨w.heap.size + 1, 1, none⟩ = some (.int .i64 0) :=
  ⟨h.one.cell 0, h.one.cell 1, h.one.cell 2, h.one.cell 3, h.one.cell 4, h.one.cell 5, h.two.cell 0, h.two.cell 1⟩
theorem ResS.frozen (h : ResS w W) : W.frozen? ⟨w.heap.size, 0, none⟩ = false ∧ W.frozen? ⟨w.heap.size, 1, none⟩ = false ∧ W.frozen? ⟨w.heap.size, 2, none⟩ = false ∧ W.frozen? ⟨w.heap.size, 3, none⟩ = false ∧ W.frozen? ⟨w.heap.size, 4, none⟩ = false ∧ W.frozen? ⟨w.heap.size, 5, none⟩ = false ∧
    W.frozen? ⟨w.heap.size + 1, 0, none⟩ = false ∧ W.frozen? ⟨w.heap.size + 1, 1, none⟩ = false :=
  ⟨h.one.frozen 0, h.one.frozen 1, h.one.frozen 2, h.one.frozen 3, h.one.frozen 4, h.one.frozen 5, h.two.frozen 0, h.two.frozen 1⟩
theorem ResS.put (h : ResS w W) {s : ByteArray} {A B : Option Addr} {n k : Nat} {m : Mt} (hm : MIs W s A n B k m) (ca cb : Nat) (c a : Int) :
    PutMF w (putMF W w.heap.size (w.heap.size + 1) s m.kind A n ca m.rate B k cb m.time c a) w.heap.size (w.heap.size + 1) s A n ca B k cb m c a :=
  putMF_tells h.kept (Nat.le_refl _) (Nat.le_succ _) (by omega) h.one h.two hm ca cb c a
/-- A fault, as it is told. -/
theorem ResS.fault (h : ResS w W) (c a : Int) : PutMF w (putMF W w.heap.size (w.heap.size + 1) ⟨#[]⟩ 0 none 0 0 0 none 0 0 0 c a) w.heap.size (w.heap.size + 1) ⟨#[]⟩ none 0 0 none 0 0 M0 c a :=
  h.put (mis0 W none none) 0 0 c a
theorem PutMF.fault {g g' : Nat} {c : Int} {a : Nat} (h : PutMF w W g g' ⟨#[]⟩ none 0 0 none 0 0 M0 c a) {x : Mt × Int × Int} (hx : x = failS c a) :
    TellsM w x (.returned (.tuple #[.agg #[.string ⟨#[]⟩, .int .i64 0, .slice none 0 0, .int .i64 0, .slice none 0 0, .int .i64 0], .agg #[.int .i64 c, .int .i64 a]])) W := by
  subst hx
  exact ⟨_, _, _, _, _, _, _, rfl, h.met, h.kept⟩
theorem PutMF.told {g g' : Nat} {s : ByteArray} {A : Option Addr} {ca : Nat} {name : List UInt8} {k : Int} {d : D} {r : Int} (h : PutMF w W g g' s A 1 ca none 0 0 (oneS name k d r) 0 0) {x : Mt × Int × Int} (hx : x = (oneS name k d r, 0, 0)) :
    TellsM w x (.returned (.tuple #[.agg #[.string s, .int .i64 k, .slice A 1 ca, .int .i64 r, .slice none 0 0, .int .i64 0], .agg #[.int .i64 0, .int .i64 0]])) W := by
  subst hx
  exact ⟨_, _, _, _, _, _, _, rfl, h.met, h.kept⟩
end
/-- A metric of a line is laid, whose value lies in a row of its own. -/
structure MetS (w W : World) (gm gs : Nat) (s : ByteArray) (k r : Int) (d : D) : Prop where
  res : ResS w W
  box : Box W gm 26 [.string s, .int .i64 k, .slice (some ⟨gs, 0, none⟩) 1 1, .int .i64 r, .slice none 0 0, .int .i64 0]
  decs : Decs W (some ⟨gs, 0, none⟩) [d]
  lo : w.heap.size + 2 ≤ gm
section
variable {w W W' : World} {gm gs : Nat} {s : ByteArray} {k r : Int} {d : D}
theorem ResS.lo (h : ResS w W) : w.heap.size + 2 ≤ W.heap.size := h.two.lt
theorem MetS.next (h : MetS w W gm gs s k r d) (b : Below W.heap.size W W') : MetS w W' gm gs s k r d := ⟨h.res.next b, h.box.keep b, h.decs.keep b, h.lo⟩
theorem MetS.alloc (h : MetS w W gm gs s k r d) (o : Obj) : MetS w (W.alloc o) gm gs s k r d := h.next ((Below.refl _ _).alloc (Nat.le_refl _) o)
theorem MetS.first (h : ResS w W) (s : ByteArray) (k r : Int) (d : D) : MetS w ((W.alloc (.cells #[.bool d.neg, .int .u64 d.c, .int .i64 d.e] 42)).alloc (.cells #[.string s, .int .i64 k, .slice (some ⟨W.heap.size, 0, none⟩) 1 1, .int .i64 r, .slice none 0 0, .int .i64 0] 26)).drew (W.heap.size + 1) W.heap.size s k r d := by
  have hb := Box.new (W.alloc (.cells #[.bool d.neg, .int .u64 d.c, .int .i64 d.e] 42)) 26 [.string s, .int .i64 k, .slice (some ⟨W.heap.size, 0, none⟩) 1 1, .int .i64 r, .slice none 0 0, .int .i64 0]
  rw [size_alloc] at hb
  exact ⟨((h.alloc _).alloc _).drew, hb.keep (Same.below (Same.drewN _ 1)), (((decs_at rfl (Dl.mk_ d)).alloc _).drew), by have := h.lo; omega⟩
theorem MetS.second (h : ResS w W) (s : ByteArray) (k r : Int) (d : D) : MetS w ((W.alloc (.cells #[.string s, .int .i64 k, .slice (some ⟨W.heap.size + 1, 0, none⟩) 1 1, .int .i64 r, .slice none 0 0, .int .i64 0] 26)).alloc (.cells #[.bool d.neg, .int .u64 d.c, .int .i64 d.e] 42)).drew W.heap.size (W.heap.size + 1) s k r d := by
  have hb := Box.new W 26 [.string s, .int .i64 k, .slice (some ⟨W.heap.size + 1, 0, none⟩) 1 1, .int .i64 r, .slice none 0 0, .int .i64 0]
  exact ⟨((h.alloc _).alloc _).drew, (hb.alloc _).keep (Same.below (Same.drewN _ 1)), ((decs_at (by rw [size_alloc]) (Dl.mk_ d)).drew), by have := h.lo; omega⟩
theorem MetS.rate (h : MetS w W gm gs s k r d) (r' : Int) : MetS w (W.setCell ⟨gm, 3, none⟩ (.int .i64 r')) gm gs s k r' d := by
  have hb : Box W gm 26 (mC s k (some ⟨gs, 0, none⟩) 1 1 r none 0 0 0) := h.box
  have l := h.lo
  exact ⟨⟨h.res.one.far (q := ⟨gm, 3, none⟩) (by show w.heap.size ≠ gm; omega) _, h.res.two.far (q := ⟨gm, 3, none⟩) (by show w.heap.size + 1 ≠ gm; omega) _, below_set h.res.kept (by omega) 3 _⟩, h.box.set 3 _, h.decs.set_met hb 3 _, l⟩
theorem MetS.six (h : MetS w W gm gs s k r d) : W.cell? ⟨gm, 0, none⟩ = some (.string s) ∧ W.cell? ⟨gm, 1, none⟩ = some (.int .i64 k) ∧ W.cell? ⟨gm, 2, none⟩ = some (.slice (some ⟨gs, 0, none⟩) 1 1) ∧ W.cell? ⟨gm, 3, none⟩ = some (.int .i64 r) ∧ W.cell? ⟨gm, 4, none⟩ = some (.slice none 0 0) ∧ W.cell? ⟨gm, 5, none⟩ = some (.int .i64 0) :=
  ⟨h.box.cell 0, h.box.cell 1, h.box.cell 2, h.box.cell 3, h.box.cell 4, h.box.cell 5⟩
theorem MetS.put (h : MetS w W gm gs s k r d) {name : List UInt8} (hs : Str s name) : PutMF w (putMF W w.heap.size (w.heap.size + 1) s k (some ⟨gs, 0, none⟩) 1 1 r none 0 0 0 0 0) w.heap.size (w.heap.size + 1) s (some ⟨gs, 0, none⟩) 1 1 none 0 0 (oneS name k d r) 0 0 :=
  h.res.put (m := oneS name k d r) ⟨hs, rfl, h.decs, rfl, Tags.nil⟩ 1 0 0 0
end
theorem parses_says {l : List UInt8} {d : D} {c a : Int} (h : Dc.parse l = (d, c, a)) {w w' : World} {e : Ending} (k : Dc.Parses w l e w') : e = .returned (.tuple #[.agg #[.bool d.neg, .int .u64 d.c, .int .i64 d.e], .agg #[.int .i64 c, .int .i64 a]]) ∧ Below w.heap.size w w' := by
  unfold Dc.Parses at k
  rw [h] at k
  exact k
theorem told3_says {r : Int × Int × Int} {n c a : Int} (h : r = (n, c, a)) {w w' : World} {e : Ending} (k : Told3 w r e w') : e = .returned (.tuple #[.int .i64 n, .agg #[.int .i64 c, .int .i64 a]]) ∧ Below w.heap.size w w' := by
  rw [h] at k
  exact k
theorem mis_one {W : World} {s : ByteArray} {A : Option Addr} {name : List UInt8} {k : Int} {d : D} {r : Int} (hs : Str s name) (hd : Decs W A [d]) : MIs W s A 1 none 0 (oneS name k d r) := ⟨hs, rfl, hd, rfl, Tags.nil⟩
end Go.Proofs.YtmaiggoinjldpaaDoor
