/-
  DRefDigits, DRefNorm, DRefNorm2, MRef1, MRef2, MRef3, MLaw, SdRet, EMetric. No statement of the seat is proved here.
-/
import Derived.Test.YtmaiggoinjldpaaDoorGrMRows
import Derived.Test.YtmaiggoinjldpaaDoorGrDigs
import Derived.Lib.QuietBelow
import Derived.Test.YtmaiggoinjldpaaDoorDRefMake
import Derived.Deep.RegionHeld3
import Derived.Test.YtmaiggoinjldpaaDoorGrTText
import Derived.Test.YtmaiggoinjldpaaDoorGrEMap
/-
  Contract of the document's Digits. No statement of the seat is proved here.
-/
namespace Go.Proofs.YtmaiggoinjldpaaDoor.Dc
open Go.RowKit

theorem ten_part (k : Nat) (h : k < 10) : (([48, 49, 50, 51, 52, 53, 54, 55, 56, 57] : List UInt8).drop k).take (k + 1 - k) = [UInt8.ofNat (48 + k)] := by
  have key : ∀ j : Fin 10, (([48, 49, 50, 51, 52, 53, 54, 55, 56, 57] : List UInt8).drop j.val).take (j.val + 1 - j.val) = [UInt8.ofNat (48 + j.val)] := by decide
  exact key ⟨k, h⟩
theorem ten_str : Str ⟨#[48, 49, 50, 51, 52, 53, 54, 55, 56, 57]⟩ [48, 49, 50, 51, 52, 53, 54, 55, 56, 57] := rfl

end Go.Proofs.YtmaiggoinjldpaaDoor.Dc

/-
  Contracts of the document's Normal and Check. No statement of the seat is proved here.
-/
namespace Go.Proofs.YtmaiggoinjldpaaDoor.Dc
open Go.RowKit

theorem made_normal (d : D) : made d.neg (val (Lib.decDigits d.c)) d.e = (nVal d, (normal d).isSome) := by
  rw [(val_decDigits d.c).1]
  unfold made nVal normal
  cases norm d.c d.e <;> rfl

/-- A variable is laid before, or behind, a call that only makes memory. -/
theorem lay1 {w w3 : World} {x y z : Value} {k : Nat} (hb : Below ((w.alloc (.cells #[x, y, z] 42)).drewN k).heap.size ((w.alloc (.cells #[x, y, z] 42)).drewN k) w3) :
    Box w3 w.heap.size 42 [x, y, z] ∧ Below w.heap.size w w3 := by
  have h1 := (Box.new w 42 [x, y, z]).same (Same.drewN _ k)
  exact ⟨h1.keep hb, below_then (((Below.refl _ _).alloc (Nat.le_refl _) _).trans (Same.below (Same.drewN _ k))) hb⟩
theorem lay2 {w w3 : World} {x y z : Value} {k : Nat} {o : List Value} (hb : Below (((w.alloc (.cells #[x, y, z] 42)).drewN k).alloc (.cells o.toArray 42)).heap.size (((w.alloc (.cells #[x, y, z] 42)).drewN k).alloc (.cells o.toArray 42)) w3) :
    Box w3 w.heap.size 42 [x, y, z] ∧ Below w.heap.size w w3 ∧ Box w3 (w.heap.size + 1) 42 o := by
  have h1 := ((Box.new w 42 [x, y, z]).same (Same.drewN _ k)).alloc (.cells o.toArray 42)
  have h2 := Box.new ((w.alloc (.cells #[x, y, z] 42)).drewN k) 42 o
  have e : ((w.alloc (.cells #[x, y, z] 42)).drewN k).heap.size = w.heap.size + 1 := size_alloc _ _
  rw [e] at h2
  have h3 : Below w.heap.size w (((w.alloc (.cells #[x, y, z] 42)).drewN k).alloc (.cells o.toArray 42)) := (((Below.refl _ _).alloc (Nat.le_refl _) _).trans (Same.below (Same.drewN _ k))).alloc (by rw [e]; omega) _
  exact ⟨h1.keep hb, below_then h3 hb, h2.keep hb⟩

end Go.Proofs.YtmaiggoinjldpaaDoor.Dc

/-
  Contract of the document's Normal. No statement of the seat is proved here.
-/
namespace Go.Proofs.YtmaiggoinjldpaaDoor.Dc
open Go.RowKit

theorem lay3 {w w3 : World} {x y z : Value} {o : List Value} {k : Nat} (hb : Below (((w.alloc (.cells #[x, y, z] 42)).alloc (.cells o.toArray 42)).drewN k).heap.size (((w.alloc (.cells #[x, y, z] 42)).alloc (.cells o.toArray 42)).drewN k) w3) :
    Box w3 w.heap.size 42 [x, y, z] ∧ Below w.heap.size w w3 ∧ Box w3 (w.heap.size + 1) 42 o := by
  have h1 := ((Box.new w 42 [x, y, z]).alloc (.cells o.toArray 42)).same (Same.drewN _ k)
  have h2 := Box.new (w.alloc (.cells #[x, y, z] 42)) 42 o
  rw [size_alloc] at h2
  have h3 : Below w.heap.size w ((w.alloc (.cells #[x, y, z] 42)).alloc (.cells o.toArray 42)) := ((Below.refl _ _).alloc (Nat.le_refl _) _).alloc (by simp) _
  exact ⟨h1.keep hb, below_then (h3.trans (Same.below (Same.drewN _ k))) hb, (h2.same (Same.drewN _ k)).keep hb⟩
theorem lay4 {w w3 : World} {x y z : Value} {o o' : List Value} {k : Nat} (hb : Below ((((w.alloc (.cells #[x, y, z] 42)).alloc (.cells o.toArray 42)).drewN k).alloc (.cells o'.toArray 42)).heap.size ((((w.alloc (.cells #[x, y, z] 42)).alloc (.cells o.toArray 42)).drewN k).alloc (.cells o'.toArray 42)) w3) :
    Box w3 w.heap.size 42 [x, y, z] ∧ Below w.heap.size w w3 ∧ Box w3 (w.heap.size + 1) 42 o ∧ Box w3 (w.heap.size + 2) 42 o' := by
  have e : (((w.alloc (.cells #[x, y, z] 42)).alloc (.cells o.toArray 42)).drewN k).heap.size = w.heap.size + 2 := by
    show ((w.alloc (.cells #[x, y, z] 42)).alloc (.cells o.toArray 42)).heap.size = _
    rw [size_alloc, size_alloc]
  have hb' : Below (((w.alloc (.cells #[x, y, z] 42)).alloc (.cells o.toArray 42)).drewN k).heap.size (((w.alloc (.cells #[x, y, z] 42)).alloc (.cells o.toArray 42)).drewN k) w3 := below_then ((Below.refl _ _).alloc (Nat.le_refl _) _) hb
  obtain ⟨h1, h2, h3⟩ := lay3 hb'
  have h4 := Box.new (((w.alloc (.cells #[x, y, z] 42)).alloc (.cells o.toArray 42)).drewN k) 42 o'
  rw [e] at h4
  exact ⟨h1, h2, h3, h4.keep hb⟩

end Go.Proofs.YtmaiggoinjldpaaDoor.Dc

/-
  Layer 7: the document's Name, Rest and Check. No statement of the seat is proved here.
-/
namespace Go.Proofs.YtmaiggoinjldpaaDoor
open Go.RowKit
open Dc (D D0)

theorem nameR_iff (l : List UInt8) : nameR l = (l.all (fun b => isOf 1 (b.toNat : Int)) && decide (1 ≤ l.length ∧ l.length ≤ 200)) := by
  rw [Bool.eq_iff_iff, Bool.and_eq_true, decide_eq_true_eq]
  unfold nameR
  rw [decide_eq_true_eq]
  constructor
  · intro h
    obtain ⟨h1, h2, h3⟩ := fault_zero h
    exact ⟨List.all_eq_true.2 h3, by omega, by omega⟩
  · rintro ⟨h1, h2, h3⟩
    have hb : bad 1 l = -1 := bad_none fun i hi => List.all_eq_true.1 h1 _ (List.getElem_mem hi)
    unfold faultOf
    rw [if_neg (by simp [isCls]), if_neg (by omega), if_neg (by omega), hb, if_neg (by omega)]

end Go.Proofs.YtmaiggoinjldpaaDoor

/-
  Layer 7: the document's Rest and Check. No statement of the seat is proved here.
-/
namespace Go.Proofs.YtmaiggoinjldpaaDoor
open Go.RowKit
open Dc (D D0)

section
variable {m : Mt} {ok : Bool}
theorem rest15 (h : nameR m.name = false) : restM m ok = 15 := by unfold restM; rw [if_pos h]
theorem rest16 (h0 : nameR m.name = true) (h : kindR m.kind = false) : restM m ok = 16 := by unfold restM; simp [h0, h]
theorem rest17 (h0 : nameR m.name = true) (h1 : kindR m.kind = true) (h : valsR ok m.vals.length = false) : restM m ok = 17 := by unfold restM; simp [h0, h1, h]
theorem rest18 (h0 : nameR m.name = true) (h1 : kindR m.kind = true) (h2 : valsR ok m.vals.length = true) (h : rateR m.kind m.rate = false) : restM m ok = 18 := by unfold restM; simp [h0, h1, h2, h]
theorem rest19 (h0 : nameR m.name = true) (h1 : kindR m.kind = true) (h2 : valsR ok m.vals.length = true) (h3 : rateR m.kind m.rate = true) (h : tagsR m.tags = false) : restM m ok = 19 := by unfold restM; simp [h0, h1, h2, h3, h]
theorem rest20 (h0 : nameR m.name = true) (h1 : kindR m.kind = true) (h2 : valsR ok m.vals.length = true) (h3 : rateR m.kind m.rate = true) (h4 : tagsR m.tags = true) (h : timeR m.time = false) : restM m ok = 20 := by unfold restM; simp [h0, h1, h2, h3, h4, h]
theorem rest0 (h0 : nameR m.name = true) (h1 : kindR m.kind = true) (h2 : valsR ok m.vals.length = true) (h3 : rateR m.kind m.rate = true) (h4 : tagsR m.tags = true) (h : timeR m.time = true) : restM m ok = 0 := by unfold restM; simp [h0, h1, h2, h3, h4, h]
end

section
variable {w : World} {s : ByteArray} {A B : Option Addr} {n k ca cb : Nat} {m : Mt}
end
end Go.Proofs.YtmaiggoinjldpaaDoor

/-
  Layer 7: the document's Check and Normal. No statement of the seat is proved here.
-/
namespace Go.Proofs.YtmaiggoinjldpaaDoor
open Go.RowKit
open Dc (D D0)

theorem okV_step {ds : List D} {i : Nat} (h : i < ds.length) : okV (ds.take (i + 1)) = (okV (ds.take i) && decide (Dc.check ds[i] = 0)) := by
  unfold okV; rw [List.take_add_one, List.getElem?_eq_getElem h, List.all_append]; simp only [Option.toList, List.all_cons, List.all_nil, Bool.and_true]
theorem hasN_step {ds : List D} {i : Nat} (h : i < ds.length) : hasN (ds.take (i + 1)) = (hasN (ds.take i) && (Dc.normal ds[i]).isSome) := by
  unfold hasN; rw [List.take_add_one, List.getElem?_eq_getElem h, List.all_append]; simp only [Option.toList, List.all_cons, List.all_nil, Bool.and_true]
theorem nVal_map {ds : List D} (h : hasN ds = true) : ds.map Dc.nVal = ds.map form :=
  List.map_congr_left fun d hd => form_nVal (List.all_eq_true.1 h d hd)
theorem nVal_step {ds : List D} {i : Nat} (h : i < ds.length) : (ds.take (i + 1)).map Dc.nVal = (ds.take i).map Dc.nVal ++ [Dc.nVal ds[i]] := by
  rw [List.take_add_one, List.getElem?_eq_getElem h]; simp only [Option.toList, List.map_append, List.map_cons, List.map_nil]
theorem grown_at {W w8 : World} {B : Nat} {el : TypeId} {size n : Nat} {v : Value} {xs : List Value} (hown : W.ownsRow B el size v n xs) (hg : W.grownBy w8 v.ownBlock) (hB : B ≤ W.heap.size) : Below B W w8 :=
  (Below.refl B W).grown hg hB fun k hk => by
    rcases hown.2 with ⟨rfl, _⟩ | ⟨g, cap, cur, rfl, h, _⟩
    · cases hk
    · injection hk with hk; subst hk; exact h

section
variable {w : World} {s : ByteArray} {A B : Option Addr} {n k ca cb : Nat} {m : Mt}
/-- Where the document's Normal stands. -/
structure RNm (w : World) (s : ByteArray) (kd : Int) (A : Option Addr) (n ca : Nat) (rt : Int) (B : Option Addr) (k cb : Nat) (tm : Int) (v : Value) (i : Nat) (ds : List D) (w' : World) : Prop where
  kept : Below w.heap.size w w'
  one : Box w' w.heap.size 26 (mC s kd A n ca rt B k cb tm)
  two : Box w' (w.heap.size + 1) 26 (mC ⟨#[]⟩ 0 none 0 0 0 none 0 0 0)
  own : w'.ownsRow (w.heap.size + 1 + 1) 42 3 v i (flatD ds)
section
variable {w1 w2 : World} {kd rt tm : Int} {v : Value} {i : Nat} {ds : List D}
theorem RNm.next (h : RNm w s kd A n ca rt B k cb tm v i ds w1) (b : Below w1.heap.size w1 w2) : RNm w s kd A n ca rt B k cb tm v i ds w2 :=
  ⟨below_then h.kept b, h.one.keep b, h.two.keep b, own_keep h.own b⟩
theorem RNm.size (h : RNm w s kd A n ca rt B k cb tm v i ds w1) : w.heap.size + 1 + 1 ≤ w1.heap.size := h.two.lt
theorem RNm.push (h : RNm w s kd A n ca rt B k cb tm v i ds w1) {v' : Value} {i' : Nat} {ds' : List D} (hg : w1.grownBy w2 v.ownBlock) (ho : w2.ownsRow (w.heap.size + 1 + 1) 42 3 v' i' (flatD ds')) : RNm w s kd A n ca rt B k cb tm v' i' ds' w2 :=
  have hb := grown_at h.own hg h.size
  ⟨h.kept.trans (hb.mono (by omega)), h.one.below hb (by omega), h.two.below hb (by omega), ho⟩
end

end
end Go.Proofs.YtmaiggoinjldpaaDoor

/-
  Layer 7: what the laws call, over what is kept: each call with its answer named. No statement of the seat is proved here.
-/
namespace Go.Proofs.YtmaiggoinjldpaaDoor
open Go.RowKit
open Dc (D D0)

section
variable {w W : World} {L : List (Nat × TypeId × List Value)} {M : List (ByteArray × Option Addr × Nat × Option Addr × Nat × Mt)}
variable {s : ByteArray} {A B : Option Addr} {n k : Nat} {m : Mt} {s' : ByteArray} {A' B' : Option Addr} {n' k' : Nat} {m' : Mt}
theorem Kb.six (h : Kb w L M W) {g : Nat} {t : TypeId} {a b c d e f : Value} (hm : (g, t, [a, b, c, d, e, f]) ∈ L) :
    W.cell? ⟨g, 0, none⟩ = some a ∧ W.cell? ⟨g, 1, none⟩ = some b ∧ W.cell? ⟨g, 2, none⟩ = some c ∧ W.cell? ⟨g, 3, none⟩ = some d ∧ W.cell? ⟨g, 4, none⟩ = some e ∧ W.cell? ⟨g, 5, none⟩ = some f :=
  ⟨h.cell hm rfl, h.cell hm rfl, h.cell hm rfl, h.cell hm rfl, h.cell hm rfl, h.cell hm rfl⟩
theorem Kb.twelve (h : Kb w L M W) {g g' : Nat} {t t' : TypeId} {a b c d e f a' b' c' d' e' f' : Value} (hm : (g, t, [a, b, c, d, e, f]) ∈ L) (hm' : (g', t', [a', b', c', d', e', f']) ∈ L) :
    W.cell? ⟨g, 0, none⟩ = some a ∧ W.cell? ⟨g, 1, none⟩ = some b ∧ W.cell? ⟨g, 2, none⟩ = some c ∧ W.cell? ⟨g, 3, none⟩ = some d ∧ W.cell? ⟨g, 4, none⟩ = some e ∧ W.cell? ⟨g, 5, none⟩ = some f ∧
      W.cell? ⟨g', 0, none⟩ = some a' ∧ W.cell? ⟨g', 1, none⟩ = some b' ∧ W.cell? ⟨g', 2, none⟩ = some c' ∧ W.cell? ⟨g', 3, none⟩ = some d' ∧ W.cell? ⟨g', 4, none⟩ = some e' ∧ W.cell? ⟨g', 5, none⟩ = some f' ∧ Kb w L M W :=
  ⟨h.cell hm rfl, h.cell hm rfl, h.cell hm rfl, h.cell hm rfl, h.cell hm rfl, h.cell hm rfl, h.cell hm' rfl, h.cell hm' rfl, h.cell hm' rfl, h.cell hm' rfl, h.cell hm' rfl, h.cell hm' rfl, h⟩
theorem Kb.of12 {P1 P2 P3 P4 P5 P6 Q1 Q2 Q3 Q4 Q5 Q6 : Prop} (h : P1 ∧ P2 ∧ P3 ∧ P4 ∧ P5 ∧ P6 ∧ Q1 ∧ Q2 ∧ Q3 ∧ Q4 ∧ Q5 ∧ Q6 ∧ Kb w L M W) : Kb w L M W := h.2.2.2.2.2.2.2.2.2.2.2.2
theorem Kb.eighteen (h : Kb w L M W) {g g' g2 : Nat} {t t' t2 : TypeId} {a b c d e f a' b' c' d' e' f' a2 b2 c2 d2 e2 f2 : Value} (hm : (g, t, [a, b, c, d, e, f]) ∈ L) (hm' : (g', t', [a', b', c', d', e', f']) ∈ L) (hm2 : (g2, t2, [a2, b2, c2, d2, e2, f2]) ∈ L) :
    W.cell? ⟨g, 0, none⟩ = some a ∧ W.cell? ⟨g, 1, none⟩ = some b ∧ W.cell? ⟨g, 2, none⟩ = some c ∧ W.cell? ⟨g, 3, none⟩ = some d ∧ W.cell? ⟨g, 4, none⟩ = some e ∧ W.cell? ⟨g, 5, none⟩ = some f ∧
      W.cell? ⟨g', 0, none⟩ = some a' ∧ W.cell? ⟨g', 1, none⟩ = some b' ∧ W.cell? ⟨g', 2, none⟩ = some c' ∧ W.cell? ⟨g', 3, none⟩ = some d' ∧ W.cell? ⟨g', 4, none⟩ = some e' ∧ W.cell? ⟨g', 5, none⟩ = some f' ∧
      W.cell? ⟨g2, 0, none⟩ = some a2 ∧ W.cell? ⟨g2, 1, none⟩ = some b2 ∧ W.cell? ⟨g2, 2, none⟩ = some c2 ∧ W.cell? ⟨g2, 3, none⟩ = some d2 ∧ W.cell? ⟨g2, 4, none⟩ = some e2 ∧ W.cell? ⟨g2, 5, none⟩ = some f2 ∧ Kb w L M W :=
  ⟨h.cell hm rfl, h.cell hm rfl, h.cell hm rfl, h.cell hm rfl, h.cell hm rfl, h.cell hm rfl, h.cell hm' rfl, h.cell hm' rfl, h.cell hm' rfl, h.cell hm' rfl, h.cell hm' rfl, h.cell hm' rfl, h.cell hm2 rfl, h.cell hm2 rfl, h.cell hm2 rfl, h.cell hm2 rfl, h.cell hm2 rfl, h.cell hm2 rfl, h⟩
theorem Kb.of18 {P1 P2 P3 P4 P5 P6 Q1 Q2 Q3 Q4 Q5 Q6 R1 R2 R3 R4 R5 R6 : Prop} (h : P1 ∧ P2 ∧ P3 ∧ P4 ∧ P5 ∧ P6 ∧ Q1 ∧ Q2 ∧ Q3 ∧ Q4 ∧ Q5 ∧ Q6 ∧ R1 ∧ R2 ∧ R3 ∧ R4 ∧ R5 ∧ R6 ∧ Kb w L M W) : Kb w L M W := h.2.2.2.2.2.2.2.2.2.2.2.2.2.2.2.2.2.2
theorem Kb.lt (h : Kb w L M W) {g : Nat} {t : TypeId} {cs : List Value} (hm : (g, t, cs) ∈ L) : g < W.heap.size := (h.box _ hm).lt
theorem Kb.check_ {x : Int} (h : Kb w L M W) (hm : (s, A, n, B, k, m) ∈ M) (z : Small m) (hx : checkM m = x) (ca cb : Nat) :
    Calls Tryd.prog 18 #[.agg #[.string s, .int .i64 m.kind, .slice A n ca, .int .i64 m.rate, .slice B k cb, .int .i64 m.time]] W fun e w' => e = .returned (.int .i64 x) ∧ Kb w L M w' := by
  have := mcheck_calls (ca := ca) (cb := cb) (h.m hm) z
  rw [hx] at this
  exact this.mono fun e w' k => ⟨k.1, h.next k.2⟩
theorem Kb.is_ {x : Bool} (h : Kb w L M W) (hm : (s, A, n, B, k, m) ∈ M) (z : Small m) (hx : isM m = x) (ca cb : Nat) :
    Calls Tryd.prog 15 #[.agg #[.string s, .int .i64 m.kind, .slice A n ca, .int .i64 m.rate, .slice B k cb, .int .i64 m.time]] W fun e w' => e = .returned (.bool x) ∧ Kb w L M w' := by
  have := mis_calls (ca := ca) (cb := cb) (h.m hm) z
  rw [hx] at this
  exact this.mono fun e w' k => ⟨k.1, h.next k.2⟩
theorem Kb.equal_ {x : Bool} (h : Kb w L M W) (hm : (s, A, n, B, k, m) ∈ M) (hm' : (s', A', n', B', k', m') ∈ M) (z : Small m) (hx : decide (m = m') = x) (ca cb ca' cb' : Nat) :
    Calls Tryd.prog 14 #[.agg #[.string s, .int .i64 m.kind, .slice A n ca, .int .i64 m.rate, .slice B k cb, .int .i64 m.time], .agg #[.string s', .int .i64 m'.kind, .slice A' n' ca', .int .i64 m'.rate, .slice B' k' cb', .int .i64 m'.time]] W fun e w' => e = .returned (.bool x) ∧ Kb w L M w' := by
  have := equal_calls (ca := ca) (cb := cb) (ca' := ca') (cb' := cb') (h.m hm) (h.m hm') z
  rw [hx] at this
  exact this.mono fun e w' k => ⟨k.1, h.next k.2⟩
theorem Kb.requal_ {x : Bool} (h : Kb w L M W) (hm : (s, A, n, B, k, m) ∈ M) (hm' : (s', A', n', B', k', m') ∈ M) (z : Small m) (hx : decide (m = m') = x) (ca cb ca' cb' : Nat) :
    Calls Tryd.prog 10 #[.agg #[.string s, .int .i64 m.kind, .slice A n ca, .int .i64 m.rate, .slice B k cb, .int .i64 m.time], .agg #[.string s', .int .i64 m'.kind, .slice A' n' ca', .int .i64 m'.rate, .slice B' k' cb', .int .i64 m'.time]] W fun e w' => e = .returned (.bool x) ∧ Kb w L M w' := by
  have := requal_calls (ca := ca) (cb := cb) (ca' := ca') (cb' := cb') (h.m hm) (h.m hm') z
  rw [hx] at this
  exact this.mono fun e w' k => ⟨k.1, h.next k.2⟩
theorem Kb.tagis_ {x : Bool} (h : Kb w L M W) (hm : (s, A, n, B, k, m) ∈ M) (z : Small m) (hx : decide (m.tags = norm m.tags) = x) (cb : Nat) :
    Calls Tryd.prog 31 #[.slice B k cb] W fun e w' => e = .returned (.bool x) ∧ Kb w L M w' := by
  have := is_calls6 (cap := cb) (h.m hm).tlen (h.m hm).tags (by have := z.tags; have := (h.m hm).tlen; omega)
  rw [hx] at this
  exact this.mono fun e w' k => ⟨k.1, h.next k.2⟩
/-- What a call of Normal leaves. -/
def NKb (w : World) (L : List (Nat × TypeId × List Value)) (M : List (ByteArray × Option Addr × Nat × Option Addr × Nat × Mt)) (m' : Mt) (x : Int) (e : Ending) (w' : World) : Prop :=
  ∃ s1 A1 n1 ca1 B1 k1 cb1, e = .returned (.tuple #[.agg #[.string s1, .int .i64 m'.kind, .slice A1 n1 ca1, .int .i64 m'.rate, .slice B1 k1 cb1, .int .i64 m'.time], .int .i64 x]) ∧ Kb w L ((s1, A1, n1, B1, k1, m') :: M) w'
end
theorem isM_no {m : Mt} (h : codeM m ≠ 0) : isM m = false := by
  unfold isM
  rw [decide_eq_false fun k => h (check_code k)]; rfl
theorem check_no {m : Mt} (h : codeM m ≠ 0) : checkM m ≠ 0 := fun k => h (check_code k)
theorem nM_nM {m : Mt} (h : codeM m = 0) : nM (nM m) = nM m := by rw [nM_ok h, nM_ok (formM_code h), formM_formM]
theorem codeM_nM {m : Mt} (h : codeM m = 0) : codeM (nM m) = 0 := by rw [nM_ok h]; exact formM_code h
theorem checkM_nM {m : Mt} (h : codeM m = 0) : checkM (nM m) = 0 := by rw [nM_ok h]; exact formM_check h
theorem isM_nM {m : Mt} (h : codeM m = 0) : isM (nM m) = true := by rw [nM_ok h]; exact isM_form h
theorem sameM_nM {m : Mt} (h : codeM m = 0) : sameM m (nM m) = true := by rw [nM_ok h]; exact sameM_form h
theorem isM_of {m : Mt} (h : checkM m = 0) : isM m = decide (m = nM m) := by rw [isM_iff, decide_eq_true h, Bool.true_and, nM_ok (check_code h)]
theorem tags_nM {m : Mt} (h : codeM m = 0) : (nM m).tags = norm (nM m).tags := by rw [nM_ok h]; exact (norm_norm m.tags).symm

/-- A law's first state: the metric lies, and is known. -/
theorem Kb.enter {w : World} {s : ByteArray} {A B : Option Addr} {n k ca cb : Nat} {m : Mt} (h : MIs w s A n B k m) :
    Kb w [(w.heap.size, 26, [.string s, .int .i64 m.kind, .slice A n ca, .int .i64 m.rate, .slice B k cb, .int .i64 m.time])] [(s, A, n, B, k, m)] (w.alloc (.cells #[.string s, .int .i64 m.kind, .slice A n ca, .int .i64 m.rate, .slice B k cb, .int .i64 m.time] 26)) :=
  ((Kb.start w).mAdd h).push _ _
/-- The world behind a metric that was laid in a block of its own. -/
theorem Kb.lay {w W : World} {L : List (Nat × TypeId × List Value)} {M : List (ByteArray × Option Addr × Nat × Option Addr × Nat × Mt)} (h : Kb w L M W) (a b c d e f : Value) :
    Kb w ((W.heap.size, 26, [a, b, c, d, e, f]) :: L) M (W.alloc (.cells #[a, b, c, d, e, f] 26)) := h.push _ _
/-! The same in a region that draws its order: in whatever world behind. -/
section
open Go.Sort
variable {w W : World} {L : List (Nat × TypeId × List Value)} {M : List (ByteArray × Option Addr × Nat × Option Addr × Nat × Mt)}
variable {s : ByteArray} {A B : Option Addr} {n k : Nat} {m : Mt} {s' : ByteArray} {A' B' : Option Addr} {n' k' : Nat} {m' : Mt}
/-- A call that answers v, in every world behind W. -/
def Qt (W : World) (f : FuncId) (args : Array Value) (v : Value) : Prop := ∀ d os, Calls Tryd.prog f args (grow (redrawn W d) os) fun e w'' => e = .returned v ∧ ∃ p : Regrown, w'' = grow (redrawn W p.d) p.os
theorem Kb.quiet {f : FuncId} {args : Array Value} {v : Value} (h : Kb w L M W) (c : ∀ W', Kb w L M W' → Calls Tryd.prog f args W' fun e w' => e = .returned v ∧ Below W'.heap.size W' w') : Qt W f args v :=
  fun d os => Calls.regrown_of (c _ (h.next (below_regrown W d os)))
theorem Kb.checkq {x : Int} (h : Kb w L M W) (hm : (s, A, n, B, k, m) ∈ M) (z : Small m) (hx : checkM m = x) (ca cb : Nat) :
    Qt W 18 #[.agg #[.string s, .int .i64 m.kind, .slice A n ca, .int .i64 m.rate, .slice B k cb, .int .i64 m.time]] (.int .i64 x) := h.quiet fun W' h' => by
  have := mcheck_calls (ca := ca) (cb := cb) (h'.m hm) z
  rw [hx] at this; exact this
theorem Kb.isq {x : Bool} (h : Kb w L M W) (hm : (s, A, n, B, k, m) ∈ M) (z : Small m) (hx : isM m = x) (ca cb : Nat) :
    Qt W 15 #[.agg #[.string s, .int .i64 m.kind, .slice A n ca, .int .i64 m.rate, .slice B k cb, .int .i64 m.time]] (.bool x) := h.quiet fun W' h' => by
  have := mis_calls (ca := ca) (cb := cb) (h'.m hm) z
  rw [hx] at this; exact this
theorem Kb.tagisq {x : Bool} (h : Kb w L M W) (hm : (s, A, n, B, k, m) ∈ M) (z : Small m) (hx : decide (m.tags = norm m.tags) = x) (cb : Nat) :
    Qt W 31 #[.slice B k cb] (.bool x) := h.quiet fun W' h' => by
  have := is_calls6 (cap := cb) (h'.m hm).tlen (h'.m hm).tags (by have := z.tags; have := (h'.m hm).tlen; omega)
  rw [hx] at this; exact this
theorem Kb.equalq {x : Bool} (h : Kb w L M W) (hm : (s, A, n, B, k, m) ∈ M) (hm' : (s', A', n', B', k', m') ∈ M) (z : Small m) (hx : decide (m = m') = x) (ca cb ca' cb' : Nat) :
    Qt W 14 #[.agg #[.string s, .int .i64 m.kind, .slice A n ca, .int .i64 m.rate, .slice B k cb, .int .i64 m.time], .agg #[.string s', .int .i64 m'.kind, .slice A' n' ca', .int .i64 m'.rate, .slice B' k' cb', .int .i64 m'.time]] (.bool x) := h.quiet fun W' h' => by
  have := equal_calls (ca := ca) (cb := cb) (ca' := ca') (cb' := cb') (h'.m hm) (h'.m hm') z
  rw [hx] at this; exact this
theorem Kb.requalq {x : Bool} (h : Kb w L M W) (hm : (s, A, n, B, k, m) ∈ M) (hm' : (s', A', n', B', k', m') ∈ M) (z : Small m) (hx : decide (m = m') = x) (ca cb ca' cb' : Nat) :
    Qt W 10 #[.agg #[.string s, .int .i64 m.kind, .slice A n ca, .int .i64 m.rate, .slice B k cb, .int .i64 m.time], .agg #[.string s', .int .i64 m'.kind, .slice A' n' ca', .int .i64 m'.rate, .slice B' k' cb', .int .i64 m'.time]] (.bool x) := h.quiet fun W' h' => by
  have := requal_calls (ca := ca) (cb := cb) (ca' := ca') (cb' := cb') (h'.m hm) (h'.m hm') z
  rw [hx] at this; exact this
/-- Six cells, in every world behind. -/
theorem Kb.sixq (h : Kb w L M W) {g : Nat} {t : TypeId} {a b c d e f : Value} (hm : (g, t, [a, b, c, d, e, f]) ∈ L) :
    (∀ x os, (grow (redrawn W x) os).cell? ⟨g, 0, none⟩ = some a) ∧ (∀ x os, (grow (redrawn W x) os).cell? ⟨g, 1, none⟩ = some b) ∧ (∀ x os, (grow (redrawn W x) os).cell? ⟨g, 2, none⟩ = some c) ∧ (∀ x os, (grow (redrawn W x) os).cell? ⟨g, 3, none⟩ = some d) ∧ (∀ x os, (grow (redrawn W x) os).cell? ⟨g, 4, none⟩ = some e) ∧ (∀ x os, (grow (redrawn W x) os).cell? ⟨g, 5, none⟩ = some f) :=
  ⟨cell_regrown (h.cell hm rfl), cell_regrown (h.cell hm rfl), cell_regrown (h.cell hm rfl), cell_regrown (h.cell hm rfl), cell_regrown (h.cell hm rfl), cell_regrown (h.cell hm rfl)⟩
end
end Go.Proofs.YtmaiggoinjldpaaDoor

/-
  A metric and a Fault are returned. No statement of the seat is proved here.
-/
namespace Go.Proofs.YtmaiggoinjldpaaDoor
open Go.RowKit
open Dc (D D0)

theorem results_cell_cell {fn : Func} {p u : Tmp} {tp tu : TypeId} (h : fn.results = #[.cell p tp, .cell u tu]) (tmps : Array Value) (w : World) :
    (results fn tmps).run Tryd.prog w = ((asAddr (tmps.getD p undef)).run Tryd.prog w).andThen fun a w1 => ((loadVar tp a).run Tryd.prog w1).andThen fun v w2 => ((asAddr (tmps.getD u undef)).run Tryd.prog w2).andThen fun b w3 => ((loadVar tu b).run Tryd.prog w3).andThen fun x w4 => .ok (.tuple #[v, x]) w4 := by
  simp only [results, h]
  simp [Sem.run_bind, Result.andThen]
/-- A metric and a Fault are returned. -/
theorem ret_mf {fn : Func} {p u : Tmp} (hres : fn.results = #[.cell p 26, .cell u 29]) {R : Ending → World → Prop} {A : Act} {w : World} {g g' : Nat} {a b c d e f x y : Value}
    (hp : A.tmps.getD p undef = .pointer (some ⟨g, 0, none⟩)) (hu : A.tmps.getD u undef = .pointer (some ⟨g', 0, none⟩)) (hd : A.defers = [])
    (hb : Box w g 26 [a, b, c, d, e, f]) (hf : Box w g' 29 [x, y]) (hR : R (.returned (.tuple #[.agg #[a, b, c, d, e, f], .agg #[x, y]])) w) : bodyPost Tryd.prog fn R .ret A w := by
  refine bodyPost_ret ?_ hd hR
  rw [results_cell_cell hres, hp, addr_is]
  simp only [Result.andThen]
  rw [load_met hb]
  simp only []
  rw [hu, addr_is]
  simp only []
  rw [load_fault hf]
/-- The metric and the Fault, as they are stored into the two blocks of what is returned. -/
theorem putMF_is {w : World} {g g' : Nat} {s s' : ByteArray} {kd kd' rt rt' tm tm' : Int} {A0 B0 A1 B1 : Option Addr} {n0 ca0 k0 cb0 n1 ca1 k1 cb1 : Nat} {x0 y0 : Value} (hne : g ≠ g') (hb : Box w g 26 (mC s kd A0 n0 ca0 rt B0 k0 cb0 tm)) (hf : Box w g' 29 [x0, y0]) (x y : Value) :
    Box (((putM w g s' kd' A1 n1 ca1 rt' B1 k1 cb1 tm').setCell ⟨g', 0, none⟩ x).setCell ⟨g', 1, none⟩ y) g 26 (mC s' kd' A1 n1 ca1 rt' B1 k1 cb1 tm') ∧
      Box (((putM w g s' kd' A1 n1 ca1 rt' B1 k1 cb1 tm').setCell ⟨g', 0, none⟩ x).setCell ⟨g', 1, none⟩ y) g' 29 [x, y] := by
  have hm := putM_is (s' := s') (kd' := kd') (rt' := rt') (tm' := tm') (A1 := A1) (B1 := B1) (n1 := n1) (ca1 := ca1) (k1 := k1) (cb1 := cb1) hb
  have hf2 : Box (putM w g s' kd' A1 n1 ca1 rt' B1 k1 cb1 tm') g' 29 [x0, y0] := by
    unfold putM
    exact (((((hf.far (q := ⟨g, 0, none⟩) hne.symm _).far (q := ⟨g, 1, none⟩) hne.symm _).far (q := ⟨g, 2, none⟩) hne.symm _).far (q := ⟨g, 3, none⟩) hne.symm _).far (q := ⟨g, 4, none⟩) hne.symm _).far (q := ⟨g, 5, none⟩) hne.symm _
  exact ⟨(hm.far (q := ⟨g', 0, none⟩) hne _).far (q := ⟨g', 1, none⟩) hne _, (hf2.set 0 x).set 1 y⟩
end Go.Proofs.YtmaiggoinjldpaaDoor

/-
  expr.Metric, and the document's. No statement of the seat is proved here.
-/
namespace Go.Proofs.YtmaiggoinjldpaaDoor
open Go.RowKit
open Dc (D D0)

/-- A number that fits. -/
def WfI (f : Int) : Prop := (Lit.int .i64 f).wf = true

theorem can_enter (f : Int) : ∀ args w, (callFunc (fnOf f) args).run Tryd.prog w = .ok (.enter (fnOf f) args) w := by
  intro args w
  unfold fnOf
  split
  · kernel_rfl
  · split
    · kernel_rfl
    · kernel_rfl

section
variable {w : World} {s : ByteArray} {A B : Option Addr} {n k ca cb : Nat} {m : Mt}
set_option maxRecDepth 100000 in
set_option maxHeartbeats 4000000 in
theorem emetric_calls (h : MIs w s A n B k m) (z : Small m) {f : Int} (hf : WfI f) : Calls Tryd.prog 13 #[.agg #[.string s, .int .i64 m.kind, .slice A n ca, .int .i64 m.rate, .slice B k cb, .int .i64 m.time], .int .i64 f] w fun e w' => e = .returned (.int .i64 (metricE m f)) ∧ Below w.heap.size w w' := by
  obtain ⟨q, hq⟩ : ∃ q, metricE m f = q := ⟨_, rfl⟩
  rw [hq]
  obtain ⟨kn, hkn⟩ : ∃ x, known f = x := ⟨_, rfl⟩
  obtain ⟨c, hc⟩ : ∃ x, checkM m = x := ⟨_, rfl⟩
  obtain ⟨y, hy⟩ : ∃ x, saysM m f = x := ⟨_, rfl⟩
  unfold metricE at hq
  rw [hkn, hc, hy] at hq
  have HQ := Lib.hid hq
  have HY := Lib.hid (And.intro hkn (And.intro hc (And.intro hy hf)))
  have HB := Lib.hid (Kb.enter (ca := ca) (cb := cb) h)
  have HZ := Lib.hid z
  clear hq hkn hc hy h z hf
  go_enter Tryd.func13, Tryd.ntmps13
  go_wp2_with fail
  refine (questions_calls _).mono ?_
  rintro e w1 ⟨b, rfl, hown, hb⟩
  obtain ⟨v, hl, hv⟩ := look_ok hown HY.out.2.2.2
  rw [HY.out.1] at hl hv
  have HB1 := Lib.hid (HB.out.next hb)
  obtain ⟨c0, c1, c2, c3, c4, c5⟩ := HB1.out.six (.head _)
  have HV := Lib.hid hv
  clear hb hown hv HB
  cases kn
  · have HE := Lib.hid (show q = 29 by rw [← HQ.out]; rfl)
    go_wp2_with fail
    go_ret
    exact ⟨by rw [HE.out]; first | done | rfl, HB1.out.kept⟩
  · obtain rfl := HV.out rfl
    go_wp2_with fail
    refine (HB1.out.check_ (.head _) HZ.out HY.out.2.1 _ _).mono ?_
    rintro e w2 ⟨rfl, hb⟩
    have HB2 := Lib.hid hb
    clear hb HB1 hl c0 c1 c2 c3 c4 c5
    obtain ⟨c0, c1, c2, c3, c4, c5⟩ := HB2.out.six (.head _)
    by_cases hc0 : c = 0
    · subst hc0
      have HC := Lib.hid (can_calls (ca := ca) (cb := cb) (HB2.out.m (.head _)) f)
      rw [HY.out.2.2.1] at HC
      go_wp2_with fail
      rw [can_enter]
      refine HC.out.mono ?_
      rintro e w3 ⟨rfl, hb⟩
      have HB3 := Lib.hid (HB2.out.next hb)
      clear hb HB2 HC c0 c1 c2 c3 c4 c5
      cases y
      · have HE := Lib.hid (show q = 26 by rw [← HQ.out]; rfl)
        go_wp2_with fail
        go_ret
        exact ⟨by rw [HE.out]; first | done | rfl, HB3.out.kept⟩
      · have HE := Lib.hid (show q = 0 by rw [← HQ.out]; rfl)
        go_wp2_with fail
        go_ret
        exact ⟨by rw [HE.out]; first | done | rfl, HB3.out.kept⟩
    · have HE := Lib.hid (show q = c by rw [← HQ.out]; simp [hc0])
      have hq : (c != 0) = true := by simpa using hc0
      go_wp2_with fail
      go_ret
      exact ⟨by rw [HE.out]; first | done | rfl, HB2.out.kept⟩

end
end Go.Proofs.YtmaiggoinjldpaaDoor
