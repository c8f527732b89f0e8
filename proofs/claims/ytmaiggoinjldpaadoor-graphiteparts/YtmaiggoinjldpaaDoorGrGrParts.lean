/-
  GrParts, GrParse. No statement of the seat is proved here.
-/
import Derived.RangeFuncNested
import Derived.RangeFuncBound
import Derived.RangeFuncCalls
import Derived.RangeFuncLeaves
import Derived.RangeFuncBox
import Derived.Shelf.Abstract
import Derived.Shelf.RegionOpen
import Derived.WalkKit
import Derived.OwnWalkIn
import Derived.TacticsInMore
import Derived.LoopNIn
import Derived.LoopIn
import Derived.Test.YtmaiggoinjldpaaDoorSdRes
import Derived.Test.YtmaiggoinjldpaaDoorTCut
import Derived.Test.YtmaiggoinjldpaaDoorGrSdRef
import Derived.Test.YtmaiggoinjldpaaDoorGrNPut
import Derived.WalkMore
import Derived.RegionTactic
import Derived.ChangeAlike
import Derived.BigRegion
/-
  graphite.parts: the iterator over a line's parts, for every loop body. No statement of the seat is proved here.
-/
namespace Go.Proofs.YtmaiggoinjldpaaDoor
open Go.RowKit Go.Shelf

attribute [local go_sem] Oper.semAt_some

theorem cutP_at {l : List UInt8} {n b : Nat} {c : UInt8} (hn : n ≤ l.length) (hb : findB l n c = b) : (cutC c (l.drop n)).1 = btw l n b ∧ decide (c ∈ l.drop n) = decide (b < l.length) := by
  obtain ⟨h1, h2, h3, h4⟩ := cut_find hn hb
  unfold btw
  rw [← h3]
  rcases cutB_cases c (l.drop n) with ⟨hm, e⟩ | ⟨p, r, hm, e1, e⟩
  · rw [e, cut_no hm]
    rw [e] at h4
    rcases h4 with ⟨h4, _⟩ | ⟨_, h5, _⟩
    · exact ⟨rfl, by rw [decide_eq_false hm, decide_eq_false (by omega)]⟩
    · cases h5
  · rw [e] at h4
    rcases h4 with ⟨_, h5, _⟩ | ⟨h4, _⟩
    · cases h5
    · rw [e]
      refine ⟨by rw [e1, cut_at hm], ?_⟩
      rw [decide_eq_true h4, decide_eq_true (by rw [e1]; simp)]

theorem grownBy_setCellI (W : World) (b i : Nat) (v : Value) : W.grownBy (W.setCell ⟨b, i, none⟩ v) (some b) :=
  ⟨rfl, rfl, rfl, (KeepsWalks.setCell W _ v).size, fun k _ hk => Below.heap_setCell _ _ _ k (fun e => hk (by rw [e]))⟩
theorem boxq_own {W W' : World} {g : Nat} {t : TypeId} {cs : List Value} {row : Option Nat} (h : Box W g t cs) (hg : W.grownBy W' row) (hr : ∀ r, row = some r → ∃ o : Obj, W.heap[r]? = some o ∧ o.isCells = false) : Box W' g t cs := by
  refine (hg.block g h.lt fun e => ?_).trans h
  obtain ⟨o, ho, hc⟩ := hr g e.symm
  unfold Box at h
  rw [h] at ho
  injection ho with ho
  subst ho
  cases hc
theorem grown_all {W W' : World} (h : Below W.heap.size W W') : W.grownBy W' none := ⟨h.os, h.tape, h.output, h.size, fun k hk _ => h.block k hk⟩

/-- A part of a line: its place, and its text as it is handed on. -/
abbrev Pt (l : List UInt8) := { x : Nat × ByteArray // x.1 ≤ l.length ∧ Str x.2 (btw l x.1 (findB l x.1 32)) }
/-- The place of each part. -/
def plc (l : List UInt8) : Nat → Nat
  | 0 => 0
  | n + 1 => findB l (plc l n) 32 + 1
theorem plc_ge (l : List UInt8) : ∀ n, plc l n ≤ l.length → n ≤ plc l n
  | 0, _ => Nat.zero_le _
  | n + 1, h => by
    unfold plc at h ⊢
    have hf : findB l (plc l n) 32 + 1 ≤ l.length := h
    by_cases hn : plc l n ≤ l.length
    · have h1 := plc_ge l n hn
      have h2 := (findB_le l hn 32).1
      omega
    · exfalso
      have : plc l n ≤ findB l (plc l n) 32 := Nat.le_add_right _ _
      omega
/-- The first ones, in order. -/
def Prts (l : List UInt8) (xs : List (Pt l)) : Prop := ∀ (i : Nat) x, xs[i]? = some x → x.1.1 = plc l i
theorem Prts.nil (l : List UInt8) : Prts l [] := fun i x h => by simp at h
theorem Prts.push {l : List UInt8} {xs : List (Pt l)} (h : Prts l xs) {x : Pt l} (hx : x.1.1 = plc l xs.length) : Prts l (xs ++ [x]) := fun i y hy => by
  rcases Nat.lt_or_ge i xs.length with hlt | hge
  · rw [List.getElem?_append_left hlt] at hy; exact h i y hy
  · rw [List.getElem?_append_right hge] at hy
    have h0 : i - xs.length = 0 := by
      rcases Nat.eq_zero_or_pos (i - xs.length) with h0 | h0
      · exact h0
      · rw [List.getElem?_eq_none (by show 1 ≤ _; omega)] at hy; cases hy
    rw [h0] at hy
    injection hy with hy
    subst hy
    rw [hx]
    congr 1
    omega
/-- All of them. -/
def PrtsAll (l : List UInt8) (xs : List (Pt l)) : Prop := Prts l xs ∧ ∃ n, xs.length = n + 1 ∧ findB l (plc l n) 32 = l.length

/-- What a round is handed. -/
def encP {l : List UInt8} (x : Pt l) : Array Value := #[.int .i64 (x.1.1 : Int), .string x.1.2]
/-- What a round that goes on keeps: what lies below n, and the block of the line. -/
def KpP (n B : Nat) (s : ByteArray) (W W' : World) : Prop := Below n W W' ∧ (Boxed W B 9 (.string s) → Boxed W' B 9 (.string s))
theorem KpP.trans {n B : Nat} {s : ByteArray} {X Y Z : World} (h : KpP n B s X Y) (k : KpP n B s Y Z) : KpP n B s X Z := ⟨h.1.trans k.1, fun b => k.2 (h.2 b)⟩
theorem KpP.refl (n B : Nat) (s : ByteArray) (W : World) : KpP n B s W W := ⟨Below.refl _ _, id⟩
theorem KpP.below {n B : Nat} {s : ByteArray} {W W' : World} (hn : n ≤ W.heap.size) (h : Below W.heap.size W W') : KpP n B s W W' :=
  ⟨h.mono hn, fun b => (h.block B b.lt).trans b⟩
theorem KpP.set {n B b i : Nat} {s : ByteArray} {W : World} (hn : n ≤ b) (hb : b ≠ B) (v : Value) : KpP n B s W (W.setCell ⟨b, i, none⟩ v) :=
  ⟨(Below.refl n W).setCell (p := ⟨b, i, none⟩) hn v, fun h => h.kept (grownBy_setCellI W b i v) (by intro e; injection e with e; exact hb e.symm)⟩
theorem KpP.other {w : World} {n B : Nat} {s : ByteArray} (hn : n ≤ w.heap.size) (W : World) (l : Nat) (o o' : Obj) (hl : w.heap.size ≤ l) (h : W.heap[l]? = some o) (hc : o.isCells = false) (hw : o.isWalk = false) : KpP n B s W (W.putObj l o') :=
  ⟨belowK_b hn W l o o' hl h hc hw, fun b => boxq_own (cs := [_]) b (grownBy_putObj' W l o') (fun r e => by cases e; exact ⟨_, h, hc⟩)⟩

set_option maxRecDepth 100000 in
set_option maxHeartbeats 2000000 in
theorem parts1_in {l : List UInt8} {s : ByteArray} {w0 : World} (hs : Str s l) (hl : l.length ≤ 9000) (n : Nat) (hn : 1 ≤ n) (lp Bs : Nat) (J Jx : List (Pt l) → World → Prop) (W : World) (hJ : AbidesFrom W.heap.size J)
    (hY : ∀ pre x W, J pre W → pre.length < l.length + 1 → YieldAt Fence.wide (n - 1) Tryd.prog lp (encP x) W fun e W' =>
      (e = .returned (.bool true) ∧ J (pre ++ [x]) W' ∧ KpP w0.heap.size Bs s W W') ∨ (e = .returned (.bool false) ∧ Jx (pre ++ [x]) W'))
    (hB : Boxed W Bs 9 (.string s)) (h0 : J [] W) :
    CallsIn Fence.wide n Tryd.prog 41 #[.func (.yield lp) #[] #[], .pointer (some ⟨Bs, 0, none⟩)] W fun e W' => (∃ v, e = .returned v) ∧
      ((∃ ys, PrtsAll l ys ∧ J ys W') ∨ (∃ pre, Prts l pre ∧ Jx pre W')) := by
  refine callsIn_of_wp Tryd.func41 rfl trivial ?_ rfl
  simp only [Tryd.ntmps41, List.size_toArray, List.length_cons, List.length_nil, Nat.reduceAdd, Nat.reduceSub, Array.replicate_succ, Array.replicate_zero, List.push_toArray, List.append_toArray, List.nil_append, List.cons_append]
  have HJ := Lib.hid hJ
  have HY := Lib.hid hY
  have HS := Lib.hid hs
  have HB := Lib.hid (And.intro hB h0)
  have gl : (l.length : Int) ≤ 9000 := by omega
  clear hJ hY hs hB h0
  gi_wp2
  gi_loopw [3, 4] (fun a m wr => ∃ (p : Nat) (b : Bool), a = .int .i64 p ∧ m = .bool b ∧ p ≤ l.length + 1 ∧ (b = true → p ≤ l.length) ∧
      Hid (∃ pre : List (Pt l), p = plc l pre.length ∧ Prts l pre ∧ J pre wr ∧ Boxed wr Bs 9 (.string s) ∧ (b = false → PrtsAll l pre)))
    (fun a _ _ => l.length + 2 - (intOf a).toNat)
  case atStart => exact ⟨0, true, rfl, rfl, Nat.zero_le _, fun _ => Nat.zero_le _, Lib.hid ⟨[], rfl, Prts.nil l, HB.out.2, HB.out.1, fun h => by cases h⟩⟩
  case round =>
    obtain ⟨p, b, rfl, rfl, hp1, hpb, hrel⟩ := hrel
    cases b
    · gi_wp2
      go_end0
      obtain ⟨pre, _, _, hj, _, hall⟩ := hrel.out
      exact ⟨⟨_, rfl⟩, .inl ⟨pre, hall (by simp), hj⟩⟩
    · obtain ⟨pre, hpp, hpr, hj, hbx, _⟩ := hrel.out
      have hpl := hpb rfl
      obtain ⟨t, ht, hcut⟩ := HS.out.from_ (i := (p : Int)) p rfl hpl
      have hc := hbx.cell
      obtain ⟨e, he⟩ : ∃ e, findB l p 32 = e := ⟨_, rfl⟩
      have hle := findB_le l hpl 32
      rw [he] at hle
      obtain ⟨k1, k2⟩ := cutP_at hpl he
      have htz : (t.size : Int) ≤ 100000 := by rw [ht.size, List.length_drop]; omega
      have HC := Lib.hid (fun W => cut_calls ht htz 32 W)
      have HK := Lib.hid (And.intro hpp (And.intro hpr (And.intro hj (And.intro hbx (And.intro he (And.intro k1 k2))))))
      have gp : (0 : Int) ≤ (p : Int) := by omega
      clear hrel hpp hpr hj hbx he k1 k2 ht htz hp1 hpb HB
      gi_wp2_with fail
      refine ⟨trivial, ?_⟩
      refine (callsIn_wide.2 (HC.out _)).mono ?_
      rintro e1 w1 ⟨⟨a, r, rfl, ha, _⟩, hk⟩
      obtain ⟨hpp, hpr, hj, hbx, he, k1, k2⟩ := HK.out
      rw [k1] at ha
      rw [k2]
      have hJ1 := HJ.out pre _ w1 none hj (grown_all hk) (fun r e => by cases e)
      have hbx1 : Boxed w1 Bs 9 (.string s) := hbx.kept (grown_all hk) (by simp)
      have hlen : pre.length < l.length + 1 := by have := plc_ge l pre.length (by omega); omega
      obtain ⟨x, hx1, hx2⟩ : ∃ x : Pt l, x.1.1 = p ∧ x.1.2 = a := ⟨⟨(p, a), hpl, by rw [he]; exact ha⟩, rfl, rfl⟩
      have hY1 := HY.out pre x w1 hJ1 hlen
      unfold encP at hY1
      rw [hx1, hx2] at hY1
      obtain ⟨fn, tmps, assign, body, hy, hR⟩ := hY1
      have haz : (a.size : Int) = (e : Int) - (p : Int) := by rw [ha.size, btw_len hle.1 hle.2]; omega
      have HK2 := Lib.hid (And.intro hpp (And.intro hpr (And.intro he (And.intro hx1 hbx1))))
      obtain ⟨q, hq⟩ : ∃ q, decide (e < l.length) = q := ⟨_, rfl⟩
      rw [hq]
      have HQ := Lib.hid hq
      clear hpp hpr hj hbx he k1 k2 ha hk hJ1 hbx1 hlen hq HK HC hc hcut hx1 hx2
      gi_wp2_with fail
      refine hR.mono ?_
      rintro e2 W3 (⟨rfl, hJ3, hk3⟩ | ⟨rfl, hJx3⟩)
      · have hpush : Prts l (pre ++ [x]) := HK2.out.2.1.push (HK2.out.2.2.2.1.trans HK2.out.1)
        have hnext : e + 1 = plc l (pre ++ [x]).length := by
          rw [List.length_append]
          show _ = findB l (plc l pre.length) 32 + 1
          rw [← HK2.out.1, HK2.out.2.2.1]
        have HN := Lib.hid (And.intro hpush (And.intro hnext (And.intro hJ3 (hk3.2 HK2.out.2.2.2.2))))
        clear hpush hnext hJ3 hk3
        gi_wp2
        go_roundw
        case rel =>
          refine ⟨e + 1, q, by congr 1; omega, rfl, by omega, fun h => ?_, Lib.hid ⟨_, HN.out.2.1, HN.out.1, HN.out.2.2.1, HN.out.2.2.2, fun h => ⟨HN.out.1, pre.length, by simp, ?_⟩⟩⟩
          · have := of_decide_eq_true (HQ.out.trans h); omega
          · have := of_decide_eq_false (HQ.out.trans h)
            rw [← HK2.out.1, HK2.out.2.2.1]
            omega
        case measure => simp [intOf]; omega
      · have hpush : Prts l (pre ++ [x]) := HK2.out.2.1.push (HK2.out.2.2.2.1.trans HK2.out.1)
        have HN := Lib.hid (And.intro hpush hJx3)
        clear hpush hJx3
        gi_wp2
        refine bodyPost_ret (results_none rfl _ _ _) rfl ?_
        exact ⟨⟨_, rfl⟩, .inr ⟨_, HN.out.1, HN.out.2⟩⟩

set_option maxHeartbeats 1000000 in
theorem parts_in (n : Nat) (s : ByteArray) (w : World) :
    CallsIn Fence.wide n Tryd.prog 19 #[.string s] w fun e w' => e = .returned (.func (.func 41) #[] #[.pointer (some ⟨w.heap.size, 0, none⟩)]) ∧ w' = w.alloc (.cells #[.string s] 9) := by
  refine callsIn_of_wp Tryd.func19 rfl trivial ?_ rfl
  simp only [Tryd.ntmps19, List.size_toArray, List.length_cons, List.length_nil, Nat.reduceAdd, Nat.reduceSub, Array.replicate_succ, Array.replicate_zero, List.push_toArray, List.append_toArray, List.nil_append, List.cons_append]
  gi_wp2
  go_ret
  exact ⟨rfl, rfl⟩

/-- parts(s) hands back a value that tells the line's parts, in order, whatever the body does that keeps what was there, and the line's block. -/
theorem parts_stops {l : List UInt8} {s : ByteArray} {w0 : World} (hs : Str s l) (hl : l.length ≤ 9000) (n : Nat) (hn : 1 ≤ n) (Bs : Nat) (w : World) (hB : Boxed w Bs 9 (.string s)) :
    SeqStopsK Fence.wide n Tryd.prog 41 #[.pointer (some ⟨Bs, 0, none⟩)] (encP (l := l)) (KpP w0.heap.size Bs s) (PrtsAll l) (Prts l) (l.length + 1) w := fun lp J Jx W hW hJ _ hY h0 =>
  parts1_in hs hl n hn lp Bs J Jx W hJ hY ((hW.block Bs hB.lt).trans hB) h0
end Go.Proofs.YtmaiggoinjldpaaDoor

/-
  Package graphite: Parse, a labelled loop over an iterator. No statement of the seat is proved here.
-/
namespace Go.Proofs.YtmaiggoinjldpaaDoor
open Go.RowKit Go.Shelf
open Dc (D D0)

attribute [local go_sem] Oper.semAt_some

section
variable {l : List UInt8}
/-- A part's bytes. -/
def pt (x : Pt l) : List UInt8 := btw l x.1.1 (findB l x.1.1 32)
theorem plc_le (l : List UInt8) (n : Nat) : plc l n ≤ plc l (n + 1) := by
  show plc l n ≤ findB l (plc l n) 32 + 1
  have : plc l n ≤ findB l (plc l n) 32 := Nat.le_add_right _ _
  omega
theorem gr_end0 (hn : nameR (btw l 0 (findB l 0 32)) = true) (he : findB l 0 32 = l.length) : parseG l = failS 11 l.length := by
  rw [parseG_num rfl, hn, he, if_neg (by decide), if_pos rfl]
theorem gr_1 (hn : nameR (btw l 0 (findB l 0 32)) = true) (h1 : plc l 1 ≤ l.length) : parseG l =
    if (Dc.parse (btw l (plc l 1) (findB l (plc l 1) 32))).2.1 ≠ 0 then failS 17 (plc l 1) else if findB l (plc l 1) 32 = l.length then failS 11 l.length else timeG (plc l 2) (btw l 0 (findB l 0 32)) (Dc.parse (btw l (plc l 1) (findB l (plc l 1) 32))).1 (l.drop (plc l 2)) := by
  have h1 : findB l 0 32 + 1 ≤ l.length := h1
  rw [parseG_num rfl, hn, if_neg (by decide), if_neg (by omega), valueG_num h1 rfl]
  rfl
theorem gr_2 {d : D} (hn : nameR (btw l 0 (findB l 0 32)) = true) (h2 : plc l 2 ≤ l.length) (hd : Dc.parse (btw l (plc l 1) (findB l (plc l 1) 32)) = (d, 0, 0)) : parseG l =
    if (parsed (btw l (plc l 2) (findB l (plc l 2) 32)) 1 1099511627776).2.1 ≠ 0 then failS 20 (plc l 2) else if findB l (plc l 2) 32 = l.length then (oneG (btw l 0 (findB l 0 32)) d (parsed (btw l (plc l 2) (findB l (plc l 2) 32)) 1 1099511627776).1, 0, 0) else failS 11 (findB l (plc l 2) 32) := by
  have h2 : findB l (plc l 1) 32 + 1 ≤ l.length := h2
  have h1 : plc l 1 ≤ plc l 2 := plc_le l 1
  have h12 : plc l 2 = findB l (plc l 1) 32 + 1 := rfl
  rw [gr_1 hn (by omega), hd, if_neg (by simp), if_neg (by omega)]
  show timeG (findB l (plc l 1) 32 + 1) _ d (l.drop (findB l (plc l 1) 32 + 1)) = _
  rw [timeG_num h2 rfl]
  rfl

/-- The fault that is told behind some parts, the last one of which is wrong. -/
def GrW : List (Pt l) → Int → Int → Prop
  | [x0], c, a => nameR (pt x0) = false ∧ c = 15 ∧ a = x0.1.1
  | [x0, x1], c, a => nameR (pt x0) = true ∧ (Dc.parse (pt x1)).2.1 ≠ 0 ∧ c = 17 ∧ a = x1.1.1
  | [x0, x1, x2], c, a => nameR (pt x0) = true ∧ (∃ d, Dc.parse (pt x1) = (d, 0, 0)) ∧ (parsed (pt x2) 1 1099511627776).2.1 ≠ 0 ∧ c = 20 ∧ a = x2.1.1
  | [x0, x1, x2, x3], c, a => nameR (pt x0) = true ∧ (∃ d, Dc.parse (pt x1) = (d, 0, 0)) ∧ (∃ t, parsed (pt x2) 1 1099511627776 = (t, 0, 0)) ∧ c = 11 ∧ a = x3.1.1 - 1
  | _, _, _ => False
theorem grw_is {pre : List (Pt l)} {c a : Int} (hp : Prts l pre) (h : GrW pre c a) : ∃ n : Nat, a = n ∧ parseG l = failS c n ∧ c ≠ 0 := by
  match pre, h with
  | [x0], h =>
    obtain ⟨h1, rfl, rfl⟩ := h
    have e0 : x0.1.1 = 0 := hp 0 x0 rfl
    refine ⟨_, rfl, ?_, by decide⟩
    unfold pt at h1
    rw [e0] at h1 ⊢
    rw [parseG_num rfl, if_pos h1]
  | [x0, x1], h =>
    obtain ⟨h1, h2, rfl, rfl⟩ := h
    have e0 : x0.1.1 = 0 := hp 0 x0 rfl
    have e1 : x1.1.1 = plc l 1 := hp 1 x1 rfl
    have b1 := x1.2.1
    refine ⟨_, rfl, ?_, by decide⟩
    unfold pt at h1 h2
    rw [e0] at h1
    rw [e1] at h2 b1 ⊢
    rw [gr_1 h1 b1, if_pos h2]
  | [x0, x1, x2], h =>
    obtain ⟨h1, ⟨d, h2⟩, h3, rfl, rfl⟩ := h
    have e0 : x0.1.1 = 0 := hp 0 x0 rfl
    have e1 : x1.1.1 = plc l 1 := hp 1 x1 rfl
    have e2 : x2.1.1 = plc l 2 := hp 2 x2 rfl
    have b2 := x2.2.1
    refine ⟨_, rfl, ?_, by decide⟩
    unfold pt at h1 h2 h3
    rw [e0] at h1
    rw [e1] at h2
    rw [e2] at h3 b2 ⊢
    rw [gr_2 h1 b2 h2, if_pos h3]
  | [x0, x1, x2, x3], h =>
    obtain ⟨h1, ⟨d, h2⟩, ⟨t, h3⟩, rfl, rfl⟩ := h
    have e0 : x0.1.1 = 0 := hp 0 x0 rfl
    have e1 : x1.1.1 = plc l 1 := hp 1 x1 rfl
    have e2 : x2.1.1 = plc l 2 := hp 2 x2 rfl
    have e3 : x3.1.1 = findB l (plc l 2) 32 + 1 := hp 3 x3 rfl
    have b2 := x2.2.1
    have b3 := x3.2.1
    refine ⟨findB l (plc l 2) 32, by omega, ?_, by decide⟩
    unfold pt at h1 h2 h3
    rw [e0] at h1
    rw [e1] at h2
    rw [e2] at h3 b2
    rw [gr_2 h1 b2 h2, h3, if_neg (by simp), if_neg (by omega)]

/-- The metric's block, behind some parts that are right. -/
def GrM (w : World) : List (Pt l) → World → Prop
  | [], W => Box W (w.heap.size + 2) 26 [.string ⟨#[]⟩, .int .i64 2, .slice none 0 0, .int .i64 1000000, .slice none 0 0, .int .i64 0]
  | [x0], W => Box W (w.heap.size + 2) 26 [.string x0.1.2, .int .i64 2, .slice none 0 0, .int .i64 1000000, .slice none 0 0, .int .i64 0] ∧ nameR (pt x0) = true
  | [x0, x1], W => ∃ gs d, Box W (w.heap.size + 2) 26 [.string x0.1.2, .int .i64 2, .slice (some ⟨gs, 0, none⟩) 1 1, .int .i64 1000000, .slice none 0 0, .int .i64 0] ∧ nameR (pt x0) = true ∧ Dc.parse (pt x1) = (d, 0, 0) ∧ Box W gs 42 [.bool d.neg, .int .u64 d.c, .int .i64 d.e] ∧ w.heap.size + 6 ≤ gs
  | [x0, x1, x2], W => ∃ gs d t, Box W (w.heap.size + 2) 26 [.string x0.1.2, .int .i64 2, .slice (some ⟨gs, 0, none⟩) 1 1, .int .i64 1000000, .slice none 0 0, .int .i64 t] ∧ nameR (pt x0) = true ∧ Dc.parse (pt x1) = (d, 0, 0) ∧ Box W gs 42 [.bool d.neg, .int .u64 d.c, .int .i64 d.e] ∧ w.heap.size + 6 ≤ gs ∧ parsed (pt x2) 1 1099511627776 = (t, 0, 0)
  | _, _ => False
theorem GrM.own {w W W' : World} {pre : List (Pt l)} {row : Option Nat} (h : GrM w pre W) (hg : W.grownBy W' row) (hr : ∀ r, row = some r → ∃ o : Obj, W.heap[r]? = some o ∧ o.isCells = false) : GrM w pre W' := by
  match pre, h with
  | [], h => exact boxq_own (cs := _) h hg hr
  | [x0], h => exact ⟨boxq_own (cs := _) h.1 hg hr, h.2⟩
  | [x0, x1], ⟨gs, d, h1, h2, h3, h4, h5⟩ => exact ⟨gs, d, boxq_own h1 hg hr, h2, h3, boxq_own h4 hg hr, h5⟩
  | [x0, x1, x2], ⟨gs, d, t, h1, h2, h3, h4, h5, h6⟩ => exact ⟨gs, d, t, boxq_own h1 hg hr, h2, h3, boxq_own h4 hg hr, h5, h6⟩

/-- What a round may know. -/
structure GrI (w : World) (pre : List (Pt l)) (W : World) : Prop where
  res : ResS w W
  turn : Box W (w.heap.size + 3) 3 [.int .i64 (pre.length : Int)]
  wrong : Box W (w.heap.size + 4) 29 [.int .i64 0, .int .i64 0]
  size : w.heap.size + 6 ≤ W.heap.size
  met : GrM w pre W
/-- How a round is left. -/
structure GrX (w : World) (c : Code) (pre : List (Pt l)) (W : World) : Prop where
  exit : c = .exit 0
  res : ResS w W
  told : ∃ x y : Int, Box W (w.heap.size + 4) 29 [.int .i64 x, .int .i64 y] ∧ GrW pre x y
theorem ResS.own {w W W' : World} {row : Option Nat} (h : ResS w W) (hg : W.grownBy W' row) (hr : ∀ r, row = some r → w.heap.size + 6 ≤ r ∧ ∃ o : Obj, W.heap[r]? = some o ∧ o.isCells = false) : ResS w W' :=
  ⟨boxq_own h.one hg (fun r e => (hr r e).2), boxq_own h.two hg (fun r e => (hr r e).2), h.kept.grown hg h.kept.size (fun k e => by have := (hr k e).1; omega)⟩
theorem GrI.own {w W W' : World} {pre : List (Pt l)} {row : Option Nat} (h : GrI w pre W) (hg : W.grownBy W' row) (hr : ∀ r, row = some r → w.heap.size + 6 ≤ r ∧ ∃ o : Obj, W.heap[r]? = some o ∧ o.isCells = false) : GrI w pre W' :=
  ⟨h.res.own hg hr, boxq_own h.turn hg (fun r e => (hr r e).2), boxq_own h.wrong hg (fun r e => (hr r e).2), Nat.le_trans h.size hg.size, h.met.own hg (fun r e => (hr r e).2)⟩
theorem GrX.own {w W W' : World} {c : Code} {pre : List (Pt l)} {row : Option Nat} (h : GrX w c pre W) (hg : W.grownBy W' row) (hr : ∀ r, row = some r → w.heap.size + 6 ≤ r ∧ ∃ o : Obj, W.heap[r]? = some o ∧ o.isCells = false) : GrX w c pre W' := by
  obtain ⟨h1, h2, x, y, h3, h4⟩ := h
  exact ⟨h1, h2.own hg hr, x, y, boxq_own h3 hg (fun r e => (hr r e).2), h4⟩
theorem GrI.next {w W W' : World} {pre : List (Pt l)} (h : GrI w pre W) (k : Below W.heap.size W W') : GrI w pre W' := h.own (grown_all k) (fun r e => by cases e)
end
theorem decs_box {W : World} {g : Nat} {d : D} (h : Box W g 42 [.bool d.neg, .int .u64 d.c, .int .i64 d.e]) : Decs W (some ⟨g, 0, none⟩) [d] := fun i u hu => ⟨g, 0, rfl, by rw [Nat.zero_add]; exact (h.cell i).trans hu⟩
theorem MIs.own {W W' : World} {s : ByteArray} {A B : Option Addr} {n k : Nat} {m : Mt} {row : Option Nat} (h : MIs W s A n B k m) (hg : W.grownBy W' row) (hr : ∀ r, row = some r → ∃ o : Obj, W.heap[r]? = some o ∧ o.isCells = false) : MIs W' s A n B k m :=
  ⟨h.name, h.vlen, fun i u hu => (by obtain ⟨b, off, e, hc⟩ := h.vals i u hu; exact ⟨b, off, e, cell_kept hc hg hr⟩), h.tlen, fun i u hu => (by obtain ⟨b, off, e, hc⟩ := h.tags i u hu; exact ⟨b, off, e, cell_kept hc hg hr⟩)⟩

theorem gr_code (x y : Value) (w : World) : (Instr.field 29 (.agg #[x, y]) 0).run Tryd.prog w = .ok x w := by kernel_rfl
theorem nameG_code {l : List UInt8} {x y : Int} (h : faultOf 1 l 1 200 = (x, y)) : nameR l = decide (x = 0) := by
  unfold nameR
  rw [h]
  by_cases hx : x = 0
  · subst hx
    have hy : y = 0 := by
      unfold faultOf at h
      split at h
      · injection h with h _; omega
      · split at h
        · injection h with h _; omega
        · split at h
          · injection h with h _; omega
          · split at h
            · injection h with h _; omega
            · injection h with _ h; omega
    subst hy
    rfl
  · rw [decide_eq_false hx]
    exact decide_eq_false fun e => hx (congrArg Prod.fst e)
/-- A metric and a Fault are returned, behind a loop over an iterator. -/
theorem leave_mf {n : Nat} {fn : Func} {p u : Tmp} (hres : fn.results = #[.cell p 26, .cell u 29]) {R : Ending → World → Prop} {tmps : Array Value} {w : World} {D g g' : Nat} {a b c d e f x y : Value}
    (hp : tmps.getD p undef = .pointer (some ⟨g, 0, none⟩)) (hu : tmps.getD u undef = .pointer (some ⟨g', 0, none⟩)) (hD : w.heap[D]? = some (.deferred (some [])))
    (hb : Box w g 26 [a, b, c, d, e, f]) (hf : Box w g' 29 [x, y]) (hR : R (.returned (.tuple #[.agg #[a, b, c, d, e, f], .agg #[x, y]])) (w.putObj D (.deferred none))) :
    bodyPostM Fence.wide n Tryd.prog fn R .ret { tmps := tmps, defers := [{ target := .collected D, args := #[] }] } w := by
  refine ⟨by simp, .inl ⟨_, _, rfl, run_takeDeferred hD, ?_⟩⟩
  refine ⟨_, ?_, hR⟩
  have hr : ∀ r, some D = some r → ∃ o : Obj, w.heap[r]? = some o ∧ o.isCells = false := fun r e => by cases e; exact ⟨_, hD, rfl⟩
  have b1 := boxq_own hb (grownBy_putObj' w D (.deferred none)) hr
  have b2 := boxq_own hf (grownBy_putObj' w D (.deferred none)) hr
  rw [results_cell_cell hres, hp, addr_is]
  simp only [Result.andThen]
  rw [load_met b1]
  simp only []
  rw [hu, addr_is]
  simp only []
  rw [load_fault b2]
theorem PutMF.toldG {w W : World} {g g' : Nat} {s : ByteArray} {A : Option Addr} {ca : Nat} {name : List UInt8} {d : D} {t : Int} (h : PutMF w W g g' s A 1 ca none 0 0 (oneG name d t) 0 0) {x : Mt × Int × Int} (hx : x = (oneG name d t, 0, 0)) :
    TellsM w x (.returned (.tuple #[.agg #[.string s, .int .i64 2, .slice A 1 ca, .int .i64 1000000, .slice none 0 0, .int .i64 t], .agg #[.int .i64 0, .int .i64 0]])) W := by
  subst hx
  exact ⟨_, _, _, _, _, _, _, rfl, h.met, h.kept⟩
theorem PutMF.drewG {w W : World} {g g' : Nat} {s : ByteArray} {A B : Option Addr} {n ca k cb : Nat} {m : Mt} {c a : Int} (h : PutMF w W g g' s A n ca B k cb m c a) : PutMF w W.drew g g' s A n ca B k cb m c a :=
  ⟨h.one.keep (Same.below (Same.drewN W 1)), h.two.keep (Same.below (Same.drewN W 1)), h.met.keep (Same.below (Same.drewN W 1)), below_then h.kept (Same.below (Same.drewN W 1))⟩
/-- What is told, once the block of the rounds' deferred calls is shut. -/
theorem TellsM.shut {w W0 W : World} {x : Mt × Int × Int} {e : Ending} {D : Nat} (h : TellsM w x e W) (h0 : w.heap.size ≤ W0.heap.size) (hD : W0.heap.size ≤ D) (hK : W.heap[D]? = some (.deferred (some []))) : TellsM w x e (W.putObj D (.deferred none)) := by
  obtain ⟨s, A, n, ca, B, k, cb, he, hm, hb⟩ := h
  exact ⟨s, A, n, ca, B, k, cb, he, hm.own (grownBy_putObj' W D (.deferred none)) (fun r e => by cases e; exact ⟨_, hK, rfl⟩), hb.trans (belowK_b (w := W0) h0 _ D _ _ hD hK rfl rfl)⟩

theorem GrI.start {l : List UInt8} (w : World) (s : ByteArray) :
    let W := (((((w.alloc (.cells #[.string ⟨#[]⟩, .int .i64 0, .slice none 0 0, .int .i64 0, .slice none 0 0, .int .i64 0] 26)).alloc (.cells #[.int .i64 0, .int .i64 0] 29)).alloc (.cells #[.string ⟨#[]⟩, .int .i64 2, .slice none 0 0, .int .i64 1000000, .slice none 0 0, .int .i64 0] 26)).alloc (.cells #[.int .i64 0] 3)).alloc (.cells #[.int .i64 0, .int .i64 0] 29)).alloc (.cells #[.string s] 9)
    GrI w ([] : List (Pt l)) W ∧ Boxed W (w.heap.size + 5) 9 (.string s) ∧ W.heap.size = w.heap.size + 6 := by
  intro W
  have h0 := ((((ResS.start w).alloc (.cells #[.string ⟨#[]⟩, .int .i64 2, .slice none 0 0, .int .i64 1000000, .slice none 0 0, .int .i64 0] 26)).alloc (.cells #[.int .i64 0] 3)).alloc (.cells #[.int .i64 0, .int .i64 0] 29)).alloc (.cells #[.string s] 9)
  have b2 := (((Box.new ((w.alloc (.cells #[.string ⟨#[]⟩, .int .i64 0, .slice none 0 0, .int .i64 0, .slice none 0 0, .int .i64 0] 26)).alloc (.cells #[.int .i64 0, .int .i64 0] 29)) 26 [.string ⟨#[]⟩, .int .i64 2, .slice none 0 0, .int .i64 1000000, .slice none 0 0, .int .i64 0]).alloc (.cells #[.int .i64 0] 3)).alloc (.cells #[.int .i64 0, .int .i64 0] 29)).alloc (.cells #[.string s] 9)
  have b3 := ((Box.new (((w.alloc (.cells #[.string ⟨#[]⟩, .int .i64 0, .slice none 0 0, .int .i64 0, .slice none 0 0, .int .i64 0] 26)).alloc (.cells #[.int .i64 0, .int .i64 0] 29)).alloc (.cells #[.string ⟨#[]⟩, .int .i64 2, .slice none 0 0, .int .i64 1000000, .slice none 0 0, .int .i64 0] 26)) 3 [.int .i64 0]).alloc (.cells #[.int .i64 0, .int .i64 0] 29)).alloc (.cells #[.string s] 9)
  have b4 := (Box.new ((((w.alloc (.cells #[.string ⟨#[]⟩, .int .i64 0, .slice none 0 0, .int .i64 0, .slice none 0 0, .int .i64 0] 26)).alloc (.cells #[.int .i64 0, .int .i64 0] 29)).alloc (.cells #[.string ⟨#[]⟩, .int .i64 2, .slice none 0 0, .int .i64 1000000, .slice none 0 0, .int .i64 0] 26)).alloc (.cells #[.int .i64 0] 3)) 29 [.int .i64 0, .int .i64 0]).alloc (.cells #[.string s] 9)
  have b5 := Boxed.new (((((w.alloc (.cells #[.string ⟨#[]⟩, .int .i64 0, .slice none 0 0, .int .i64 0, .slice none 0 0, .int .i64 0] 26)).alloc (.cells #[.int .i64 0, .int .i64 0] 29)).alloc (.cells #[.string ⟨#[]⟩, .int .i64 2, .slice none 0 0, .int .i64 1000000, .slice none 0 0, .int .i64 0] 26)).alloc (.cells #[.int .i64 0] 3)).alloc (.cells #[.int .i64 0, .int .i64 0] 29)) 9 (.string s)
  simp only [size_alloc, Nat.add_assoc, Nat.reduceAdd] at b2 b3 b4 b5
  have hsz : W.heap.size = w.heap.size + 6 := by show (World.alloc _ _).heap.size = _; simp only [size_alloc, Nat.add_assoc, Nat.reduceAdd]
  exact ⟨⟨h0, b3, b4, Nat.le_of_eq hsz.symm, b2⟩, b5, hsz⟩

theorem keeps_of {B : Nat} {W W' : World} (h : Below W.heap.size W W') : KeepsFrom B W W' := ⟨h.size, fun k _ _ hk _ => (h.block k (Array.getElem?_eq_some_iff.1 hk).1).trans hk⟩
theorem ResS.set {w W : World} (h : ResS w W) {b : Nat} (hb : w.heap.size + 2 ≤ b) (i : Nat) (v : Value) : ResS w (W.setCell ⟨b, i, none⟩ v) :=
  ⟨h.one.far (q := ⟨b, i, none⟩) (by show w.heap.size ≠ b; omega) v, h.two.far (q := ⟨b, i, none⟩) (by show w.heap.size + 1 ≠ b; omega) v, below_set h.kept (by omega) i v⟩
section
variable {l : List UInt8} {w W : World}
theorem GrI.alloc {pre : List (Pt l)} (h : GrI w pre W) (o : Obj) : GrI w pre (W.alloc o) := h.next ((Below.refl _ _).alloc (Nat.le_refl _) o)
theorem GrI.set {pre : List (Pt l)} (h : GrI w pre W) {j : Nat} {v : Value} {pre' : List (Pt l)} (n : Int) (hn : n = pre'.length) (hm : GrM w pre' ((W.setCell ⟨w.heap.size + 2, j, none⟩ v).setCell ⟨w.heap.size + 3, 0, none⟩ (.int .i64 n))) :
    GrI w pre' ((W.setCell ⟨w.heap.size + 2, j, none⟩ v).setCell ⟨w.heap.size + 3, 0, none⟩ (.int .i64 n)) := by
  have e1 : w.heap.size + 3 ≠ w.heap.size + 2 := by omega
  have e2 : w.heap.size + 4 ≠ w.heap.size + 2 := by omega
  have e3 : w.heap.size + 4 ≠ w.heap.size + 3 := by omega
  refine ⟨(h.res.set (by omega) j v).set (by omega) 0 _, ?_, (h.wrong.far (q := ⟨w.heap.size + 2, j, none⟩) e2 v).far (q := ⟨w.heap.size + 3, 0, none⟩) e3 _, ?_, hm⟩
  · subst hn
    exact (h.turn.far (q := ⟨w.heap.size + 2, j, none⟩) e1 v).set 0 _
  · have := h.size
    show _ ≤ ((W.setCell _ _).setCell _ _).heap.size
    simpa [World.setCell] using this
theorem GrI.step0 (h : GrI w ([] : List (Pt l)) W) (x : Pt l) (hn : nameR (pt x) = true) : GrI w [x] ((W.setCell ⟨w.heap.size + 2, 0, none⟩ (.string x.1.2)).setCell ⟨w.heap.size + 3, 0, none⟩ (.int .i64 1)) := by
  have hm : Box W (w.heap.size + 2) 26 _ := h.met
  exact h.set 1 rfl ⟨(hm.set 0 _).far (q := ⟨w.heap.size + 3, 0, none⟩) (by show w.heap.size + 2 ≠ w.heap.size + 3; omega) _, hn⟩
theorem GrI.step1 {x0 : Pt l} (h : GrI w [x0] W) (x : Pt l) {d : D} {gs : Nat} (hd : Dc.parse (pt x) = (d, 0, 0)) (hb : Box W gs 42 [.bool d.neg, .int .u64 d.c, .int .i64 d.e]) (hg : w.heap.size + 6 ≤ gs) :
    GrI w [x0, x] ((W.setCell ⟨w.heap.size + 2, 2, none⟩ (.slice (some ⟨gs, 0, none⟩) 1 1)).setCell ⟨w.heap.size + 3, 0, none⟩ (.int .i64 2)) := by
  obtain ⟨hm, hn⟩ := h.met
  exact h.set 2 rfl ⟨gs, d, (hm.set 2 _).far (q := ⟨w.heap.size + 3, 0, none⟩) (by show w.heap.size + 2 ≠ w.heap.size + 3; omega) _, hn, hd,
    (hb.far (q := ⟨w.heap.size + 2, 2, none⟩) (by show gs ≠ w.heap.size + 2; omega) _).far (q := ⟨w.heap.size + 3, 0, none⟩) (by show gs ≠ w.heap.size + 3; omega) _, hg⟩
theorem GrI.step2 {x0 x1 : Pt l} (h : GrI w [x0, x1] W) (x : Pt l) {t : Int} (ht : parsed (pt x) 1 1099511627776 = (t, 0, 0)) :
    GrI w [x0, x1, x] ((W.setCell ⟨w.heap.size + 2, 5, none⟩ (.int .i64 t)).setCell ⟨w.heap.size + 3, 0, none⟩ (.int .i64 3)) := by
  obtain ⟨gs, d, hm, hn, hd, hb, hg⟩ := h.met
  exact h.set 3 rfl ⟨gs, d, t, (hm.set 5 _).far (q := ⟨w.heap.size + 3, 0, none⟩) (by show w.heap.size + 2 ≠ w.heap.size + 3; omega) _, hn, hd,
    (hb.far (q := ⟨w.heap.size + 2, 5, none⟩) (by show gs ≠ w.heap.size + 2; omega) _).far (q := ⟨w.heap.size + 3, 0, none⟩) (by show gs ≠ w.heap.size + 3; omega) _, hg, ht⟩
theorem GrI.fail {pre pre' : List (Pt l)} (h : GrI w pre W) {c a : Int} (hw : GrW pre' c a) : GrX w (.exit 0) pre' ((W.setCell ⟨w.heap.size + 4, 0, none⟩ (.int .i64 c)).setCell ⟨w.heap.size + 4, 1, none⟩ (.int .i64 a)) :=
  ⟨rfl, (h.res.set (by omega) 0 _).set (by omega) 1 _, c, a, (h.wrong.set 0 _).set 1 _, hw⟩
/-- What a round has done, as the loop asks of it. -/
theorem keeps_two {B b0 c : Nat} {s : ByteArray} {W W2 : World} {i j : Nat} {u v : Value} {b b' : Nat} (hb : Below W.heap.size W W2) (h0 : b0 ≤ W.heap.size) (h1 : b0 ≤ b) (h2 : b ≠ c) (h3 : b0 ≤ b') (h4 : b' ≠ c) :
    KeepsFrom B W ((W2.setCell ⟨b, i, none⟩ u).setCell ⟨b', j, none⟩ v) ∧ KpP b0 c s W ((W2.setCell ⟨b, i, none⟩ u).setCell ⟨b', j, none⟩ v) :=
  ⟨(keeps_of hb).trans (((KeepsOthers.setCell _ _ _).trans (KeepsOthers.setCell _ _ _)).from _), (KpP.below h0 hb).trans ((KpP.set h1 h2 u).trans (KpP.set h3 h4 v))⟩
end

theorem heap_putMF {W : World} {D g g' : Nat} (h1 : D ≠ g) (h2 : D ≠ g') (s : ByteArray) (kd : Int) (A0 : Option Addr) (n0 ca0 : Nat) (rt : Int) (B0 : Option Addr) (k0 cb0 : Nat) (tm c a : Int) : (putMF W g g' s kd A0 n0 ca0 rt B0 k0 cb0 tm c a).heap[D]? = W.heap[D]? := by
  unfold putMF putM
  rw [Below.heap_setCell _ _ _ _ h2, Below.heap_setCell _ _ _ _ h2, Below.heap_setCell _ _ _ _ h1, Below.heap_setCell _ _ _ _ h1, Below.heap_setCell _ _ _ _ h1, Below.heap_setCell _ _ _ _ h1, Below.heap_setCell _ _ _ _ h1, Below.heap_setCell _ _ _ _ h1]

theorem drew_heap (W : World) : W.drew.heap = W.heap := rfl
theorem heap_putMFd {W : World} {D g g' : Nat} (h1 : D ≠ g) (h2 : D ≠ g') (s : ByteArray) (kd : Int) (A0 : Option Addr) (n0 ca0 : Nat) (rt : Int) (B0 : Option Addr) (k0 cb0 : Nat) (tm c a : Int) : (putMF W g g' s kd A0 n0 ca0 rt B0 k0 cb0 tm c a).drew.heap[D]? = W.heap[D]? := by
  rw [drew_heap]
  exact heap_putMF h1 h2 _ _ _ _ _ _ _ _ _ _ _ _

/-- The temporaries of a round. -/
def actG (s : ByteArray) (r0 r1 m tn wr c : Nat) (at_ : Int) (t : ByteArray) : Act :=
  { tmps := #[.string s, undef, .pointer (some ⟨r0, 0, none⟩), .pointer (some ⟨r1, 0, none⟩), .pointer (some ⟨m, 0, none⟩), .pointer (some ⟨tn, 0, none⟩), .pointer (some ⟨wr, 0, none⟩), .int .i64 at_, .string t, undef, undef, undef, undef, .agg #[.string ⟨#[]⟩, .int .i64 2, .slice none 0 0, .int .i64 1000000, .slice none 0 0, .int .i64 0], .agg #[.int .i64 0, .int .i64 0], .string s, .func (.func 41) #[] #[.pointer (some ⟨c, 0, none⟩)], .int .i64 at_, .string t, undef, undef, undef, undef, undef, undef, undef, undef, undef, undef, undef, undef, undef, undef, undef, undef, undef, undef, undef, undef, undef, undef, undef, undef, undef, undef, undef, undef, undef, undef, undef, undef, undef, undef, undef, undef, undef, undef, undef, undef, undef, undef, undef, undef, undef, undef, undef, undef, undef, undef, undef, undef, undef, undef, undef, undef, undef, undef, undef, undef], defers := [] }

set_option maxRecDepth 100000 in
set_option maxHeartbeats 8000000 in
theorem gparse_calls {s : ByteArray} {l : List UInt8} (hs : Str s l) (hl : l.length ≤ 9000) (w : World) : Calls Tryd.prog 8 #[.string s] w (TellsM w (parseG l)) := by
  have hsz : (s.size : Int) = (l.length : Int) := by rw [hs.size]
  have HS := Lib.hid hs
  have HB := Lib.hid (GrI.start (l := l) w s)
  refine (callsIn_wide (n := 9)).1 ?_
  refine callsIn_of_wp_marks Tryd.func8 rfl trivial ?_ rfl
  simp only [Tryd.ntmps8, List.size_toArray, List.length_cons, List.length_nil, Nat.reduceAdd, Nat.reduceSub, Array.replicate_succ, Array.replicate_zero, List.push_toArray, List.append_toArray, List.nil_append, List.cons_append]
  clear hs
  gi_wp2_with fail
  refine wpIn_wide.2 (wp_scope_straight ((wpIn_wide (n := 9)).1 ?_))
  gi_wp2_with fail
  refine wpIn_label ?_
  gi_wp2_with fail
  refine ⟨trivial, ?_⟩
  refine (parts_in _ _ _).mono ?_
  rintro e w' ⟨rfl, rfl⟩
  simp only [size_alloc, Nat.add_assoc, Nat.reduceAdd]
  generalize World.alloc _ (.cells #[.string s] 9) = W0 at HB ⊢
  gi_wp2_with fail
  obtain ⟨hi0, hbs, hsz0⟩ := HB.out
  have hk0 := hi0.res.kept
  have hw0 : w.heap.size ≤ W0.heap.size := hk0.size
  clear HB
  refine wpIn_rangeFunc_ownH rfl (by omega) (gf := 41) (lb := #[.pointer (some ⟨w.heap.size + 5, 0, none⟩)]) rfl trivial (enters_of Tryd.func41 (by kernel_rfl) rfl)
    (parts_stops HS.out hl _ (by omega) (w.heap.size + 5) W0 hbs) (fun h k => h.trans k) (KpP.other hw0) (Below.refl _ _) (fun _ => rfl)
    (fun pre W => GrI w pre W) (fun c pre W => GrX w c pre W)
    (fun pre X Y row hs hg hr => hs.own hg (fun r e => by have := hr r e; exact ⟨by omega, this.2⟩))
    (fun c pre X Y row hs hg hr => hs.own hg (fun r e => by have := hr r e; exact ⟨by omega, this.2⟩))
    hi0
    (fun x a' _ => a' = actG s w.heap.size (w.heap.size + 1) (w.heap.size + 2) (w.heap.size + 3) (w.heap.size + 4) (w.heap.size + 5) (x.1.1 : Int) x.1.2)
    (fun x a' _ X Y row hs hg hr => hs)
    ?assign ?body ?done ?stop
  case assign =>
    rintro lp pre x W K hi hK
    unfold encP
    gi_wp2
    exact hK _ _ (KeepsFrom.refl _ _) (KpP.refl _ _ _ _) hi rfl
  case body =>
    rintro lp pre x a' W hlp ⟨rl, hrl⟩ hi rfl hlt
    have hsW : w.heap.size ≤ W.heap.size := hi.res.kept.size
    unfold actG
    have hT := x.2.2
    have hTl : (pt x).length ≤ l.length := by
      unfold pt
      have h1 := findB_le l x.2.1 32
      rw [btw_len h1.1 h1.2]; omega
    have hT : Str x.1.2 (pt x) := hT
    have hTz : (x.1.2.size : Int) ≤ 9000 := by rw [hT.size]; omega
    obtain ⟨p, hp⟩ : ∃ p : Int, (x.1.1 : Int) = p := ⟨_, rfl⟩
    obtain ⟨T, hTe⟩ : ∃ T, x.1.2 = T := ⟨_, rfl⟩
    rw [hp, hTe]
    rw [hTe] at hT hTz
    have HX := Lib.hid (And.intro hp hTe)
    have gp : (0 : Int) ≤ p ∧ p ≤ 9000 := by have := x.2.1; omega
    clear hp hTe
    rcases pre with _ | ⟨x0, _ | ⟨x1, _ | ⟨x2, _ | ⟨x3, rest⟩⟩⟩⟩
    · have t0 : W.cell? ⟨w.heap.size + 3, 0, none⟩ = some (.int .i64 0) := hi.turn.cell 0
      obtain ⟨fx, fy, hf⟩ : ∃ fx fy, faultOf 1 (pt x) 1 200 = (fx, fy) := ⟨_, _, rfl⟩
      have HN := Lib.hid (ctext_says hT (by omega) hf)
      have HF := Lib.hid (nameG_code hf)
      have HI := Lib.hid hi
      have hfc := gr_code (.int .i64 fx) (.int .i64 fy)
      clear hT hf hi
      gi_wp2_with fail
      refine ⟨trivial, ?_⟩
      refine (CallsIn.inRound lp (callsIn_wide.2 (HN.out _))).mono ?_
      rintro e w2 ⟨rfl, hb⟩
      have HI2 := Lib.hid (HI.out.next hb)
      have HB := Lib.hid hb
      clear HI HN t0 hb
      by_cases hfx : fx = 0
      · subst hfx
        have hm : Box w2 (w.heap.size + 2) 26 _ := HI2.out.met
        have m0 := hm.cell 0
        have m1 := hm.frozen 0
        have t0 : w2.cell? ⟨w.heap.size + 3, 0, none⟩ = some (.int .i64 0) := HI2.out.turn.cell 0
        have t1 := HI2.out.turn.frozen 0
        clear hm
        gi_wp2_with fail
        obtain ⟨k1, k2⟩ := keeps_two (B := W0.heap.size) (b0 := w.heap.size) (c := w.heap.size + 5) (s := s) (i := 0) (j := 0) (u := .string T) (v := .int .i64 1) (b := w.heap.size + 2) (b' := w.heap.size + 3) HB.out hsW (by omega) (by omega) (by omega) (by omega)
        refine ⟨k1, k2, ?_⟩
        have := HI2.out.step0 x (by rw [HF.out]; rfl)
        rw [HX.out.2] at this
        exact this
      · have hfb : (fx != 0) = true := by simpa using hfx
        have m0 := HI2.out.wrong.cell 0
        have m1 := HI2.out.wrong.frozen 0
        have m2 := HI2.out.wrong.cell 1
        have m3 := HI2.out.wrong.frozen 1
        have HE := Lib.hid (show nameR (pt x) = false by rw [HF.out]; exact decide_eq_false hfx)
        clear hfx
        gi_wp2_with fail
        obtain ⟨k1, k2⟩ := keeps_two (B := W0.heap.size) (b0 := w.heap.size) (c := w.heap.size + 5) (s := s) (i := 0) (j := 1) (u := .int .i64 15) (v := .int .i64 p) (b := w.heap.size + 4) (b' := w.heap.size + 4) HB.out hsW (by omega) (by omega) (by omega) (by omega)
        exact ⟨k1, HI2.out.fail ⟨HE.out, rfl, HX.out.1.symm⟩⟩
    · have t0 : W.cell? ⟨w.heap.size + 3, 0, none⟩ = some (.int .i64 1) := hi.turn.cell 0
      obtain ⟨d, c', a', hd⟩ : ∃ d c' a', Dc.parse (pt x) = (d, c', a') := ⟨_, _, _, rfl⟩
      have HN := Lib.hid (fun W => (Dc.parse_calls T _ hT (by omega) W).mono fun _ _ k => parses_says hd k)
      have HF := Lib.hid hd
      have HI := Lib.hid hi
      clear hT hd hi
      gi_wp2_with fail
      refine ⟨trivial, ?_⟩
      refine (CallsIn.inRound lp (callsIn_wide.2 (HN.out _))).mono ?_
      rintro e w2 ⟨rfl, hb⟩
      have hsz2 := Nat.le_trans HI.out.size hb.size
      have HI2 := Lib.hid (((HI.out.next hb).alloc (.cells #[.bool d.neg, .int .u64 d.c, .int .i64 d.e] 42)).alloc (.cells #[.int .i64 c', .int .i64 a'] 29))
      have HB := Lib.hid ((hb.alloc hb.size (.cells #[.bool d.neg, .int .u64 d.c, .int .i64 d.e] 42)).alloc (by rw [size_alloc]; have := hb.size; omega) (.cells #[.int .i64 c', .int .i64 a'] 29))
      clear HI HN t0 hb
      by_cases hc0 : c' = 0
      · subst hc0
        obtain rfl : 0 = a' := by
          obtain ⟨d', h1, _⟩ := parse_zero (v := pt x) (by rw [HF.out])
          have h2 := HF.out.symm.trans h1
          injection h2 with _ h2
          injection h2 with _ h2
          exact h2.symm
        have hi3 := HI2.out.alloc (.cells #[.bool d.neg, .int .u64 d.c, .int .i64 d.e] 42)
        obtain ⟨hm, _⟩ := hi3.met
        have m0 := hm.cell 2
        have m1 := hm.frozen 2
        have t0 := hi3.turn.cell 0
        have t1 := hi3.turn.frozen 0
        simp only [List.getElem?_cons_zero, List.getElem?_cons_succ, List.length_cons, List.length_nil, Nat.zero_add, Int.natCast_one] at m0 t0
        have HI3 := Lib.hid hi3
        have hgs := Box.new ((w2.alloc (.cells #[.bool d.neg, .int .u64 d.c, .int .i64 d.e] 42)).alloc (.cells #[.int .i64 0, .int .i64 0] 29)) 42 [.bool d.neg, .int .u64 d.c, .int .i64 d.e]
        rw [size_alloc, size_alloc] at hgs
        have HG := Lib.hid hgs
        have hb3 := HB.out.alloc HB.out.size (.cells #[.bool d.neg, .int .u64 d.c, .int .i64 d.e] 42)
        have HB3 := Lib.hid hb3
        clear hm hi3 hgs hb3
        gi_wp2_with fail
        obtain ⟨k1, k2⟩ := keeps_two (B := W0.heap.size) (b0 := w.heap.size) (c := w.heap.size + 5) (s := s) (i := 2) (j := 0) (u := .slice (some ⟨w2.heap.size + 1 + 1, 0, none⟩) 1 1) (v := .int .i64 2) (b := w.heap.size + 2) (b' := w.heap.size + 3) HB3.out hsW (by omega) (by omega) (by omega) (by omega)
        exact ⟨k1, k2, HI3.out.step1 x HF.out HG.out (by omega)⟩
      · have hcb : (c' != 0) = true := by simpa using hc0
        have m0 := HI2.out.wrong.cell 0
        have m1 := HI2.out.wrong.frozen 0
        have m2 := HI2.out.wrong.cell 1
        have m3 := HI2.out.wrong.frozen 1
        have HE := Lib.hid (show (Dc.parse (pt x)).2.1 ≠ 0 by rw [HF.out]; exact hc0)
        clear hc0
        gi_wp2_with fail
        obtain ⟨k1, k2⟩ := keeps_two (B := W0.heap.size) (b0 := w.heap.size) (c := w.heap.size + 5) (s := s) (i := 0) (j := 1) (u := .int .i64 17) (v := .int .i64 p) (b := w.heap.size + 4) (b' := w.heap.size + 4) HB.out hsW (by omega) (by omega) (by omega) (by omega)
        exact ⟨k1, HI2.out.fail ⟨HI2.out.met.2, HE.out, rfl, HX.out.1.symm⟩⟩
    · have t0 : W.cell? ⟨w.heap.size + 3, 0, none⟩ = some (.int .i64 2) := hi.turn.cell 0
      obtain ⟨t, c', a', hd⟩ : ∃ t c' a', parsed (pt x) 1 1099511627776 = (t, c', a') := ⟨_, _, _, rfl⟩
      have HN := Lib.hid (fun W => (ntime_calls T _ hT hTz W).mono fun _ _ k => told3_says hd k)
      have HF := Lib.hid hd
      have HI := Lib.hid hi
      clear hT hd hi
      gi_wp2_with fail
      refine ⟨trivial, ?_⟩
      refine (CallsIn.inRound lp (callsIn_wide.2 (HN.out _))).mono ?_
      rintro e w2 ⟨rfl, hb⟩
      have hsz2 := Nat.le_trans HI.out.size hb.size
      have HI2 := Lib.hid ((HI.out.next hb).alloc (.cells #[.int .i64 c', .int .i64 a'] 29))
      have HB := Lib.hid (hb.alloc hb.size (.cells #[.int .i64 c', .int .i64 a'] 29))
      clear HI HN t0 hb
      by_cases hc0 : c' = 0
      · subst hc0
        obtain rfl : 0 = a' := by
          obtain ⟨t', h1, _⟩ := parsed_zero (l := pt x) (by show (parsed (pt x) 1 1099511627776).2.1 = 0; rw [HF.out])
          have h2 := HF.out.symm.trans h1
          injection h2 with _ h2
          injection h2 with _ h2
          exact h2.symm
        obtain ⟨gs, d, hm, _⟩ := HI2.out.met
        have m0 := hm.cell 5
        have m1 := hm.frozen 5
        have t0 := HI2.out.turn.cell 0
        have t1 := HI2.out.turn.frozen 0
        simp only [List.getElem?_cons_zero, List.getElem?_cons_succ, List.length_cons, List.length_nil, Nat.zero_add, Nat.reduceAdd] at m0 t0
        clear hm
        gi_wp2_with fail
        obtain ⟨k1, k2⟩ := keeps_two (B := W0.heap.size) (b0 := w.heap.size) (c := w.heap.size + 5) (s := s) (i := 5) (j := 0) (u := .int .i64 t) (v := .int .i64 3) (b := w.heap.size + 2) (b' := w.heap.size + 3) HB.out hsW (by omega) (by omega) (by omega) (by omega)
        exact ⟨k1, k2, HI2.out.step2 x HF.out⟩
      · have hcb : (c' != 0) = true := by simpa using hc0
        have m0 := HI2.out.wrong.cell 0
        have m1 := HI2.out.wrong.frozen 0
        have m2 := HI2.out.wrong.cell 1
        have m3 := HI2.out.wrong.frozen 1
        have HE := Lib.hid (show (parsed (pt x) 1 1099511627776).2.1 ≠ 0 by rw [HF.out]; exact hc0)
        clear hc0
        gi_wp2_with fail
        obtain ⟨k1, k2⟩ := keeps_two (B := W0.heap.size) (b0 := w.heap.size) (c := w.heap.size + 5) (s := s) (i := 0) (j := 1) (u := .int .i64 20) (v := .int .i64 p) (b := w.heap.size + 4) (b' := w.heap.size + 4) HB.out hsW (by omega) (by omega) (by omega) (by omega)
        obtain ⟨gs, d, _, hn, hd, _⟩ := HI2.out.met
        exact ⟨k1, HI2.out.fail ⟨hn, ⟨d, hd⟩, HE.out, rfl, HX.out.1.symm⟩⟩
    · have t0 : W.cell? ⟨w.heap.size + 3, 0, none⟩ = some (.int .i64 3) := hi.turn.cell 0
      have HI2 := Lib.hid hi
      have m0 := HI2.out.wrong.cell 0
      have m1 := HI2.out.wrong.frozen 0
      have m2 := HI2.out.wrong.cell 1
      have m3 := HI2.out.wrong.frozen 1
      clear hT hi
      gi_wp2_with fail
      obtain ⟨k1, k2⟩ := keeps_two (B := W0.heap.size) (b0 := w.heap.size) (c := w.heap.size + 5) (s := s) (i := 0) (j := 1) (u := .int .i64 11) (v := .int .i64 (p - 1)) (b := w.heap.size + 4) (b' := w.heap.size + 4) (Below.refl _ W) hsW (by omega) (by omega) (by omega) (by omega)
      obtain ⟨gs, d, t, _, hn, hd, _, _, ht⟩ := HI2.out.met
      exact ⟨k1, HI2.out.fail ⟨hn, ⟨d, hd⟩, ⟨t, ht⟩, rfl, by rw [HX.out.1]⟩⟩
    · exact hi.met.elim
  case done =>
    rintro D xs W hD ⟨hP, n, hln, hend⟩ hi hK
    obtain ⟨c0, c1, c2, c3, c4, c5, c6, c7⟩ := hi.res.cells
    obtain ⟨f0, f1, f2, f3, f4, f5, f6, f7⟩ := hi.res.frozen
    have v0 : W.cell? ⟨w.heap.size + 4, 0, none⟩ = some (.int .i64 0) := hi.wrong.cell 0
    have HD := Lib.hid (And.intro hD hK)
    have HW0 := Lib.hid hw0
    have HZ := Lib.hid hsz0
    clear hD hK hw0 hsz0 hbs hi0
    rcases xs with _ | ⟨x0, _ | ⟨x1, _ | ⟨x2, _ | ⟨x3, rest⟩⟩⟩⟩
    · cases hln
    · have t0 : W.cell? ⟨w.heap.size + 3, 0, none⟩ = some (.int .i64 1) := hi.turn.cell 0
      obtain ⟨hm, hn⟩ := hi.met
      obtain rfl : n = 0 := by have : 1 = n + 1 := hln; omega
      have HE := Lib.hid (show parseG l = failS 11 l.length by
        have e0 : x0.1.1 = 0 := hP 0 x0 rfl
        unfold pt at hn
        rw [e0] at hn
        exact gr_end0 hn hend)
      have HP := Lib.hid (hi.res.fault 11 (l.length : Int))
      clear hi hm hn hln hend hP
      gi_wp2_with fail
      refine leave_mf rfl rfl rfl ((heap_putMF (by have := HD.out.1; have := HZ.out; omega) (by have := HD.out.1; have := HZ.out; omega) _ _ _ _ _ _ _ _ _ _ _ _).trans HD.out.2) HP.out.one HP.out.two ?_
      exact (HP.out.fault HE.out).shut HW0.out HD.out.1 ((heap_putMF (by have := HD.out.1; have := HZ.out; omega) (by have := HD.out.1; have := HZ.out; omega) _ _ _ _ _ _ _ _ _ _ _ _).trans HD.out.2)
    · have t0 : W.cell? ⟨w.heap.size + 3, 0, none⟩ = some (.int .i64 2) := hi.turn.cell 0
      obtain ⟨gs, d, hm, hn, hd, _⟩ := hi.met
      obtain rfl : n = 1 := by have : 2 = n + 1 := hln; omega
      have HE := Lib.hid (show parseG l = failS 11 l.length by
        have e0 : x0.1.1 = 0 := hP 0 x0 rfl
        have e1 : x1.1.1 = plc l 1 := hP 1 x1 rfl
        have b1 := x1.2.1
        unfold pt at hn hd
        rw [e0] at hn
        rw [e1] at hd b1
        rw [gr_1 hn b1, hd, if_neg (by simp), if_pos hend])
      have HP := Lib.hid (hi.res.fault 11 (l.length : Int))
      clear hi hm hn hd hln hend hP
      gi_wp2_with fail
      refine leave_mf rfl rfl rfl ((heap_putMF (by have := HD.out.1; have := HZ.out; omega) (by have := HD.out.1; have := HZ.out; omega) _ _ _ _ _ _ _ _ _ _ _ _).trans HD.out.2) HP.out.one HP.out.two ?_
      exact (HP.out.fault HE.out).shut HW0.out HD.out.1 ((heap_putMF (by have := HD.out.1; have := HZ.out; omega) (by have := HD.out.1; have := HZ.out; omega) _ _ _ _ _ _ _ _ _ _ _ _).trans HD.out.2)
    · have t0 : W.cell? ⟨w.heap.size + 3, 0, none⟩ = some (.int .i64 3) := hi.turn.cell 0
      obtain ⟨gs, d, t, hm, hn, hd, hb, _, ht⟩ := hi.met
      obtain rfl : n = 2 := by have : 3 = n + 1 := hln; omega
      have HE := Lib.hid (show parseG l = (oneG (pt x0) d t, 0, 0) by
        have e0 : x0.1.1 = 0 := hP 0 x0 rfl
        have e1 : x1.1.1 = plc l 1 := hP 1 x1 rfl
        have e2 : x2.1.1 = plc l 2 := hP 2 x2 rfl
        have b2 := x2.2.1
        unfold pt at hn hd ht ⊢
        rw [e0] at hn ⊢
        rw [e1] at hd
        rw [e2] at ht b2
        rw [gr_2 hn b2 hd, ht, if_neg (by simp), if_pos hend])
      have hmis : MIs W x0.1.2 (some ⟨gs, 0, none⟩) 1 none 0 (oneG (pt x0) d t) := ⟨x0.2.2, rfl, decs_box hb, rfl, Tags.nil⟩
      have HP := Lib.hid (hi.res.put hmis 1 0 0 0)
      have m0 := hm.cell 0
      have m1 := hm.cell 1
      have m2 := hm.cell 2
      have m3 := hm.cell 3
      have m4 := hm.cell 4
      have m5 := hm.cell 5
      simp only [List.getElem?_cons_zero, List.getElem?_cons_succ] at m0 m1 m2 m3 m4 m5
      clear hi hm hn hd hb ht hmis hln hend hP
      gi_wp2_with fail
      refine leave_mf rfl rfl rfl ((heap_putMF (by have := HD.out.1; have := HZ.out; omega) (by have := HD.out.1; have := HZ.out; omega) _ _ _ _ _ _ _ _ _ _ _ _).trans HD.out.2) HP.out.one HP.out.two ?_
      exact (HP.out.toldG HE.out).shut HW0.out HD.out.1 ((heap_putMF (by have := HD.out.1; have := HZ.out; omega) (by have := HD.out.1; have := HZ.out; omega) _ _ _ _ _ _ _ _ _ _ _ _).trans HD.out.2)
    · exact hi.met.elim
  case stop =>
    rintro D c pre W hD hP hx hK
    obtain ⟨rfl, hr, c0', a0', hb, hw⟩ := hx
    obtain ⟨c0, c1, c2, c3, c4, c5, c6, c7⟩ := hr.cells
    obtain ⟨f0, f1, f2, f3, f4, f5, f6, f7⟩ := hr.frozen
    have v0 : W.cell? ⟨w.heap.size + 4, 0, none⟩ = some (.int .i64 c0') := hb.cell 0
    have v1 : W.cell? ⟨w.heap.size + 4, 1, none⟩ = some (.int .i64 a0') := hb.cell 1
    obtain ⟨n, rfl, hpn, hne⟩ := grw_is hP hw
    have hcb : (c0' != 0) = true := by simpa using hne
    have HD := Lib.hid (And.intro hD hK)
    have HW0 := Lib.hid hw0
    have HZ := Lib.hid hsz0
    have HP := Lib.hid (hr.fault c0' (n : Int))
    have HE := Lib.hid hpn
    clear hD hK hw0 hsz0 hbs hi0 hr hb hw hpn hne hP
    have HPD := Lib.hid HP.out.drewG
    gi_wp2_with fail
    refine wpIn_wide.2 ?_
    go_region
    all_goals
      iterate 4 gi_step
      refine leave_mf rfl rfl rfl ((heap_putMFd (by have := HD.out.1; have := HZ.out; omega) (by have := HD.out.1; have := HZ.out; omega) _ _ _ _ _ _ _ _ _ _ _ _).trans HD.out.2) HPD.out.one HPD.out.two ?_
      exact (HPD.out.fault HE.out).shut HW0.out HD.out.1 ((heap_putMFd (by have := HD.out.1; have := HZ.out; omega) (by have := HD.out.1; have := HZ.out; omega) _ _ _ _ _ _ _ _ _ _ _ _).trans HD.out.2)
end Go.Proofs.YtmaiggoinjldpaaDoor
