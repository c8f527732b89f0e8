/-
  SdCut, SdRateOf. No statement of the seat is proved here.
-/
import Derived.Test.YtdliookdmgilgaaGreatDoorSdRes
import Derived.Test.YtdliookdmgilgaaGreatDoorTCut
import Derived.Test.YtdliookdmgilgaaGreatDoorShelfS
import Derived.Test.YtdliookdmgilgaaGreatDoorGrNRate
import Derived.RegionTactic
import Derived.ChangeAlike
import Derived.BigRegion
import Derived.Deep.DeepCutAuto
import Derived.Deep.CutBlock
/-
  Package statsd: the closure that cuts a line's parts off. No statement of the seat is proved here.
-/
namespace Go.Proofs.YtdliookdmgilgaaGreatDoor
open Go.RowKit
open Dc (D D0)

theorem cutC_at {l : List UInt8} {n b : Nat} {c : UInt8} (hn : n ≤ l.length) (hb : findB l n c = b) : (cutC c (l.drop n)).1 = btw l n b ∧ decide (c ∈ l.drop n) = decide (b < l.length) := by
  obtain ⟨h1, h2, h3, h4⟩ := cut_find hn hb
  unfold btw
  rw [← h3]
  rcases cutB_cases c (l.drop n) with ⟨hm, e⟩ | ⟨p, r, hm, e1, e⟩
  · rw [e, cut_no hm]
    rw [e] at h4
    rcases h4 with ⟨h4, _⟩ | ⟨_, h5, _⟩
    · exact ⟨rfl, by rw [decide_eq_false hm, decide_eq_false (by omega)]⟩
    · cases h5
  · rw [e] at h4
    rcases h4 with ⟨_, h5, _⟩ | ⟨h4, _⟩
    · cases h5
    · rw [e]
      refine ⟨by rw [e1, cut_at hm], ?_⟩
      rw [decide_eq_true h4, decide_eq_true (by rw [e1]; simp)]

theorem cutting_calls (s : ByteArray) (w : World) : Calls Tryz.prog 31 #[.string s] w fun e w' => e = .returned (.func (.func 58) #[] #[.pointer (some ⟨w.heap.size, 0, none⟩), .pointer (some ⟨w.heap.size + 1, 0, none⟩)]) ∧ w' = (w.alloc (.cells #[.string s] 9)).alloc (.cells #[.int .i64 0] 3) := by
  have hmf : ∀ (fn : Fn) (first cap : Array Value) (w : World), (Instr.makeFunc fn first cap).run Tryz.prog w = .ok (.func fn first cap) w := fun _ _ _ _ => rfl
  go_enter Tryz.func31, Tryz.ntmps31
  go_wp2_with fail
  go_ret
  exact ⟨rfl, rfl⟩

theorem load_part {w : World} {g : Nat} {x y z : Value} (h : Box w g 61 [x, y, z]) : (loadVar 61 ⟨g, 0, none⟩).run Tryz.prog w = .ok (.agg #[x, y, z]) w := by
  have c0 : w.cell? ⟨g, 0, none⟩ = some x := h.cell 0
  have c1 : w.cell? ⟨g, 1, none⟩ = some y := h.cell 1
  have c2 : w.cell? ⟨g, 2, none⟩ = some z := h.cell 2
  simp [go_sem, c0, c1, c2]
/-- A part is returned. -/
theorem ret_part {fn : Func} {p : Tmp} (hres : fn.results = #[.cell p 61]) {R : Ending → World → Prop} {a : Act} {w : World} {g : Nat} {x y z : Value} (hp : a.tmps.getD p undef = .pointer (some ⟨g, 0, none⟩)) (hd : a.defers = [])
    (hb : Box w g 61 [x, y, z]) (hR : R (.returned (.agg #[x, y, z])) w) : bodyPost Tryz.prog fn R .ret a w := by
  refine bodyPost_ret ?_ hd hR
  rw [results_cell1 hres, hp, addr_is]
  simp only [Result.andThen]
  rw [load_part hb]

/-- What a line's text, and the place in it, are while parts are cut off it: the blocks gs and ga. -/
structure CutW (W : World) (gs ga : Nat) (s : ByteArray) (n : Nat) : Prop where
  txt : Box W gs 9 [.string s]
  pos : Box W ga 3 [.int .i64 n]
  ne : gs ≠ ga
theorem CutW.next {W W' : World} {gs ga n : Nat} {s : ByteArray} (h : CutW W gs ga s n) (b : Below W.heap.size W W') : CutW W' gs ga s n := ⟨h.txt.keep b, h.pos.keep b, h.ne⟩
theorem But.setNew {p : Nat} {w w' : World} (h : But p w w') {q : Addr} (hq : w.heap.size ≤ q.block) (u : Value) : But p w (w'.setCell q u) :=
  ⟨h.os, h.tape, h.output, by simp [World.setCell, h.size], fun k hk hp => (Below.heap_setCell _ _ _ _ (by omega)).trans (h.block k hk hp)⟩
/-- The world behind a cut, ahead of the result's store. -/
def cutEnd (w1 : World) (ga : Nat) (t : ByteArray) (n : Nat) : Bool → World
  | false => (w1.alloc (.cells #[.string t, .int .i64 n, .bool false] 61)).setCell ⟨ga, 0, none⟩ (.int .i64 ((n : Int) + (t.size : Int)))
  | true => ((w1.alloc (.cells #[.string t, .int .i64 n, .bool true] 61)).setCell ⟨ga, 0, none⟩ (.int .i64 ((n : Int) + (t.size : Int)))).setCell ⟨ga, 0, none⟩ (.int .i64 ((n : Int) + (t.size : Int) + 1))
structure PartS (W w1 : World) (gs ga : Nat) (s t : ByteArray) (n b : Nat) (be : Bool) (Wf : World) : Prop where
  res : Box Wf W.heap.size 61 [.string ⟨#[]⟩, .int .i64 0, .bool false]
  part : Box Wf w1.heap.size 61 [.string t, .int .i64 n, .bool be]
  cw : CutW Wf gs ga s (if be = true then b + 1 else b)
  but : But ga W Wf
  ne : ga ≠ W.heap.size ∧ gs ≠ W.heap.size
theorem part_step {W w1 : World} {gs ga : Nat} {s : ByteArray} {n : Nat} (k0 : Below W.heap.size W w1) (hcw : CutW w1 gs ga s n) (hgl : ga < W.heap.size) (hsl : gs < W.heap.size) (r0 : Box w1 W.heap.size 61 [.string ⟨#[]⟩, .int .i64 0, .bool false]) (t : ByteArray) (b : Nat) (be : Bool) (hs1 : W.heap.size + 1 ≤ w1.heap.size) (hts : (t.size : Int) = (b : Int) - (n : Int)) :
    PartS W w1 gs ga s t n b be (cutEnd w1 ga t n be) := by
  have ne1 : w1.heap.size ≠ ga := by omega
  have ne2 : W.heap.size ≠ ga := by omega
  have e1 : (n : Int) + (t.size : Int) = (b : Int) := by omega
  cases be
  · have p0 := Box.new w1 61 [.string t, .int .i64 n, .bool false]
    refine ⟨(r0.alloc _).far (q := ⟨ga, 0, none⟩) ne2 _, p0.far (q := ⟨ga, 0, none⟩) ne1 _, ⟨(hcw.txt.alloc _).far (q := ⟨ga, 0, none⟩) hcw.ne _, ?_, hcw.ne⟩, ((But.of_below k0).alloc _).set 0 _, ⟨ne2.symm, by omega⟩⟩
    have := (hcw.pos.alloc (.cells #[.string t, .int .i64 n, .bool false] 61)).set 0 (.int .i64 ((n : Int) + (t.size : Int)))
    rw [e1] at this
    show Box ((w1.alloc _).setCell ⟨ga, 0, none⟩ (.int .i64 ((n : Int) + (t.size : Int)))) ga 3 [.int .i64 (b : Int)]
    rw [e1]
    exact this
  · have p0 := Box.new w1 61 [.string t, .int .i64 n, .bool true]
    refine ⟨((r0.alloc _).far (q := ⟨ga, 0, none⟩) ne2 _).far (q := ⟨ga, 0, none⟩) ne2 _, (p0.far (q := ⟨ga, 0, none⟩) ne1 _).far (q := ⟨ga, 0, none⟩) ne1 _, ⟨((hcw.txt.alloc _).far (q := ⟨ga, 0, none⟩) hcw.ne _).far (q := ⟨ga, 0, none⟩) hcw.ne _, ?_, hcw.ne⟩, (((But.of_below k0).alloc _).set 0 _).set 0 _, ⟨ne2.symm, by omega⟩⟩
    have := ((hcw.pos.alloc (.cells #[.string t, .int .i64 n, .bool true] 61)).set 0 (.int .i64 ((n : Int) + (t.size : Int)))).set 0 (.int .i64 ((n : Int) + (t.size : Int) + 1))
    show Box (((w1.alloc _).setCell ⟨ga, 0, none⟩ (.int .i64 ((n : Int) + (t.size : Int)))).setCell ⟨ga, 0, none⟩ (.int .i64 ((n : Int) + (t.size : Int) + 1))) ga 3 [.int .i64 ((b + 1 : Nat) : Int)]
    rw [e1] at this ⊢
    exact this
section
variable {W w1 Wf : World} {gs ga n b : Nat} {s t : ByteArray} {be : Bool}
theorem PartS.cells (h : PartS W w1 gs ga s t n b be Wf) : Wf.cell? ⟨w1.heap.size, 0, none⟩ = some (.string t) ∧ Wf.cell? ⟨w1.heap.size, 1, none⟩ = some (.int .i64 n) ∧ Wf.cell? ⟨w1.heap.size, 2, none⟩ = some (.bool be) ∧
    Wf.cell? ⟨W.heap.size, 0, none⟩ = some (.string ⟨#[]⟩) ∧ Wf.cell? ⟨W.heap.size, 1, none⟩ = some (.int .i64 0) ∧ Wf.cell? ⟨W.heap.size, 2, none⟩ = some (.bool false) ∧
    Wf.frozen? ⟨W.heap.size, 0, none⟩ = false ∧ Wf.frozen? ⟨W.heap.size, 1, none⟩ = false ∧ Wf.frozen? ⟨W.heap.size, 2, none⟩ = false :=
  ⟨h.part.cell 0, h.part.cell 1, h.part.cell 2, h.res.cell 0, h.res.cell 1, h.res.cell 2, h.res.frozen 0, h.res.frozen 1, h.res.frozen 2⟩
theorem PartS.done (h : PartS W w1 gs ga s t n b be Wf) :
    Box (((Wf.setCell ⟨W.heap.size, 0, none⟩ (.string t)).setCell ⟨W.heap.size, 1, none⟩ (.int .i64 n)).setCell ⟨W.heap.size, 2, none⟩ (.bool be)) W.heap.size 61 [.string t, .int .i64 n, .bool be] ∧
    CutW (((Wf.setCell ⟨W.heap.size, 0, none⟩ (.string t)).setCell ⟨W.heap.size, 1, none⟩ (.int .i64 n)).setCell ⟨W.heap.size, 2, none⟩ (.bool be)) gs ga s (if be = true then b + 1 else b) ∧
    But ga W (((Wf.setCell ⟨W.heap.size, 0, none⟩ (.string t)).setCell ⟨W.heap.size, 1, none⟩ (.int .i64 n)).setCell ⟨W.heap.size, 2, none⟩ (.bool be)) :=
  ⟨((h.res.set 0 _).set 1 _).set 2 _,
    ⟨((h.cw.txt.far (q := ⟨W.heap.size, 0, none⟩) h.ne.2 _).far (q := ⟨W.heap.size, 1, none⟩) h.ne.2 _).far (q := ⟨W.heap.size, 2, none⟩) h.ne.2 _, ((h.cw.pos.far (q := ⟨W.heap.size, 0, none⟩) h.ne.1 _).far (q := ⟨W.heap.size, 1, none⟩) h.ne.1 _).far (q := ⟨W.heap.size, 2, none⟩) h.ne.1 _, h.cw.ne⟩,
    ((h.but.setNew (q := ⟨W.heap.size, 0, none⟩) (Nat.le_refl _) _).setNew (q := ⟨W.heap.size, 1, none⟩) (Nat.le_refl _) _).setNew (q := ⟨W.heap.size, 2, none⟩) (Nat.le_refl _) _⟩
end

/-- What a cut tells, and leaves. -/
def CutsP (W : World) (gs ga : Nat) (s : ByteArray) (l : List UInt8) (n b : Nat) (e : Ending) (W' : World) : Prop :=
  (∃ t, e = .returned (.agg #[.string t, .int .i64 n, .bool (decide (b < l.length))]) ∧ Str t (btw l n b)) ∧ CutW W' gs ga s (if b < l.length then b + 1 else b) ∧ But ga W W'

set_option maxRecDepth 100000 in
set_option maxHeartbeats 4000000 in
theorem cut1_calls {W : World} {gs ga n b : Nat} {s : ByteArray} {l : List UInt8} {c : UInt8} (h : CutW W gs ga s n) (hs : Str s l) (hl : l.length ≤ 1000) (hn : n ≤ l.length) (hb : findB l n c = b) :
    Calls Tryz.prog 58 #[.string ⟨#[c]⟩, .pointer (some ⟨gs, 0, none⟩), .pointer (some ⟨ga, 0, none⟩)] W (CutsP W gs ga s l n b) := by
  obtain ⟨S1, hS1, hcut⟩ := hs.from_ (i := (n : Int)) n rfl hn
  have hC := fun W => cut_calls hS1 (by rw [hS1.size, List.length_drop]; omega) c W
  obtain ⟨e1, e2⟩ := cutC_at hn hb
  have hle := findB_le l hn c
  rw [hb] at hle
  unfold Cuts at hC
  rw [e1, e2] at hC
  have HC := Lib.hid hC
  have hgl := h.pos.lt
  have hsl := h.txt.lt
  have HW := Lib.hid h
  have c0 : W.cell? ⟨gs, 0, none⟩ = some (.string s) := h.txt.cell 0
  have c1 : W.cell? ⟨ga, 0, none⟩ = some (.int .i64 n) := h.pos.cell 0
  have d0 : ∀ o, (W.alloc o).cell? ⟨gs, 0, none⟩ = some (.string s) := fun o => (h.txt.alloc o).cell 0
  have d1 : ∀ o, (W.alloc o).cell? ⟨ga, 0, none⟩ = some (.int .i64 n) := fun o => (h.pos.alloc o).cell 0
  have gn : (0 : Int) ≤ (n : Int) ∧ (n : Int) ≤ 1000 := by omega
  have gb : (0 : Int) ≤ (b : Int) ∧ (b : Int) ≤ 1000 := by omega
  clear e1 e2 hC h hS1 hs
  go_enter Tryz.func58, Tryz.ntmps58
  go_wp2_with fail
  refine (HC.out _).mono ?_
  rintro e w1 ⟨⟨t, t2, rfl, ht, _⟩, hbl⟩
  have k0 : Below W.heap.size W w1 := below_then ((Below.refl _ _).alloc (Nat.le_refl _) (.cells #[.string ⟨#[]⟩, .int .i64 0, .bool false] 61)) hbl
  have r0 := (Box.new W 61 [.string ⟨#[]⟩, .int .i64 0, .bool false]).keep hbl
  have hs1 : W.heap.size + 1 ≤ w1.heap.size := r0.lt
  have hcw := HW.out.next k0
  have hts : (t.size : Int) = (b : Int) - (n : Int) := by rw [ht.size, btw_len hle.1 hle.2]; omega
  have gt : (0 : Int) ≤ (t.size : Int) ∧ (t.size : Int) ≤ 1000 := by omega
  obtain ⟨be, hbe⟩ : ∃ be : Bool, be = decide (b < l.length) := ⟨_, rfl⟩
  rw [← hbe]
  have HP := Lib.hid (part_step k0 hcw hgl hsl r0 t b be hs1 hts)
  have HT := Lib.hid (And.intro ht (And.intro hbe hts))
  have u0 : w1.cell? ⟨ga, 0, none⟩ = some (.int .i64 n) := hcw.pos.cell 0
  have u1 := hcw.pos.frozen 0
  have v0 : ∀ o, (w1.alloc o).cell? ⟨ga, 0, none⟩ = some (.int .i64 n) := fun o => (hcw.pos.alloc o).cell 0
  have v1 : ∀ o, (w1.alloc o).frozen? ⟨ga, 0, none⟩ = false := fun o => (hcw.pos.alloc o).frozen 0
  obtain ⟨a0, a1, a2, b0, b1, b2, f0, f1, f2⟩ := HP.out.cells
  clear hbl k0 r0 hcw hts HC HW c0 c1 d0 d1 hcut ht hbe hle hgl hsl
  cases be <;> unfold cutEnd at HP a0 a1 a2 b0 b1 b2 f0 f1 f2
  · go_wp2_with fail
    have HQ := HP.out.done
    refine ret_part rfl rfl rfl HQ.1 ⟨⟨t, by rw [HT.out.2.1], HT.out.1⟩, ?_, HQ.2.2⟩
    have := HT.out.2.1
    rw [if_neg (of_decide_eq_false this.symm)]
    exact HQ.2.1
  · go_wp2_with fail
    have HQ := HP.out.done
    refine ret_part rfl rfl rfl HQ.1 ⟨⟨t, by rw [HT.out.2.1], HT.out.1⟩, ?_, HQ.2.2⟩
    have := HT.out.2.1
    rw [if_pos (of_decide_eq_true this.symm)]
    exact HQ.2.1
end Go.Proofs.YtdliookdmgilgaaGreatDoor

/-
  Package statsd: rateOf, what a line's last part tells. No statement of the seat is proved here.
-/
namespace Go.Proofs.YtdliookdmgilgaaGreatDoor
open Go.RowKit
open Dc (D D0)

theorem prefix_one (c : UInt8) (l : List UInt8) : Lib.hasPrefix l [c] = decide (l.head? = some c) := by
  unfold Lib.hasPrefix
  cases l with
  | nil => rfl
  | cons b r =>
    show (c == b && [].isPrefixOf r) = _
    by_cases h : c = b
    · subst h; simp
    · have h2 : ¬ b = c := fun e => h e.symm
      simp [h, h2]
theorem hasprefix_calls {s : ByteArray} {l : List UInt8} (hs : Str s l) (c : UInt8) (w : World) : Calls Tryz.prog 35 #[.string s, .string ⟨#[c]⟩] w fun e w' => e = .returned (.bool (decide (l.head? = some c))) ∧ w' = w := by
  have := Tryz.strings_HasPrefix s ⟨#[c]⟩ w
  rw [show s.data.toList = l from hs, show (⟨#[c]⟩ : ByteArray).data.toList = [c] from rfl, prefix_one] at this
  exact this
/-- What a prefix of one byte leaves. -/
def cutP (c : UInt8) (l : List UInt8) : List UInt8 := if l.head? = some c then l.tail else l
set_option maxRecDepth 100000 in
set_option maxHeartbeats 2000000 in
theorem cutpre0_calls {s : ByteArray} {l : List UInt8} (hs : Str s l) (c : UInt8) (w : World) : Calls Tryz.prog 101 #[.string s, .string ⟨#[c]⟩] w fun e w' => (∃ t, e = .returned (.tuple #[.string t, .bool (decide (l.head? = some c))]) ∧ Str t (cutP c l)) ∧ w' = w := by
  have hI := Tryz.stringslite_HasPrefix s ⟨#[c]⟩ w
  rw [show s.data.toList = l from hs, show (⟨#[c]⟩ : ByteArray).data.toList = [c] from rfl, prefix_one] at hI
  have HI := Lib.hid hI
  clear hI
  by_cases hh : l.head? = some c
  · rw [decide_eq_true hh] at HI ⊢
    have hz : (⟨#[c]⟩ : ByteArray).size = 1 := rfl
    obtain ⟨x, r, hl⟩ : ∃ x r, l = x :: r := by
      cases l with
      | nil => cases hh
      | cons x r => exact ⟨x, r, rfl⟩
    obtain ⟨t, ht, hcut⟩ := hs.from_ (i := 1) 1 rfl (by rw [hl]; simp)
    have HT := Lib.hid (show Str t (cutP c l) by unfold cutP; rw [if_pos hh, hl]; rw [hl] at ht; exact ht)
    clear ht hh hs hl
    go_enter Tryz.func101, Tryz.ntmps101
    go_wp2_with fail
    refine HI.out.mono ?_
    rintro e w1 ⟨rfl, rfl⟩
    clear HI
    go_wp2_with fail
    go_ret2
    exact ⟨⟨_, rfl, HT.out⟩, rfl⟩
  · rw [decide_eq_false hh] at HI ⊢
    have HT := Lib.hid (show Str s (cutP c l) by unfold cutP; rw [if_neg hh]; exact hs)
    clear hh hs
    go_enter Tryz.func101, Tryz.ntmps101
    go_wp2_with fail
    refine HI.out.mono ?_
    rintro e w1 ⟨rfl, rfl⟩
    clear HI
    go_wp2_with fail
    go_ret2
    exact ⟨⟨_, rfl, HT.out⟩, rfl⟩
set_option maxRecDepth 100000 in
set_option maxHeartbeats 2000000 in
theorem cutpre_calls {s : ByteArray} {l : List UInt8} (hs : Str s l) (c : UInt8) (w : World) : Calls Tryz.prog 65 #[.string s, .string ⟨#[c]⟩] w fun e w' => (∃ t, e = .returned (.tuple #[.string t, .bool (decide (l.head? = some c))]) ∧ Str t (cutP c l)) ∧ w' = w := by
  have HI := Lib.hid (cutpre0_calls hs c w)
  generalize decide (l.head? = some c) = q at HI ⊢
  clear hs
  go_enter Tryz.func65, Tryz.ntmps65
  go_wp2_with fail
  refine HI.out.mono ?_
  rintro e w1 ⟨⟨t, rfl, ht⟩, rfl⟩
  have HT := Lib.hid ht
  clear HI ht
  go_wp2_with fail
  go_ret2
  exact ⟨⟨_, rfl, HT.out⟩, rfl⟩

/-- What a line's last part tells: t its text, n its place, be whether a bar stands behind it. -/
def rateP (t : List UInt8) (n : Nat) (be : Bool) (k : Int) : Int × Int × Int :=
  if t.head? ≠ some 64 then (0, 11, (n : Int))
  else if (rated t.tail).2.1 ≠ 0 ∨ (k = 2 ∧ (rated t.tail).1 ≠ 1000000) then (0, 18, (n : Int) + 1)
  else if be = true then (0, 11, (n : Int) + (t.length : Int)) else ((rated t.tail).1, 0, 0)
theorem restS_part (c : Nat) (name : List UInt8) (k : Int) (d : D) (L : List UInt8) :
    restS c name k d L = if (rateP (cutB 124 L).1 c (cutB 124 L).2.1 k).2.1 ≠ 0 then (M0, (rateP (cutB 124 L).1 c (cutB 124 L).2.1 k).2) else (oneS name k d (rateP (cutB 124 L).1 c (cutB 124 L).2.1 k).1, 0, 0) := by
  cases L with
  | nil => rfl
  | cons x r =>
    rw [restS_cons]
    by_cases hx : x = 64
    · subst hx
      have e : cutB 124 (64 :: r) = (64 :: (cutB 124 r).1, (cutB 124 r).2.1, (cutB 124 r).2.2) := by
        show (if (64 : UInt8) = 124 then _ else _) = _
        rw [if_neg (by decide)]
      rw [if_neg (by simp), e]
      show _ = if (rateP (64 :: (cutB 124 r).1) c (cutB 124 r).2.1 k).2.1 ≠ 0 then (M0, (rateP (64 :: (cutB 124 r).1) c (cutB 124 r).2.1 k).2) else (oneS name k d (rateP (64 :: (cutB 124 r).1) c (cutB 124 r).2.1 k).1, 0, 0)
      generalize (cutB 124 r).1 = q
      generalize (cutB 124 r).2.1 = be
      by_cases h1 : (rated q).2.1 ≠ 0 ∨ (k = 2 ∧ (rated q).1 ≠ 1000000)
      · have e2 : rateP (64 :: q) c be k = (0, 18, (c : Int) + 1) := by unfold rateP; rw [if_neg (by simp), List.tail_cons, if_pos h1]
        rw [if_pos h1, e2, if_pos (show ((18 : Int)) ≠ 0 by decide)]
        rfl
      · by_cases h2 : be = true
        · have e2 : rateP (64 :: q) c be k = (0, 11, (c : Int) + ((64 :: q).length : Int)) := by unfold rateP; rw [if_neg (by simp), List.tail_cons, if_neg h1, if_pos h2]
          rw [if_neg h1, if_pos h2, e2, if_pos (show ((11 : Int)) ≠ 0 by decide)]
          unfold failS
          simp only [List.length_cons, Prod.mk.injEq, true_and]
          omega
        · have e2 : rateP (64 :: q) c be k = ((rated q).1, 0, 0) := by unfold rateP; rw [if_neg (by simp), List.tail_cons, if_neg h1, if_neg h2]
          rw [if_neg h1, if_neg h2, e2, if_neg (by simp)]
    · rw [if_pos hx]
      have hh : (cutB 124 (x :: r)).1.head? ≠ some 64 := by
        show (if x = 124 then _ else _ : List UInt8 × Bool × List UInt8).1.head? ≠ _
        split
        · simp
        · simpa using hx
      have e : rateP (cutB 124 (x :: r)).1 c (cutB 124 (x :: r)).2.1 k = (0, 11, (c : Int)) := by unfold rateP; rw [if_pos hh]
      rw [e]
      rfl

structure TwoB (w W : World) (T : ByteArray) (n : Nat) (be : Bool) : Prop where
  part : Box W w.heap.size 61 [.string T, .int .i64 n, .bool be]
  res : Box W (w.heap.size + 1) 34 [.int .i64 0, .int .i64 0]
  kept : Below w.heap.size w W
section
variable {w W W' : World} {T : ByteArray} {n : Nat} {be : Bool}
theorem TwoB.start (w : World) (T : ByteArray) (n : Nat) (be : Bool) : TwoB w ((w.alloc (.cells #[.string T, .int .i64 n, .bool be] 61)).alloc (.cells #[.int .i64 0, .int .i64 0] 34)) T n be := by
  have HB := ((Kb.start w).push 61 [.string T, .int .i64 n, .bool be]).pushAt (g := w.heap.size + 1) (by rw [size_alloc]) 34 [.int .i64 0, .int .i64 0]
  exact ⟨HB.box (_, _, _) (.tail _ (.head _)), HB.box (_, _, _) (.head _), HB.kept⟩
theorem TwoB.next (h : TwoB w W T n be) (b : Below W.heap.size W W') : TwoB w W' T n be := ⟨h.part.keep b, h.res.keep b, below_then h.kept b⟩
theorem TwoB.alloc (h : TwoB w W T n be) (o : Obj) : TwoB w (W.alloc o) T n be := h.next ((Below.refl _ _).alloc (Nat.le_refl _) o)
theorem TwoB.drew (h : TwoB w W T n be) : TwoB w W.drew T n be := h.next (Same.below (Same.drewN W 1))
theorem TwoB.cells (h : TwoB w W T n be) : W.cell? ⟨w.heap.size, 0, none⟩ = some (.string T) ∧ W.cell? ⟨w.heap.size, 1, none⟩ = some (.int .i64 n) ∧ W.cell? ⟨w.heap.size, 2, none⟩ = some (.bool be) ∧ W.cell? ⟨w.heap.size + 1, 0, none⟩ = some (.int .i64 0) ∧ W.cell? ⟨w.heap.size + 1, 1, none⟩ = some (.int .i64 0) ∧ W.frozen? ⟨w.heap.size + 1, 0, none⟩ = false ∧ W.frozen? ⟨w.heap.size + 1, 1, none⟩ = false :=
  ⟨h.part.cell 0, h.part.cell 1, h.part.cell 2, h.res.cell 0, h.res.cell 1, h.res.frozen 0, h.res.frozen 1⟩
theorem TwoB.doneq (h : TwoB w W T n be) (x y : Value) : Box ((W.setCell ⟨w.heap.size + 1, 0, none⟩ x).setCell ⟨w.heap.size + 1, 1, none⟩ y).drew (w.heap.size + 1) 34 [x, y] ∧ Below w.heap.size w ((W.setCell ⟨w.heap.size + 1, 0, none⟩ x).setCell ⟨w.heap.size + 1, 1, none⟩ y).drew := by
  have b1 : Box ((W.setCell ⟨w.heap.size + 1, 0, none⟩ x).setCell ⟨w.heap.size + 1, 1, none⟩ y) (w.heap.size + 1) 34 [x, y] := (h.res.set 0 x).set 1 y
  have b2 : Below w.heap.size w ((W.setCell ⟨w.heap.size + 1, 0, none⟩ x).setCell ⟨w.heap.size + 1, 1, none⟩ y) := below_set (below_set h.kept (by omega) 0 x) (by omega) 1 y
  exact ⟨b1.keep (Same.below (Same.drewN _ 1)), b2.trans ((Same.below (Same.drewN _ 1)).mono b2.size)⟩
theorem TwoB.done (h : TwoB w W T n be) (x y : Value) : Box ((W.setCell ⟨w.heap.size + 1, 0, none⟩ x).setCell ⟨w.heap.size + 1, 1, none⟩ y) (w.heap.size + 1) 34 [x, y] ∧ Below w.heap.size w ((W.setCell ⟨w.heap.size + 1, 0, none⟩ x).setCell ⟨w.heap.size + 1, 1, none⟩ y) :=
  ⟨(h.res.set 0 x).set 1 y, below_set (below_set h.kept (by omega) 0 x) (by omega) 1 y⟩
end

set_option maxRecDepth 100000 in
set_option maxHeartbeats 4000000 in
theorem rateof_calls {T : ByteArray} {t : List UInt8} (hs : Str T t) (hl : t.length ≤ 1000) (n : Nat) (hn : n ≤ 100000) (be : Bool) (k : Int) (w : World) :
    Calls Tryz.prog 36 #[.agg #[.string T, .int .i64 n, .bool be], .int .i64 k] w (Told3 w (rateP t n be k)) := by
  obtain ⟨x, hx⟩ : ∃ x, rateP t n be k = x := ⟨_, rfl⟩
  rw [hx]
  obtain ⟨hd, hhd⟩ : ∃ h : Bool, h = decide (t.head? = some 64) := ⟨_, rfl⟩
  have hC := cutpre_calls hs 64
  rw [← hhd] at hC
  have HC := Lib.hid hC
  have HS := Lib.hid (And.intro hs (And.intro hx hhd))
  have HB := Lib.hid (TwoB.start w T n be)
  have hsz : (T.size : Int) = (t.length : Int) := by rw [hs.size]
  have gn : (0 : Int) ≤ (n : Int) ∧ (n : Int) ≤ 100000 := by omega
  have gl : (0 : Int) ≤ (t.length : Int) ∧ (t.length : Int) ≤ 1000 := by omega
  clear hC hs hx hhd
  go_enter Tryz.func36, Tryz.ntmps36
  go_wp2_with fail
  refine (HC.out _).mono ?_
  rintro e w1 ⟨⟨q, rfl, hq⟩, rfl⟩
  obtain ⟨W1, hW1⟩ : ∃ W, W = ((w.alloc (.cells #[.string T, .int .i64 n, .bool be] 61)).alloc (.cells #[.int .i64 0, .int .i64 0] 34)) := ⟨_, rfl⟩
  rw [← hW1] at HB ⊢
  have HQ := Lib.hid hq
  clear HC hq hW1
  cases hd
  · have HE := Lib.hid (show x = (0, 11, (n : Int)) by rw [← HS.out.2.1]; unfold rateP; rw [if_pos (of_decide_eq_false HS.out.2.2.symm)])
    obtain ⟨c0, c1, c2, c3, c4, f0, f1⟩ := HB.out.cells
    go_wp2_with fail
    go_region
    all_goals
      have HD := Lib.hid (HB.out.doneq (.int .i64 11) (.int .i64 n))
      go_wp2_with fail
      refine ret_nf rfl rfl rfl rfl HD.out.1 ?_
      exact told3_of HE.out HD.out.2
  have hh : t.head? = some 64 := of_decide_eq_true HS.out.2.2.symm
  have HQ2 := Lib.hid (show Str q t.tail by have := HQ.out; unfold cutP at this; rwa [if_pos hh] at this)
  obtain ⟨r, c2, a2, hr⟩ : ∃ r c2 a2, rated t.tail = (r, c2, a2) := ⟨_, _, _, rfl⟩
  have hQ := fun W => (nrate_calls q _ HQ2.out (by rw [HQ2.out.size, List.length_tail]; omega) W).mono fun _ _ k => told3_says hr k
  have HX := Lib.hid (show x = if c2 ≠ 0 ∨ (k = 2 ∧ r ≠ 1000000) then (0, 18, (n : Int) + 1) else if be = true then (0, 11, (n : Int) + (t.length : Int)) else (r, 0, 0) by
    rw [← HS.out.2.1]; unfold rateP; rw [if_neg (by simp [hh]), hr])
  have HR := Lib.hid hQ
  clear hr hQ hh HQ
  go_wp2_with fail
  refine (HR.out _).mono ?_
  rintro e w2 ⟨rfl, hb⟩
  have HB2 := Lib.hid ((HB.out.next hb).alloc (.cells #[.int .i64 c2, .int .i64 a2] 34))
  clear hb HB HR
  obtain ⟨g, hgd⟩ : ∃ g : Bool, g = decide (c2 ≠ 0 ∨ (k = 2 ∧ r ≠ 1000000)) := ⟨_, rfl⟩
  have HG := Lib.hid hgd
  clear hgd
  go_upto_region 5 with fail
  go_cut [36] from 10 (fun s36 wx => s36 = .bool g ∧ w2.alloc (.cells #[.int .i64 c2, .int .i64 a2] 34) = wx)
  case first =>
    rcases (by by_cases h : c2 = 0 <;> by_cases h2 : k = 2 <;> by_cases h3 : r = 1000000 <;> simp [h, h2, h3] : (c2 != 0) = true ∨ ((c2 != 0) = false ∧ (k == 2) = false) ∨ ((c2 != 0) = false ∧ (k == 2) = true ∧ (r != 1000000) = false) ∨ ((c2 != 0) = false ∧ (k == 2) = true ∧ (r != 1000000) = true)) with h1 | ⟨h1, h2⟩ | ⟨h1, h2, h3⟩ | ⟨h1, h2, h3⟩
    · have HE := Lib.hid (show g = true by rw [HG.out]; exact decide_eq_true (.inl (by simpa using h1)))
      go_wp2_with fail
      go_meet
      exact ⟨by rw [HE.out], rfl⟩
    · have HE := Lib.hid (show g = false by rw [HG.out]; exact decide_eq_false (by simp at h1 h2; simp [h1, h2]))
      go_wp2_with fail
      go_meet
      exact ⟨by rw [HE.out], rfl⟩
    · have HE := Lib.hid (show g = false by rw [HG.out]; exact decide_eq_false (by simp at h1 h3; simp [h1, h3]))
      go_wp2_with fail
      go_meet
      exact ⟨by rw [HE.out], rfl⟩
    · have HE := Lib.hid (show g = true by rw [HG.out]; exact decide_eq_true (.inr ⟨by simpa using h2, by simpa using h3⟩))
      go_wp2_with fail
      go_meet
      exact ⟨by rw [HE.out], rfl⟩
  case rest =>
  obtain ⟨rfl, hwc⟩ := hcut
  rw [hwc] at HB2
  clear hwc
  obtain ⟨c0, c1, c2', c3, c4, f0, f1⟩ := HB2.out.cells
  cases g
  rotate_left
  · have HE := Lib.hid (show x = (0, 18, (n : Int) + 1) by rw [HX.out, if_pos (of_decide_eq_true HG.out.symm)])
    go_wp2_with fail
    go_region
    all_goals
      have HD := Lib.hid (HB2.out.doneq (.int .i64 18) (.int .i64 ((n : Int) + 1)))
      go_wp2_with fail
      refine ret_nf rfl rfl rfl rfl HD.out.1 ?_
      exact told3_of HE.out HD.out.2
  have HXA := Lib.hid (show x = if be = true then (0, 11, (n : Int) + (t.length : Int)) else (r, 0, 0) by rw [HX.out, if_neg (of_decide_eq_false HG.out.symm)])
  cases be
  · have HE := Lib.hid (show x = (r, 0, 0) by rw [HXA.out]; rfl)
    have HD := Lib.hid (HB2.out.done (.int .i64 0) (.int .i64 0))
    go_wp2_with fail
    refine ret_nf rfl rfl rfl rfl HD.out.1 ?_
    exact told3_of HE.out HD.out.2
  · have HE := Lib.hid (show x = (0, 11, (n : Int) + (t.length : Int)) by rw [HXA.out]; rfl)
    go_wp2_with fail
    go_region
    all_goals
      have HD := Lib.hid (HB2.out.doneq (.int .i64 11) (.int .i64 ((n : Int) + (t.length : Int))))
      go_wp2_with fail
      refine ret_nf rfl rfl rfl rfl HD.out.1 ?_
      exact told3_of HE.out HD.out.2
end Go.Proofs.YtdliookdmgilgaaGreatDoor
