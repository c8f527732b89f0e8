/-
  The walk of GraphiteCut. No statement of the seat is proved here.
-/
import Derived.Test.YtmaiggoinjldpaaDoorLawGBack
import Derived.Deep.RegionHeld3
namespace Go.Proofs.YtmaiggoinjldpaaDoor
open Go.RowKit
open Dc (D D0)

/-- What stands behind a whole line. -/
theorem behindG_is {m : Mt} (h : metricE m 3 = 0) (s : List UInt8) : parseG (lineGT m ++ 32 :: s) = (M0, 11, ((lineGT m).length : Int)) := by
  obtain ⟨name, d, t, rfl, hs⟩ := metricE_saidG h
  unfold lineGT
  rw [if_pos h]
  exact hs.behind s
/-- A line that is cut off. -/
theorem offG_cases {m : Mt} (h : metricE m 3 = 0) {left : Nat} (hl : left < (lineGT m).length) :
    (∃ c a : Int, parseG ((lineGT m).take left) = (M0, c, a) ∧ c ≠ 0 ∧ a ≤ (left : Int)) ∨ ∃ m', parseG ((lineGT m).take left) = (m', 0, 0) ∧ m'.name = m.name ∧ m'.time < m.time := by
  obtain ⟨name, d, t, rfl, hs⟩ := metricE_saidG h
  unfold lineGT at *
  rw [if_pos h] at *
  rcases cut_offG hs hl with ⟨c, a, e, h1, h2⟩ | ⟨d', t', e, _, h2⟩
  · exact .inl ⟨c, a, e, h1, by omega⟩
  · exact .inr ⟨_, e, rfl, h2⟩
/-- A blank more. -/
theorem moreG_is {m : Mt} (h : metricE m 3 = 0) (left : Nat) : (parseG ((lineGT m).take left ++ 32 :: (lineGT m).drop left)).2.1 ≠ 0 := by
  obtain ⟨name, d, t, rfl, hs⟩ := metricE_saidG h
  unfold lineGT
  rw [if_pos h]
  exact blank_more hs left

/-- A metric's block, of nothing. -/
structure SixC (w : World) (g : Nat) : Prop where
  c0 : w.cell? ⟨g, 0, none⟩ = some (.string ⟨#[]⟩)
  f0 : w.frozen? ⟨g, 0, none⟩ = false
  d0 : ∀ o, (w.alloc o).cell? ⟨g, 0, none⟩ = some (.string ⟨#[]⟩)
  h0 : ∀ o, (w.alloc o).frozen? ⟨g, 0, none⟩ = false
  c1 : w.cell? ⟨g, 1, none⟩ = some (.int .i64 0)
  f1 : w.frozen? ⟨g, 1, none⟩ = false
  d1 : ∀ o, (w.alloc o).cell? ⟨g, 1, none⟩ = some (.int .i64 0)
  h1 : ∀ o, (w.alloc o).frozen? ⟨g, 1, none⟩ = false
  c2 : w.cell? ⟨g, 2, none⟩ = some (.slice none 0 0)
  f2 : w.frozen? ⟨g, 2, none⟩ = false
  d2 : ∀ o, (w.alloc o).cell? ⟨g, 2, none⟩ = some (.slice none 0 0)
  h2 : ∀ o, (w.alloc o).frozen? ⟨g, 2, none⟩ = false
  c3 : w.cell? ⟨g, 3, none⟩ = some (.int .i64 0)
  f3 : w.frozen? ⟨g, 3, none⟩ = false
  d3 : ∀ o, (w.alloc o).cell? ⟨g, 3, none⟩ = some (.int .i64 0)
  h3 : ∀ o, (w.alloc o).frozen? ⟨g, 3, none⟩ = false
  c4 : w.cell? ⟨g, 4, none⟩ = some (.slice none 0 0)
  f4 : w.frozen? ⟨g, 4, none⟩ = false
  d4 : ∀ o, (w.alloc o).cell? ⟨g, 4, none⟩ = some (.slice none 0 0)
  h4 : ∀ o, (w.alloc o).frozen? ⟨g, 4, none⟩ = false
  c5 : w.cell? ⟨g, 5, none⟩ = some (.int .i64 0)
  f5 : w.frozen? ⟨g, 5, none⟩ = false
  d5 : ∀ o, (w.alloc o).cell? ⟨g, 5, none⟩ = some (.int .i64 0)
  h5 : ∀ o, (w.alloc o).frozen? ⟨g, 5, none⟩ = false
/-- A fault's block, of nothing. -/
structure TwoC (w : World) (g : Nat) : Prop where
  box : Box w g 29 [.int .i64 0, .int .i64 0]
  c0 : w.cell? ⟨g, 0, none⟩ = some (.int .i64 0)
  f0 : w.frozen? ⟨g, 0, none⟩ = false
  d0 : ∀ o, (w.alloc o).cell? ⟨g, 0, none⟩ = some (.int .i64 0)
  h0 : ∀ o, (w.alloc o).frozen? ⟨g, 0, none⟩ = false
  c1 : w.cell? ⟨g, 1, none⟩ = some (.int .i64 0)
  f1 : w.frozen? ⟨g, 1, none⟩ = false
  d1 : ∀ o, (w.alloc o).cell? ⟨g, 1, none⟩ = some (.int .i64 0)
  h1 : ∀ o, (w.alloc o).frozen? ⟨g, 1, none⟩ = false
theorem six_of {w : World} {g : Nat} (h : Box w g 26 [.string ⟨#[]⟩, .int .i64 0, .slice none 0 0, .int .i64 0, .slice none 0 0, .int .i64 0]) : SixC w g :=
  ⟨h.cell 0, h.frozen 0, fun o => (h.alloc o).cell 0, fun o => (h.alloc o).frozen 0, h.cell 1, h.frozen 1, fun o => (h.alloc o).cell 1, fun o => (h.alloc o).frozen 1, h.cell 2, h.frozen 2, fun o => (h.alloc o).cell 2, fun o => (h.alloc o).frozen 2, h.cell 3, h.frozen 3, fun o => (h.alloc o).cell 3, fun o => (h.alloc o).frozen 3, h.cell 4, h.frozen 4, fun o => (h.alloc o).cell 4, fun o => (h.alloc o).frozen 4, h.cell 5, h.frozen 5, fun o => (h.alloc o).cell 5, fun o => (h.alloc o).frozen 5⟩
theorem two_of {w : World} {g : Nat} (h : Box w g 29 [.int .i64 0, .int .i64 0]) : TwoC w g :=
  ⟨h, h.cell 0, h.frozen 0, fun o => (h.alloc o).cell 0, fun o => (h.alloc o).frozen 0, h.cell 1, h.frozen 1, fun o => (h.alloc o).cell 1, fun o => (h.alloc o).frozen 1⟩
theorem Box.drewk {W w' : World} {g : Nat} {t : TypeId} {cs : List Value} (h : Box W g t cs) (hb : Below W.drew.heap.size W.drew w') : Box w' g t cs := (h.keep (Same.below (Same.drewN W 1))).keep hb
theorem new_B (W : World) {w' : World} {o : Obj} (hb : Below (W.alloc o).drew.heap.size (W.alloc o).drew w') : W.heap.size ≠ w'.heap.size ∧ w'.heap.size ≠ W.heap.size := by
  have h1 := hb.size
  have h2 : (W.alloc o).drew.heap.size = W.heap.size + 1 := size_alloc W o
  omega
theorem laid_B (W : World) {w' : World} (hb : Below (W.alloc (.cells #[.string ⟨#[]⟩, .int .i64 0, .slice none 0 0, .int .i64 0, .slice none 0 0, .int .i64 0] 26)).drew.heap.size (W.alloc (.cells #[.string ⟨#[]⟩, .int .i64 0, .slice none 0 0, .int .i64 0, .slice none 0 0, .int .i64 0] 26)).drew w') : SixC w' W.heap.size := six_of ((Box.new W 26 [.string ⟨#[]⟩, .int .i64 0, .slice none 0 0, .int .i64 0, .slice none 0 0, .int .i64 0]).drewk hb)
theorem laid_C (W : World) {w' : World} (hb : Below (W.alloc (.cells #[.int .i64 0, .int .i64 0] 29)).drew.heap.size (W.alloc (.cells #[.int .i64 0, .int .i64 0] 29)).drew w') : TwoC w' W.heap.size := two_of ((Box.new W 29 [.int .i64 0, .int .i64 0]).drewk hb)
theorem laid_D (W : World) {w' : World} (hb : Below ((W.alloc (.cells #[.string ⟨#[]⟩, .int .i64 0, .slice none 0 0, .int .i64 0, .slice none 0 0, .int .i64 0] 26)).alloc (.cells #[.int .i64 0, .int .i64 0] 29)).drew.heap.size ((W.alloc (.cells #[.string ⟨#[]⟩, .int .i64 0, .slice none 0 0, .int .i64 0, .slice none 0 0, .int .i64 0] 26)).alloc (.cells #[.int .i64 0, .int .i64 0] 29)).drew w') : SixC w' W.heap.size ∧ TwoC w' (W.heap.size + 1) := by
  have b := (Box.new (W.alloc (.cells #[.string ⟨#[]⟩, .int .i64 0, .slice none 0 0, .int .i64 0, .slice none 0 0, .int .i64 0] 26)) 29 [.int .i64 0, .int .i64 0]).drewk hb
  rw [size_alloc] at b
  exact ⟨six_of (((Box.new W 26 [.string ⟨#[]⟩, .int .i64 0, .slice none 0 0, .int .i64 0, .slice none 0 0, .int .i64 0]).alloc (.cells #[.int .i64 0, .int .i64 0] 29)).drewk hb), two_of b⟩
theorem laid_E (W : World) {w' : World} (hb : Below ((W.alloc (.cells #[.int .i64 0, .int .i64 0] 29)).alloc (.cells #[.string ⟨#[]⟩, .int .i64 0, .slice none 0 0, .int .i64 0, .slice none 0 0, .int .i64 0] 26)).drew.heap.size ((W.alloc (.cells #[.int .i64 0, .int .i64 0] 29)).alloc (.cells #[.string ⟨#[]⟩, .int .i64 0, .slice none 0 0, .int .i64 0, .slice none 0 0, .int .i64 0] 26)).drew w') : SixC w' (W.heap.size + 1) ∧ TwoC w' W.heap.size := by
  have b := (Box.new (W.alloc (.cells #[.int .i64 0, .int .i64 0] 29)) 26 [.string ⟨#[]⟩, .int .i64 0, .slice none 0 0, .int .i64 0, .slice none 0 0, .int .i64 0]).drewk hb
  rw [size_alloc] at b
  exact ⟨six_of b, two_of (((Box.new W 29 [.int .i64 0, .int .i64 0]).alloc (.cells #[.string ⟨#[]⟩, .int .i64 0, .slice none 0 0, .int .i64 0, .slice none 0 0, .int .i64 0] 26)).drewk hb)⟩

theorem newly {W X w' : World} (h : Below W.heap.size W X) (hb : Below X.drew.heap.size X.drew w') : Below W.heap.size W w' := below_then h (below_then (Same.below (Same.drewN X 1)) hb)
/-- What a statement leaves that parses a text: a fault lies in a block of its own. -/
structure FinC (W V : World) (g : Nat) (c a : Int) : Prop where
  kept : Below W.heap.size W V
  box : Box V g 29 [.int .i64 c, .int .i64 a]
theorem fin_use {P : World → Prop} {W V : World} {g : Nat} {c a : Int} (h : FinC W V g c a) (k : ∀ V, FinC W V g c a → P V) : P V := k V h
section
variable {W w6 : World} {c a : Int}
theorem fin_two {V : World} {g : Nat} (h : Below W.heap.size W V) (b : Box V g 29 [.int .i64 0, .int .i64 0]) (hg : W.heap.size ≤ g) : FinC W ((V.setCell ⟨g, 0, none⟩ (.int .i64 c)).setCell ⟨g, 1, none⟩ (.int .i64 a)) g c a :=
  ⟨below_set (below_set h hg 0 _) hg 1 _, (b.set 0 _).set 1 _⟩
theorem fin_six {V : World} {g g' : Nat} (h : Below W.heap.size W V) (b : Box V g' 29 [.int .i64 0, .int .i64 0]) (hg : W.heap.size ≤ g) (hg' : W.heap.size ≤ g') (hne : g' ≠ g) (v0 v1 v2 v3 v4 v5 : Value) :
    FinC W ((((((((V.setCell ⟨g, 0, none⟩ v0).setCell ⟨g, 1, none⟩ v1).setCell ⟨g, 2, none⟩ v2).setCell ⟨g, 3, none⟩ v3).setCell ⟨g, 4, none⟩ v4).setCell ⟨g, 5, none⟩ v5).setCell ⟨g', 0, none⟩ (.int .i64 c)).setCell ⟨g', 1, none⟩ (.int .i64 a)) g' c a :=
  fin_two (below_set (below_set (below_set (below_set (below_set (below_set h hg 0 _) hg 1 _) hg 2 _) hg 3 _) hg 4 _) hg 5 _)
    ((((((b.far (q := ⟨g, 0, none⟩) hne _).far (q := ⟨g, 1, none⟩) hne _).far (q := ⟨g, 2, none⟩) hne _).far (q := ⟨g, 3, none⟩) hne _).far (q := ⟨g, 4, none⟩) hne _).far (q := ⟨g, 5, none⟩) hne _) hg'
theorem fin1 (h : Below W.heap.size W w6) (o : Obj) : FinC W ((w6.alloc o).alloc (.cells #[.int .i64 c, .int .i64 a] 29)) (w6.heap.size + 1) c a := by
  have b := Box.new (w6.alloc o) 29 [.int .i64 c, .int .i64 a]
  rw [size_alloc] at b
  exact ⟨below_then h (((Below.refl _ w6).alloc (Nat.le_refl _) o).alloc (by simp) _), b⟩
theorem fin2 (h : Below W.heap.size W w6) (o : Obj) : FinC W ((w6.alloc (.cells #[.int .i64 c, .int .i64 a] 29)).alloc o) w6.heap.size c a :=
  ⟨below_then h (((Below.refl _ w6).alloc (Nat.le_refl _) _).alloc (by simp) _), (Box.new w6 29 [.int .i64 c, .int .i64 a]).alloc o⟩
theorem fin3 (h : Below W.heap.size W w6) (hn : W.heap.size ≠ w6.heap.size) (v0 v1 v2 v3 v4 v5 : Value) :
    FinC W (((((((((w6.alloc (.cells #[.int .i64 0, .int .i64 0] 29)).setCell ⟨W.heap.size, 0, none⟩ v0).setCell ⟨W.heap.size, 1, none⟩ v1).setCell ⟨W.heap.size, 2, none⟩ v2).setCell ⟨W.heap.size, 3, none⟩ v3).setCell ⟨W.heap.size, 4, none⟩ v4).setCell ⟨W.heap.size, 5, none⟩ v5).setCell ⟨w6.heap.size, 0, none⟩ (.int .i64 c)).setCell ⟨w6.heap.size, 1, none⟩ (.int .i64 a)) w6.heap.size c a :=
  fin_six (below_then h ((Below.refl _ w6).alloc (Nat.le_refl _) _)) (Box.new w6 29 [.int .i64 0, .int .i64 0]) (Nat.le_refl _) h.size hn.symm v0 v1 v2 v3 v4 v5
theorem fin4 (h : Below W.heap.size W w6) (hx : SixC w6 W.heap.size ∧ TwoC w6 (W.heap.size + 1)) (v0 v1 v2 v3 v4 v5 : Value) :
    FinC W ((((((((w6.setCell ⟨W.heap.size, 0, none⟩ v0).setCell ⟨W.heap.size, 1, none⟩ v1).setCell ⟨W.heap.size, 2, none⟩ v2).setCell ⟨W.heap.size, 3, none⟩ v3).setCell ⟨W.heap.size, 4, none⟩ v4).setCell ⟨W.heap.size, 5, none⟩ v5).setCell ⟨W.heap.size + 1, 0, none⟩ (.int .i64 c)).setCell ⟨W.heap.size + 1, 1, none⟩ (.int .i64 a)) (W.heap.size + 1) c a :=
  fin_six h hx.2.box (Nat.le_refl _) (Nat.le_succ _) (by omega) v0 v1 v2 v3 v4 v5
theorem fin5 (h : Below W.heap.size W w6) (hx : TwoC w6 W.heap.size) (o : Obj) :
    FinC W (((w6.alloc o).setCell ⟨W.heap.size, 0, none⟩ (.int .i64 c)).setCell ⟨W.heap.size, 1, none⟩ (.int .i64 a)) W.heap.size c a :=
  fin_two (below_then h ((Below.refl _ w6).alloc (Nat.le_refl _) _)) (hx.box.alloc o) (Nat.le_refl _)
theorem fin6 (h : Below W.heap.size W w6) (hx : SixC w6 (W.heap.size + 1) ∧ TwoC w6 W.heap.size) (v0 v1 v2 v3 v4 v5 : Value) :
    FinC W ((((((((w6.setCell ⟨W.heap.size + 1, 0, none⟩ v0).setCell ⟨W.heap.size + 1, 1, none⟩ v1).setCell ⟨W.heap.size + 1, 2, none⟩ v2).setCell ⟨W.heap.size + 1, 3, none⟩ v3).setCell ⟨W.heap.size + 1, 4, none⟩ v4).setCell ⟨W.heap.size + 1, 5, none⟩ v5).setCell ⟨W.heap.size, 0, none⟩ (.int .i64 c)).setCell ⟨W.heap.size, 1, none⟩ (.int .i64 a)) W.heap.size c a :=
  fin_six h hx.2.box (Nat.le_succ _) (Nat.le_refl _) (by omega) v0 v1 v2 v3 v4 v5
end

set_option maxRecDepth 100000 in
set_option maxHeartbeats 4000000 in
theorem gcut_walk {w : World} {s : ByteArray} {A B : Option Addr} {n k ca cb : Nat} {m : Mt} (h : MIs w s A n B k m) (hf : ∀ d ∈ m.vals, d.Fits) (left : Int) (x : ByteArray) (ht : Tab w) :
    Calls Tryd.prog 6 #[mV s m.kind A n ca m.rate B k cb m.time, .int .i64 left, .string x] w fun e w' => e = .returned (.bool true) ∧ Below w.heap.size w w' := by
  obtain ⟨q, hq⟩ : ∃ q, smallM m = q := ⟨_, rfl⟩
  have HZ := Lib.hid (fun (e : q = true) => smallM_small (hq.trans e) hf)
  have HQ := Lib.hid hq
  have HB := Lib.hid (Kb.enter (ca := ca) (cb := cb) h)
  have HT := Lib.hid ht
  obtain ⟨l, hl⟩ : ∃ l, Str x l := ⟨_, Str.self x⟩
  have hsz : (x.size : Int) = (l.length : Int) := by rw [hl.size]
  have HX := Lib.hid hl
  unfold mV
  clear hq h hf ht hl
  obtain ⟨c0, c1, c2, c3, c4, c5⟩ := HB.out.six (.head _)
  go_enter Tryd.func6, Tryd.ntmps6
  go_wp2_with fail
  refine (HB.out.small10_ (.head _) HQ.out _ _).mono ?_
  rintro e w1 ⟨rfl, hb⟩
  have HB1 := Lib.hid hb
  clear hb HB c0 c1 c2 c3 c4 c5
  by_cases hin : q = true ∧ ¬ 100 < (x.size : Int)
  rotate_left
  · rcases (by cases q <;> simp at hin ⊢ <;> omega : q = false ∨ (q = true ∧ 100 < (x.size : Int))) with rfl | ⟨rfl, h2⟩
    all_goals
      clear hin
      go_wp2_with fail
      refine (HB1.out.awake12_ HT.out).mono ?_
      rintro e w2 ⟨rfl, hb⟩
      have HB2 := Lib.hid hb
      clear hb HB1
      go_wp2_with fail
      go_ret
      exact ⟨rfl, HB2.out.kept⟩
  obtain ⟨rfl, h100⟩ := hin
  have HS := Lib.hid (HZ.out rfl)
  clear HZ
  obtain ⟨c, hc⟩ : ∃ c, metricE m 3 = c := ⟨_, rfl⟩
  obtain ⟨t, htt⟩ : ∃ t, lineGT m = t := ⟨_, rfl⟩
  have HC := Lib.hid (And.intro hc htt)
  clear hc htt
  obtain ⟨c0, c1, c2, c3, c4, c5⟩ := HB1.out.six (.head _)
  by_cases hc0 : c = 0
  rotate_left
  · have hcb : (c != 0) = true := by simpa using hc0
    have ht0 : t = [] := by rw [← HC.out.2]; unfold lineGT; rw [HC.out.1, if_neg hc0]
    subst ht0
    go_wp2_with fail
    refine (HB1.out.gline_ (.head _) HS.out HT.out HC.out.2 HC.out.1 _ _).mono ?_
    rintro e w2 ⟨rfl, hb⟩
    have HB2 := Lib.hid hb
    clear hb HB1 c0 c1 c2 c3 c4 c5
    go_wp2_with fail
    refine (HB2.out.awake12_ HT.out).mono ?_
    rintro e w3 ⟨rfl, hb⟩
    have HB3 := Lib.hid hb
    clear hb HB2
    go_wp2_with fail
    go_ret
    exact ⟨rfl, HB3.out.kept⟩
  subst hc0
  have HL := Lib.hid (HB1.out.gline_ (.head _) HS.out HT.out HC.out.2 HC.out.1 ca cb)
  obtain ⟨T, hT⟩ : ∃ T : ByteArray, (⟨t.toArray⟩ : ByteArray) = T := ⟨_, rfl⟩
  have hTs : Str T t := by rw [← hT]; exact Str.mk _
  rw [hT] at HL
  have hlen := (lineGT_back HC.out.1).1
  rw [HC.out.2] at hlen
  have hTz : (T.size : Int) = (t.length : Int) := by rw [hTs.size]
  have gt : (0 : Int) ≤ (t.length : Int) ∧ (t.length : Int) ≤ 300 := by omega
  have HTS := Lib.hid hTs
  have hls : Str (T ++ (⟨#[32]⟩ : ByteArray) ++ x) (t ++ 32 :: l) := by
    have := (hTs.append (show Str ⟨#[32]⟩ [32] from rfl)).append HX.out
    simpa using this
  have hp : parseG (t ++ 32 :: l) = (M0, 11, (t.length : Int)) := by have := behindG_is HC.out.1 l; rwa [HC.out.2] at this
  have HP := Lib.hid (And.intro hls hp)
  have z2 : ((⟨#[32]⟩ : ByteArray).size : Int) = 1 := rfl
  have za := sizeG_add
  clear hls hp hT hTs
  go_wp2_with fail
  refine HL.out.mono ?_
  rintro e w2 ⟨rfl, hb⟩
  have HB2 := Lib.hid hb
  clear hb HB1 HL c0 c1 c2 c3 c4 c5
  go_wp2_with fail
  refine (HB2.out.gparse_ HP.out.1 (by simp; omega) HP.out.2).mono ?_
  rintro e w3 ⟨s9, A9, n9, ca9, B9, k9, cb9, rfl, hb⟩
  have HB3 := Lib.hid ((hb.lay2 (.string s9) (.int .i64 M0.kind) (.slice A9 n9 ca9) (.int .i64 M0.rate) (.slice B9 k9 cb9) (.int .i64 M0.time) (.int .i64 11) (.int .i64 (t.length : Int))).sub (L' := [(w3.heap.size + 1, 29, [.int .i64 11, .int .i64 (t.length : Int)]), (w.heap.size, 26, [.string s, .int .i64 m.kind, .slice A n ca, .int .i64 m.rate, .slice B k cb, .int .i64 m.time])]) (M' := [(s, A, n, B, k, m)]) (fun x hx => by simp only [List.mem_cons, List.not_mem_nil, or_false] at hx ⊢; rcases hx with rfl | rfl <;> simp) (fun x hx => .tail _ hx))
  clear hb HB2 HP
  have hg := fguard
  have p0 := HB3.out.cell (g := w3.heap.size + 1) (i := 0) (.head _) rfl
  have p1 := HB3.out.cell (g := w3.heap.size + 1) (i := 1) (.head _) rfl
  have p2 := fun w => fne_run (x := 11) (y := (t.length : Int)) (u := 11) (v := (t.length : Int)) (q := true) (decide_eq_true rfl) w
  by_cases hin : (0 : Int) ≤ left ∧ left < (t.length : Int)
  rotate_left
  · have hor : left < 0 ∨ (¬ left < 0 ∧ (t.length : Int) ≤ left) := by omega
    clear hin
    rcases hor with h1 | ⟨h1, h2⟩
    all_goals
      go_wp2_with fail
      refine (HB3.out.awake12_ HT.out).mono ?_
      rintro e w5 ⟨rfl, hb⟩
      have HB5 := Lib.hid hb
      clear hb HB3 p0 p1
      go_wp2_with fail
      go_ret
      exact ⟨rfl, HB5.out.kept⟩
  obtain ⟨h1, h2⟩ := hin
  obtain ⟨lf, hlf⟩ : ∃ lf : Nat, left = (lf : Int) := ⟨left.toNat, by omega⟩
  obtain ⟨S7, hS7, hcut7⟩ := HTS.out.to_ (j := left) lf hlf (by omega)
  obtain ⟨S8, hS8, hcut8⟩ := HTS.out.from_ (i := left) lf hlf (by omega)
  have hoc := offG_cases (left := lf) HC.out.1 (by rw [HC.out.2]; omega)
  rw [HC.out.2] at hoc
  have hmo := moreG_is HC.out.1 lf
  rw [HC.out.2] at hmo
  obtain ⟨m8, c8, a8, hp8⟩ : ∃ m8 c8 a8, parseG (t.take lf ++ 32 :: t.drop lf) = (m8, c8, a8) := ⟨_, _, _, rfl⟩
  rw [hp8] at hmo
  have z7 : (S7.size : Int) = left := by rw [hS7.size, List.length_take]; omega
  have z8 : (S8.size : Int) = (t.length : Int) - left := by rw [hS8.size, List.length_drop]; omega
  have hU : Str (S7 ++ (⟨#[32]⟩ : ByteArray) ++ S8) (t.take lf ++ 32 :: t.drop lf) := by
    have := (hS7.append (show Str ⟨#[32]⟩ [32] from rfl)).append hS8
    simpa using this
  have HU := Lib.hid (And.intro hU (And.intro (show (t.take lf ++ 32 :: t.drop lf).length ≤ 9000 by simp; omega) (And.intro hp8 hmo)))
  have g1 : ¬ left < 0 := by omega
  have g2 : ¬ (t.length : Int) ≤ left := by omega
  have hl9 : (t.take lf).length ≤ 9000 := by rw [List.length_take]; omega
  have HS7 := Lib.hid hS7
  clear hS7 hS8 hU hp8 hmo
  rcases hoc with ⟨c7, a7, hp, k1, k2⟩ | ⟨m7, hp, k1, k2⟩
  · have k3 : a7 ≤ left := by omega
    have q1 := fun w => fne_run (x := c7) (y := a7) (u := 0) (v := 0) (q := false) (decide_eq_false fun e => k1 (congrArg Prod.fst e)) w
    have q2 := fun w => feq_run (x := c7) (y := a7) (u := 0) (v := 0) (q := false) (decide_eq_false fun e => k1 (congrArg Prod.fst e)) w
    clear hlf k1 k2
    go_wp2_with fail
    refine (HB3.out.gparse_ HS7.out hl9 hp).mono ?_
    rintro e w5 ⟨s7, A7, n7, ca7, B7, k7, cb7, rfl, hb⟩
    have HB5 := Lib.hid (hb.lay2 (.string s7) (.int .i64 M0.kind) (.slice A7 n7 ca7) (.int .i64 M0.rate) (.slice B7 k7 cb7) (.int .i64 M0.time) (.int .i64 c7) (.int .i64 a7))
    clear hb HB3 hp p0 p1
    have f0 := HB5.out.cell (g := w5.heap.size + 1) (i := 0) (.head _) rfl
    have f1 := HB5.out.cell (g := w5.heap.size + 1) (i := 1) (.head _) rfl
    go_upto_region 13 with fail
    generalize World.alloc _ (.cells #[.int .i64 c7, .int .i64 a7] 29) = W5 at HB5 f0 f1 ⊢
    go_wp2_with fail
    have hsz3 : ¬ (9223372036854775807 < S7.size + 1) := by omega
    have hsz4 : ¬ (9223372036854775807 < S7.size + 1 + S8.size) := by omega
    clear f0 f1 q1 q2 p2 hg
    go_region_held3 (fun _ => True)
      (trivial)
      (first | (go_at_call 8; refine (gparse_calls HU.out.1 HU.out.2.1 _).mono ?_; intro e w6 hk; obtain ⟨s8, A8, n8, ca8, B8, k8, cb8, rfl, hm, hb⟩ := tells_says HU.out.2.2.1 hk; clear hk hm
                first
                  | (have hx := Lib.hid (show SixC w6 W5.heap.size ∧ TwoC w6 (W5.heap.size + 1) by with_reducible exact laid_D W5 hb); have HBW := Lib.hid (newly (((Below.refl _ W5).alloc (Nat.le_refl _) _).alloc (by simp) _) hb); obtain ⟨⟨uc0, uf0, ud0, uh0, uc1, uf1, ud1, uh1, uc2, uf2, ud2, uh2, uc3, uf3, ud3, uh3, uc4, uf4, ud4, uh4, uc5, uf5, ud5, uh5⟩, ⟨-, vc0, vf0, vd0, vh0, vc1, vf1, vd1, vh1⟩⟩ := hx.out)
                  | (have hx := Lib.hid (show SixC w6 (W5.heap.size + 1) ∧ TwoC w6 W5.heap.size by with_reducible exact laid_E W5 hb); have HBW := Lib.hid (newly (((Below.refl _ W5).alloc (Nat.le_refl _) _).alloc (by simp) _) hb); obtain ⟨⟨uc0, uf0, ud0, uh0, uc1, uf1, ud1, uh1, uc2, uf2, ud2, uh2, uc3, uf3, ud3, uh3, uc4, uf4, ud4, uh4, uc5, uf5, ud5, uh5⟩, ⟨-, vc0, vf0, vd0, vh0, vc1, vf1, vd1, vh1⟩⟩ := hx.out)
                  | (have hx := Lib.hid (show SixC w6 W5.heap.size by with_reducible exact laid_B W5 hb); have HBW := Lib.hid (newly ((Below.refl _ W5).alloc (Nat.le_refl _) _) hb); obtain ⟨hn1, hn2⟩ := new_B W5 hb; obtain ⟨uc0, uf0, ud0, uh0, uc1, uf1, ud1, uh1, uc2, uf2, ud2, uh2, uc3, uf3, ud3, uh3, uc4, uf4, ud4, uh4, uc5, uf5, ud5, uh5⟩ := hx.out)
                  | (have hx := Lib.hid (show TwoC w6 W5.heap.size by with_reducible exact laid_C W5 hb); have HBW := Lib.hid (newly ((Below.refl _ W5).alloc (Nat.le_refl _) _) hb); obtain ⟨hn1, hn2⟩ := new_B W5 hb; obtain ⟨-, vc0, vf0, vd0, vh0, vc1, vf1, vd1, vh1⟩ := hx.out)
                  | (have hx : Below W5.drew.heap.size W5.drew w6 := (by with_reducible exact hb); have HBW := Lib.hid (newly (Below.refl _ W5) hx); clear hx)
                clear hb))
    · with_reducible refine fin_use (P := fun V => Exit.then _ _ _ _ V) (fin1 HBW.out _) ?_
      intro V hF
      have f0 := hF.box.cell 0
      have f1 := hF.box.cell 1
      simp only [List.getElem?_cons_zero, List.getElem?_cons_succ] at f0 f1
      have hg := fguard
      have q3 := fun w => fne_run (x := c8) (y := a8) (u := 0) (v := 0) (q := false) (decide_eq_false fun e => HU.out.2.2.2 (congrArg Prod.fst e)) w
      have HB6 := Lib.hid (HB5.out.next hF.kept)
      clear hF HBW
      go_wp2_with fail
      refine (HB6.out.awake12_ HT.out).mono ?_
      rintro e w7 ⟨rfl, hb⟩
      have HB7 := Lib.hid hb
      clear hb HB6 f0 f1
      go_wp2_with fail
      go_ret
      exact ⟨rfl, HB7.out.kept⟩
    · with_reducible refine fin_use (P := fun V => Exit.then _ _ _ _ V) (fin2 HBW.out _) ?_
      intro V hF
      have f0 := hF.box.cell 0
      have f1 := hF.box.cell 1
      simp only [List.getElem?_cons_zero, List.getElem?_cons_succ] at f0 f1
      have hg := fguard
      have q3 := fun w => fne_run (x := c8) (y := a8) (u := 0) (v := 0) (q := false) (decide_eq_false fun e => HU.out.2.2.2 (congrArg Prod.fst e)) w
      have HB6 := Lib.hid (HB5.out.next hF.kept)
      clear hF HBW
      go_wp2_with fail
      refine (HB6.out.awake12_ HT.out).mono ?_
      rintro e w7 ⟨rfl, hb⟩
      have HB7 := Lib.hid hb
      clear hb HB6 f0 f1
      go_wp2_with fail
      go_ret
      exact ⟨rfl, HB7.out.kept⟩
    · with_reducible refine fin_use (P := fun V => Exit.then _ _ _ _ V) (fin3 HBW.out hn1 _ _ _ _ _ _) ?_
      intro V hF
      have f0 := hF.box.cell 0
      have f1 := hF.box.cell 1
      simp only [List.getElem?_cons_zero, List.getElem?_cons_succ] at f0 f1
      have hg := fguard
      have q3 := fun w => fne_run (x := c8) (y := a8) (u := 0) (v := 0) (q := false) (decide_eq_false fun e => HU.out.2.2.2 (congrArg Prod.fst e)) w
      have HB6 := Lib.hid (HB5.out.next hF.kept)
      clear hF HBW
      go_wp2_with fail
      refine (HB6.out.awake12_ HT.out).mono ?_
      rintro e w7 ⟨rfl, hb⟩
      have HB7 := Lib.hid hb
      clear hb HB6 f0 f1
      go_wp2_with fail
      go_ret
      exact ⟨rfl, HB7.out.kept⟩
    · with_reducible refine fin_use (P := fun V => Exit.then _ _ _ _ V) (fin4 HBW.out hx.out _ _ _ _ _ _) ?_
      intro V hF
      have f0 := hF.box.cell 0
      have f1 := hF.box.cell 1
      simp only [List.getElem?_cons_zero, List.getElem?_cons_succ] at f0 f1
      have hg := fguard
      have q3 := fun w => fne_run (x := c8) (y := a8) (u := 0) (v := 0) (q := false) (decide_eq_false fun e => HU.out.2.2.2 (congrArg Prod.fst e)) w
      have HB6 := Lib.hid (HB5.out.next hF.kept)
      clear hF HBW
      go_wp2_with fail
      refine (HB6.out.awake12_ HT.out).mono ?_
      rintro e w7 ⟨rfl, hb⟩
      have HB7 := Lib.hid hb
      clear hb HB6 f0 f1
      go_wp2_with fail
      go_ret
      exact ⟨rfl, HB7.out.kept⟩
    · with_reducible refine fin_use (P := fun V => Exit.then _ _ _ _ V) (fin5 HBW.out hx.out _) ?_
      intro V hF
      have f0 := hF.box.cell 0
      have f1 := hF.box.cell 1
      simp only [List.getElem?_cons_zero, List.getElem?_cons_succ] at f0 f1
      have hg := fguard
      have q3 := fun w => fne_run (x := c8) (y := a8) (u := 0) (v := 0) (q := false) (decide_eq_false fun e => HU.out.2.2.2 (congrArg Prod.fst e)) w
      have HB6 := Lib.hid (HB5.out.next hF.kept)
      clear hF HBW
      go_wp2_with fail
      refine (HB6.out.awake12_ HT.out).mono ?_
      rintro e w7 ⟨rfl, hb⟩
      have HB7 := Lib.hid hb
      clear hb HB6 f0 f1
      go_wp2_with fail
      go_ret
      exact ⟨rfl, HB7.out.kept⟩
    · with_reducible refine fin_use (P := fun V => Exit.then _ _ _ _ V) (fin6 HBW.out hx.out _ _ _ _ _ _) ?_
      intro V hF
      have f0 := hF.box.cell 0
      have f1 := hF.box.cell 1
      simp only [List.getElem?_cons_zero, List.getElem?_cons_succ] at f0 f1
      have hg := fguard
      have q3 := fun w => fne_run (x := c8) (y := a8) (u := 0) (v := 0) (q := false) (decide_eq_false fun e => HU.out.2.2.2 (congrArg Prod.fst e)) w
      have HB6 := Lib.hid (HB5.out.next hF.kept)
      clear hF HBW
      go_wp2_with fail
      refine (HB6.out.awake12_ HT.out).mono ?_
      rintro e w7 ⟨rfl, hb⟩
      have HB7 := Lib.hid hb
      clear hb HB6 f0 f1
      go_wp2_with fail
      go_ret
      exact ⟨rfl, HB7.out.kept⟩
  · have q1 := fun w => fne_run (x := 0) (y := 0) (u := 0) (v := 0) (q := true) (by decide) w
    have q2 := fun w => feq_run (x := 0) (y := 0) (u := 0) (v := 0) (q := true) (by decide) w
    have HK := Lib.hid (And.intro k1 k2)
    clear hlf k1 k2
    go_wp2_with fail
    refine (HB3.out.gparse_ HS7.out hl9 hp).mono ?_
    rintro e w5 ⟨s7, A7, n7, ca7, B7, k7, cb7, rfl, hb⟩
    obtain rfl : s = s7 := by
      have e1 := (hb.m (.head _)).name.eq
      have e2 := (hb.m (.tail _ (.head _))).name.eq
      rw [e1, e2, HK.out.1]
    have HB5 := Lib.hid (hb.lay2 (.string s) (.int .i64 m7.kind) (.slice A7 n7 ca7) (.int .i64 m7.rate) (.slice B7 k7 cb7) (.int .i64 m7.time) (.int .i64 0) (.int .i64 0))
    clear hb HB3 hp p0 p1
    have f0 := HB5.out.cell (g := w5.heap.size + 1) (i := 0) (.head _) rfl
    have f1 := HB5.out.cell (g := w5.heap.size + 1) (i := 1) (.head _) rfl
    obtain ⟨d0, d1, d2, d3, d4, d5⟩ := HB5.out.six (g := w5.heap.size) (.tail _ (.head _))
    obtain ⟨e0, e1, e2, e3, e4, e5⟩ := HB5.out.six (g := w.heap.size) (.tail _ (.tail _ (.tail _ (.head _))))
    have htm : ¬ m.time ≤ m7.time := by have := HK.out.2; omega
    go_upto_region 13 with fail
    generalize World.alloc _ (.cells #[.int .i64 0, .int .i64 0] 29) = W5 at HB5 f0 f1 d0 d1 d2 d3 d4 d5 e0 e1 e2 e3 e4 e5 ⊢
    go_wp2_with fail
    have hsz3 : ¬ (9223372036854775807 < S7.size + 1) := by omega
    have hsz4 : ¬ (9223372036854775807 < S7.size + 1 + S8.size) := by omega
    clear f0 f1 q1 q2 p2 hg d0 d1 d2 d3 d4 d5 e0 e1 e2 e3 e4 e5 htm
    go_region_held3 (fun _ => True)
      (trivial)
      (first | (go_at_call 8; refine (gparse_calls HU.out.1 HU.out.2.1 _).mono ?_; intro e w6 hk; obtain ⟨s8, A8, n8, ca8, B8, k8, cb8, rfl, hm, hb⟩ := tells_says HU.out.2.2.1 hk; clear hk hm
                first
                  | (have hx := Lib.hid (show SixC w6 W5.heap.size ∧ TwoC w6 (W5.heap.size + 1) by with_reducible exact laid_D W5 hb); have HBW := Lib.hid (newly (((Below.refl _ W5).alloc (Nat.le_refl _) _).alloc (by simp) _) hb); obtain ⟨⟨uc0, uf0, ud0, uh0, uc1, uf1, ud1, uh1, uc2, uf2, ud2, uh2, uc3, uf3, ud3, uh3, uc4, uf4, ud4, uh4, uc5, uf5, ud5, uh5⟩, ⟨-, vc0, vf0, vd0, vh0, vc1, vf1, vd1, vh1⟩⟩ := hx.out)
                  | (have hx := Lib.hid (show SixC w6 (W5.heap.size + 1) ∧ TwoC w6 W5.heap.size by with_reducible exact laid_E W5 hb); have HBW := Lib.hid (newly (((Below.refl _ W5).alloc (Nat.le_refl _) _).alloc (by simp) _) hb); obtain ⟨⟨uc0, uf0, ud0, uh0, uc1, uf1, ud1, uh1, uc2, uf2, ud2, uh2, uc3, uf3, ud3, uh3, uc4, uf4, ud4, uh4, uc5, uf5, ud5, uh5⟩, ⟨-, vc0, vf0, vd0, vh0, vc1, vf1, vd1, vh1⟩⟩ := hx.out)
                  | (have hx := Lib.hid (show SixC w6 W5.heap.size by with_reducible exact laid_B W5 hb); have HBW := Lib.hid (newly ((Below.refl _ W5).alloc (Nat.le_refl _) _) hb); obtain ⟨hn1, hn2⟩ := new_B W5 hb; obtain ⟨uc0, uf0, ud0, uh0, uc1, uf1, ud1, uh1, uc2, uf2, ud2, uh2, uc3, uf3, ud3, uh3, uc4, uf4, ud4, uh4, uc5, uf5, ud5, uh5⟩ := hx.out)
                  | (have hx := Lib.hid (show TwoC w6 W5.heap.size by with_reducible exact laid_C W5 hb); have HBW := Lib.hid (newly ((Below.refl _ W5).alloc (Nat.le_refl _) _) hb); obtain ⟨hn1, hn2⟩ := new_B W5 hb; obtain ⟨-, vc0, vf0, vd0, vh0, vc1, vf1, vd1, vh1⟩ := hx.out)
                  | (have hx : Below W5.drew.heap.size W5.drew w6 := (by with_reducible exact hb); have HBW := Lib.hid (newly (Below.refl _ W5) hx); clear hx)
                clear hb))
    · with_reducible refine fin_use (P := fun V => Exit.then _ _ _ _ V) (fin1 HBW.out _) ?_
      intro V hF
      have f0 := hF.box.cell 0
      have f1 := hF.box.cell 1
      simp only [List.getElem?_cons_zero, List.getElem?_cons_succ] at f0 f1
      have hg := fguard
      have q3 := fun w => fne_run (x := c8) (y := a8) (u := 0) (v := 0) (q := false) (decide_eq_false fun e => HU.out.2.2.2 (congrArg Prod.fst e)) w
      have HB6 := Lib.hid (HB5.out.next hF.kept)
      clear hF HBW
      go_wp2_with fail
      refine (HB6.out.awake12_ HT.out).mono ?_
      rintro e w7 ⟨rfl, hb⟩
      have HB7 := Lib.hid hb
      clear hb HB6 f0 f1
      go_wp2_with fail
      go_ret
      exact ⟨rfl, HB7.out.kept⟩
    · with_reducible refine fin_use (P := fun V => Exit.then _ _ _ _ V) (fin2 HBW.out _) ?_
      intro V hF
      have f0 := hF.box.cell 0
      have f1 := hF.box.cell 1
      simp only [List.getElem?_cons_zero, List.getElem?_cons_succ] at f0 f1
      have hg := fguard
      have q3 := fun w => fne_run (x := c8) (y := a8) (u := 0) (v := 0) (q := false) (decide_eq_false fun e => HU.out.2.2.2 (congrArg Prod.fst e)) w
      have HB6 := Lib.hid (HB5.out.next hF.kept)
      clear hF HBW
      go_wp2_with fail
      refine (HB6.out.awake12_ HT.out).mono ?_
      rintro e w7 ⟨rfl, hb⟩
      have HB7 := Lib.hid hb
      clear hb HB6 f0 f1
      go_wp2_with fail
      go_ret
      exact ⟨rfl, HB7.out.kept⟩
    · with_reducible refine fin_use (P := fun V => Exit.then _ _ _ _ V) (fin3 HBW.out hn1 _ _ _ _ _ _) ?_
      intro V hF
      have f0 := hF.box.cell 0
      have f1 := hF.box.cell 1
      simp only [List.getElem?_cons_zero, List.getElem?_cons_succ] at f0 f1
      have hg := fguard
      have q3 := fun w => fne_run (x := c8) (y := a8) (u := 0) (v := 0) (q := false) (decide_eq_false fun e => HU.out.2.2.2 (congrArg Prod.fst e)) w
      have HB6 := Lib.hid (HB5.out.next hF.kept)
      clear hF HBW
      go_wp2_with fail
      refine (HB6.out.awake12_ HT.out).mono ?_
      rintro e w7 ⟨rfl, hb⟩
      have HB7 := Lib.hid hb
      clear hb HB6 f0 f1
      go_wp2_with fail
      go_ret
      exact ⟨rfl, HB7.out.kept⟩
    · with_reducible refine fin_use (P := fun V => Exit.then _ _ _ _ V) (fin4 HBW.out hx.out _ _ _ _ _ _) ?_
      intro V hF
      have f0 := hF.box.cell 0
      have f1 := hF.box.cell 1
      simp only [List.getElem?_cons_zero, List.getElem?_cons_succ] at f0 f1
      have hg := fguard
      have q3 := fun w => fne_run (x := c8) (y := a8) (u := 0) (v := 0) (q := false) (decide_eq_false fun e => HU.out.2.2.2 (congrArg Prod.fst e)) w
      have HB6 := Lib.hid (HB5.out.next hF.kept)
      clear hF HBW
      go_wp2_with fail
      refine (HB6.out.awake12_ HT.out).mono ?_
      rintro e w7 ⟨rfl, hb⟩
      have HB7 := Lib.hid hb
      clear hb HB6 f0 f1
      go_wp2_with fail
      go_ret
      exact ⟨rfl, HB7.out.kept⟩
    · with_reducible refine fin_use (P := fun V => Exit.then _ _ _ _ V) (fin5 HBW.out hx.out _) ?_
      intro V hF
      have f0 := hF.box.cell 0
      have f1 := hF.box.cell 1
      simp only [List.getElem?_cons_zero, List.getElem?_cons_succ] at f0 f1
      have hg := fguard
      have q3 := fun w => fne_run (x := c8) (y := a8) (u := 0) (v := 0) (q := false) (decide_eq_false fun e => HU.out.2.2.2 (congrArg Prod.fst e)) w
      have HB6 := Lib.hid (HB5.out.next hF.kept)
      clear hF HBW
      go_wp2_with fail
      refine (HB6.out.awake12_ HT.out).mono ?_
      rintro e w7 ⟨rfl, hb⟩
      have HB7 := Lib.hid hb
      clear hb HB6 f0 f1
      go_wp2_with fail
      go_ret
      exact ⟨rfl, HB7.out.kept⟩
    · with_reducible refine fin_use (P := fun V => Exit.then _ _ _ _ V) (fin6 HBW.out hx.out _ _ _ _ _ _) ?_
      intro V hF
      have f0 := hF.box.cell 0
      have f1 := hF.box.cell 1
      simp only [List.getElem?_cons_zero, List.getElem?_cons_succ] at f0 f1
      have hg := fguard
      have q3 := fun w => fne_run (x := c8) (y := a8) (u := 0) (v := 0) (q := false) (decide_eq_false fun e => HU.out.2.2.2 (congrArg Prod.fst e)) w
      have HB6 := Lib.hid (HB5.out.next hF.kept)
      clear hF HBW
      go_wp2_with fail
      refine (HB6.out.awake12_ HT.out).mono ?_
      rintro e w7 ⟨rfl, hb⟩
      have HB7 := Lib.hid hb
      clear hb HB6 f0 f1
      go_wp2_with fail
      go_ret
      exact ⟨rfl, HB7.out.kept⟩
end Go.Proofs.YtmaiggoinjldpaaDoor
