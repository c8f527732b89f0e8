/-
  OgPieces, OgRoom. No statement of the seat is proved here.
-/
import Derived.Test.YtbcmchkgamkceaaGreatDoorGrSdMath
import Derived.Test.YtbcmchkgamkceaaGreatDoorGrMNormal
/-
  Lines of DogStatsD as plain data: pieces behind a line without any: a rate of 1, pieces twice or in another order, tags in another order. Nothing of the program.
-/
namespace Go.Proofs.YtbcmchkgamkceaaGreatDoor
open Dc (D D0)

theorem rated_one : rated [49] = (1000000, 0, 0) := by decide +kernel
theorem piece_one (k : Int) : pieceD k R0 [64, 49] = .inr ⟨1, 1000000, [], 0⟩ := by
  rw [pieceD_rate, if_neg (by decide), rated_one, if_neg (by rintro (h | ⟨_, h⟩); exact h rfl; exact h rfl)]
  rfl
theorem piece_again (k : Int) (x : Rt) (h : 1 ≤ x.last) (q : List UInt8) : pieceD k x (64 :: q) = .inl 11 := by rw [pieceD_rate, if_pos h]
theorem piece_tagged (k : Int) (x : Rt) (h : 2 ≤ x.last) (q : List UInt8) : pieceD k x (35 :: q) = .inl 11 := by rw [pieceD_tags, if_pos h]
theorem piece_a (k : Int) : pieceD k R0 [35, 97] = .inr ⟨2, 1000000, [([97], [])], 0⟩ := by
  rw [pieceD_tags, if_neg (by decide), show parseT [97] = .inr [([97], [])] from by decide +kernel]
  show (if 32 < [([97], [])].length then _ else _) = _
  rw [if_neg (by decide), show norm [(([97], []) : Tg)] = [([97], [])] from by decide +kernel]
  rfl
theorem piece_t5 (k : Int) : pieceD k R0 [84, 53] = .inr ⟨3, 1000000, [], 5⟩ := by
  rw [pieceD_time, if_neg (by decide), show parsed [53] 1 MaxT = (5, 0, 0) from by decide +kernel, if_neg (by simp)]
  rfl
theorem bare_len {m : Mt} (h : RightM m) (hr : m.rate = 1000000) (ht : m.tags = []) (hm : m.time = 0) : (lineD m).length ≤ 2800 := by
  have e1 : lenB (m.name :: m.vals.map Dc.text) = (headP m).length + 1 := lenB_join 58 (headP_ne m)
  rw [lenB_cons] at e1
  have h1 := (name_bytes h.name).2.1
  have h2 := vals_len m.vals h.vals
  have h3 := h.many
  have h4 := (wordD_len h.kind).2
  rw [bare_line hr ht hm]
  simp
  omega
/-- A rate of 1 that is told is nothing. -/
theorem bare_one {m : Mt} (h : RightM m) (hr : m.rate = 1000000) (ht : m.tags = []) (hm : m.time = 0) : parseD (lineD m ++ [124, 64, 49]) = (m, 0, 0) := by
  have := bare_len h hr ht hm
  rw [bare_more (x := [64, 49]) h hr ht hm (by simp; omega), show cutsB 124 [64, 49] = [[64, 49]] from by decide, restD_ok (piece_one _), restD_nil]
  obtain ⟨a, b, c, d, e, f⟩ := m
  simp only at hr ht hm
  subst hr ht hm
  rfl
theorem bare_ones {m : Mt} (h : RightM m) (hr : m.rate = 1000000) (ht : m.tags = []) (hm : m.time = 0) : parseD (lineD m ++ [124, 64, 49, 124, 64, 49]) = (M0, 11, ((lineD m).length : Int) + 4) := by
  have := bare_len h hr ht hm
  rw [bare_more (x := [64, 49, 124, 64, 49]) h hr ht hm (by simp; omega), show cutsB 124 [64, 49, 124, 64, 49] = [[64, 49], [64, 49]] from by decide, restD_ok (piece_one _), restD_bad (piece_again _ _ (Nat.le_refl _) _)]
  rfl
theorem bare_turned {m : Mt} (h : RightM m) (hr : m.rate = 1000000) (ht : m.tags = []) (hm : m.time = 0) : parseD (lineD m ++ [124, 84, 53, 124, 35, 97]) = (M0, 11, ((lineD m).length : Int) + 4) := by
  have := bare_len h hr ht hm
  rw [bare_more (x := [84, 53, 124, 35, 97]) h hr ht hm (by simp; omega), show cutsB 124 [84, 53, 124, 35, 97] = [[84, 53], [35, 97]] from by decide, restD_ok (piece_t5 _), restD_bad (piece_tagged _ _ (by decide) _)]
  rfl
theorem bare_turned2 {m : Mt} (h : RightM m) (hr : m.rate = 1000000) (ht : m.tags = []) (hm : m.time = 0) : parseD (lineD m ++ [124, 35, 97, 124, 64, 49]) = (M0, 11, ((lineD m).length : Int) + 4) := by
  have := bare_len h hr ht hm
  rw [bare_more (x := [35, 97, 124, 64, 49]) h hr ht hm (by simp; omega), show cutsB 124 [35, 97, 124, 64, 49] = [[35, 97], [64, 49]] from by decide, restD_ok (piece_a _), restD_bad (piece_again _ _ (by decide) _)]
  rfl
theorem bare_empty {m : Mt} (h : RightM m) (hr : m.rate = 1000000) (ht : m.tags = []) (hm : m.time = 0) : parseD (lineD m ++ [124]) = (M0, 11, ((lineD m).length : Int) + 1) := by
  have := bare_len h hr ht hm
  rw [bare_more (x := []) h hr ht hm (by simp; omega), show cutsB 124 [] = [[]] from rfl, restD_bad (pieceD_nil _ _)]
  rfl
/-- Tags in whatever order, and however often. -/
theorem bare_tags {m : Mt} (h : RightM m) (hr : m.rate = 1000000) (ht : m.tags = []) (hm : m.time = 0) {us : List Tg} (h0 : us ≠ []) (h1 : us.length ≤ 32) (h2 : ∀ t ∈ us, rightT t = true) : parseD (lineD m ++ 124 :: 35 :: textT us) = ({ m with tags := norm us }, 0, 0) := by
  have := bare_len h hr ht hm
  have hl := tags_len us h2
  have hb : (124 : UInt8) ∉ 35 :: textT us := by
    simp only [List.mem_cons, not_or]
    exact ⟨by decide, tags_bar h2⟩
  rw [bare_more (x := 35 :: textT us) h hr ht hm (by unfold textT; simp; omega), cutsB_no hb]
  have e := restD_tags (k := m.kind) h1 h2 (x := R0) (by decide) rfl ((lineD m).length + 1)
  unfold tagsP at e
  rw [if_neg h0, if_neg h0] at e
  rw [e]
  obtain ⟨a, b, c, d, e, f⟩ := m
  simp only at hr ht hm
  subst hr hm
  rfl
/-- One tag's line says its text. -/
theorem bare_tag {m : Mt} (hr : m.rate = 1000000) (ht : m.tags = []) (hm : m.time = 0) (t : Tg) : lineD { m with tags := [t] } = lineD m ++ 124 :: 35 :: txt t := by
  have e : linePs { m with tags := [t] } = [headP m, wordD m.kind, 35 :: txt t] := by
    unfold linePs rateP10 tagsP timeP
    show headP m :: wordD m.kind :: ((if m.rate = 1000000 then [] else _) ++ ((if [t] = [] then [] else [35 :: textT [t]]) ++ (if m.time = 0 then [] else _))) = _
    rw [if_pos hr, if_neg (by simp), if_pos hm]
    unfold textT
    rw [List.map_cons, List.map_nil, Lib.join_one]
    rfl
  rw [bare_line hr ht hm]
  unfold lineD
  rw [e, joinB_two, joinB_two, Lib.join_one]
  simp
end Go.Proofs.YtbcmchkgamkceaaGreatDoor

/-
  Normal, of tags and of metrics, with what is known of the room of the tags' slice. No statement of the seat is proved here.
-/
namespace Go.Proofs.YtbcmchkgamkceaaGreatDoor
open Go.RowKit
open Dc (D D0)

/-- What Normal of tags tells: the slice has room for what is in it. -/
def NormRo (w : World) (r : List Tg) (e : Ending) (w' : World) : Prop := (∃ A cap, e = .returned (.slice A r.length cap) ∧ Tags w' A r ∧ r.length ≤ cap) ∧ Below w.heap.size w w'
set_option maxRecDepth 100000 in
set_option maxHeartbeats 2000000 in
theorem normal_room {w : World} {A : Option Addr} {n cap : Nat} {ts : List Tg} (hn : ts.length = n) (hA : Tags w A ts) (hz : n ≤ 1000) :
    Calls Tryz.prog 48 #[.slice A n cap] w (NormRo w (norm ts)) := by
  have HC := Lib.hid (clone_calls (cap := cap) hn hA hz)
  have HN := Lib.hid hn
  clear hn hA
  go_enter Tryz.func48, Tryz.ntmps48
  go_wp2_with fail
  refine HC.out.mono ?_
  rintro e w1 ⟨hb, h⟩
  clear HC
  rcases h with ⟨rfl, h0⟩ | ⟨g, cap', rfl, hr, hg⟩
  · have HB := Lib.hid (And.intro hb h0)
    clear hb h0
    go_wp2_with fail
    refine (sortnil_calls _).mono ?_
    rintro e w2 ⟨rfl, rfl⟩
    go_wp2_with fail
    refine (compactnil_calls _).mono ?_
    rintro e w3 ⟨rfl, rfl⟩
    go_wp2_with fail
    go_ret
    refine ⟨⟨none, 0, by rw [HB.out.2]; rfl, by rw [HB.out.2]; exact Tags.nil, by rw [HB.out.2]; exact Nat.le_refl _⟩, HB.out.1⟩
  · have hsort := sort_calls hr (by rw [HN.out]; exact hz)
    rw [HN.out] at hsort
    have hroom0 : ts.length ≤ cap' := by obtain ⟨_, _, _, _, h⟩ := hr; exact h
    have HB := Lib.hid (And.intro hb hg)
    have HG := Lib.hid (show ts.length ≤ cap' from hroom0)
    have HS := Lib.hid hsort
    clear hb hr hg hsort
    go_wp2_with fail
    refine HS.out.mono ?_
    rintro e w2 ⟨rfl, hbut, d, hd, hrow, hcomp⟩
    have hcc := compact_calls hrow (by omega)
    have hroom : (norm ts).length ≤ cap' := Nat.le_trans (norm_length ts) HG.out
    rw [hcomp, hd] at hcc
    have HB2 := Lib.hid (And.intro (HB.out.1.trans (hbut.below HB.out.2 HB.out.1.size)) HB.out.2)
    have HK := Lib.hid hcc
    clear hbut hrow hcomp hcc HS HB hd
    go_wp2_with fail
    refine HK.out.mono ?_
    rintro e w3 ⟨rfl, ht, hbut⟩
    have HR := Lib.hid (And.intro ht (HB2.out.1.trans (hbut.below HB2.out.2 HB2.out.1.size)))
    clear ht hbut HK HB2
    go_wp2_with fail
    go_ret
    exact ⟨⟨_, _, rfl, HR.out.1, hroom⟩, HR.out.2⟩


/-- The same of a metric. -/
def NormMRo (w : World) (m : Mt) (e : Ending) (w' : World) : Prop :=
  (∃ s A n ca B k cb, e = .returned (.tuple #[mV s (nM m).kind A n ca (nM m).rate B k cb (nM m).time, .int .i64 (codeM m)]) ∧ MIs w' s A n B k (nM m) ∧ k ≤ cb) ∧ Below w.heap.size w w'
section
variable {w : World} {s : ByteArray} {A B : Option Addr} {n k ca cb : Nat} {m : Mt}
set_option maxRecDepth 100000 in
set_option maxHeartbeats 4000000 in
theorem mnormal_room (h : MIs w s A n B k m) (hz : Small m) : Calls Tryz.prog 21 #[mV s m.kind A n ca m.rate B k cb m.time] w (NormMRo w m) := by
  have hF := fun W (b : Below w.heap.size w W) => forms_calls (cap := ca) h.vlen (h.vals.keep b) (by have := h.vlen; have := hz.vals; omega) hz.fits
  have hT := fun W (b : Below w.heap.size w W) => normal_room (cap := cb) h.tlen (h.tags.keep b) (by have := h.tlen; have := hz.tags; omega)
  have hC := fun W (b : Below w.heap.size w W) A' ca' (hd : Decs W A' (valM m).vals) => mcheck_calls (w := W) (s := s) (A := A') (B := B) (n := n) (k := k) (ca := ca') (cb := cb) (m := valM m) ⟨h.name, by show (m.vals.map form).length = n; rw [List.length_map]; exact h.vlen, hd, h.tlen, h.tags.keep b⟩ hz.val
  obtain ⟨q, hq⟩ : ∃ q, codeM m = q := ⟨_, rfl⟩
  simp only [checkM_val, hq] at hC
  obtain ⟨kd, hkd⟩ : ∃ x, x = m.kind := ⟨_, rfl⟩
  obtain ⟨rt, hrt⟩ : ∃ x, x = m.rate := ⟨_, rfl⟩
  obtain ⟨tm, htm⟩ : ∃ x, x = m.time := ⟨_, rfl⟩
  simp only [show (valM m).kind = m.kind from rfl, show (valM m).rate = m.rate from rfl, show (valM m).time = m.time from rfl] at hC
  rw [← hkd, ← hrt, ← htm] at hC ⊢
  have HF := Lib.hid hF
  have HT := Lib.hid hT
  have HH := Lib.hid (And.intro h (And.intro hq (And.intro hkd (And.intro hrt htm))))
  have b0 := ((Kb.start w).push 35 (mC s kd A n ca rt B k cb tm)).push 35 (mC ⟨#[]⟩ 0 none 0 0 0 none 0 0 0)
  rw [size_alloc] at b0
  unfold mC at b0
  have HB := Lib.hid b0
  unfold mV at hC ⊢
  have HC := Lib.hid hC
  clear hF hT hC h hz hq hkd hrt htm b0
  go_enter Tryz.func21, Tryz.ntmps21
  go_wp2_with fail
  refine (HF.out _ HB.out.kept).mono ?_
  rintro e w1 ⟨⟨v, rfl, hown⟩, hb⟩
  obtain ⟨A', ca', rfl, _⟩ := own_slice_at hown
  have x0 : Box w1 w.heap.size 35 (mC s kd A n ca rt B k cb tm) := (HB.out.next hb).box _ (.tail _ (.head _))
  have y0 : Box w1 (w.heap.size + 1) 35 (mC ⟨#[]⟩ 0 none 0 0 0 none 0 0 0) := (HB.out.next hb).box _ (.head _)
  have hbel := (HB.out.next hb).kept
  have hd1 : Decs (w1.setCell ⟨w.heap.size, 2, none⟩ (.slice A' n ca')) A' (valM m).vals := (Decs.of_own hown).set_met x0 2 _
  have a2 : w1.cell? ⟨w.heap.size, 2, none⟩ = some (.slice A n ca) := x0.cell 2
  have f2 := x0.frozen 2
  have x1 : Box (w1.setCell ⟨w.heap.size, 2, none⟩ (.slice A' n ca')) w.heap.size 35 (mC s kd A' n ca' rt B k cb tm) := x0.set 2 _
  have y1 := y0.far (q := ⟨w.heap.size, 2, none⟩) (by show w.heap.size + 1 ≠ w.heap.size; omega) (.slice A' n ca')
  have hbel1 := below_set hbel (Nat.le_refl _) 2 (.slice A' n ca')
  have HX := Lib.hid (And.intro hd1 (And.intro x1 (And.intro y1 hbel1)))
  have a0 : w1.cell? ⟨w.heap.size, 0, none⟩ = some (.string s) := x0.cell 0
  have a1 : w1.cell? ⟨w.heap.size, 1, none⟩ = some (.int .i64 kd) := x0.cell 1
  have a3 : w1.cell? ⟨w.heap.size, 3, none⟩ = some (.int .i64 rt) := x0.cell 3
  have a4 : w1.cell? ⟨w.heap.size, 4, none⟩ = some (.slice B k cb) := x0.cell 4
  have a5 : w1.cell? ⟨w.heap.size, 5, none⟩ = some (.int .i64 tm) := x0.cell 5
  clear hb hown x0 y0 hbel hd1 x1 y1 hbel1 HB HF
  go_wp2_with fail
  refine (HC.out _ HX.out.2.2.2 A' ca' HX.out.1).mono ?_
  rintro e w2 ⟨rfl, hb⟩
  clear a0 a1 a2 a3 a4 a5 f2
  have x2 := HX.out.2.1.keep hb
  have y2 := HX.out.2.2.1.keep hb
  have HX2 := Lib.hid (And.intro (HX.out.1.keep hb) (And.intro x2 (And.intro y2 (below_then HX.out.2.2.2 hb))))
  have r0 : w2.cell? ⟨w.heap.size + 1, 0, none⟩ = some (.string ⟨#[]⟩) := y2.cell 0
  have r1 : w2.cell? ⟨w.heap.size + 1, 1, none⟩ = some (.int .i64 0) := y2.cell 1
  have r2 : w2.cell? ⟨w.heap.size + 1, 2, none⟩ = some (.slice none 0 0) := y2.cell 2
  have r3 : w2.cell? ⟨w.heap.size + 1, 3, none⟩ = some (.int .i64 0) := y2.cell 3
  have r4 : w2.cell? ⟨w.heap.size + 1, 4, none⟩ = some (.slice none 0 0) := y2.cell 4
  have r5 : w2.cell? ⟨w.heap.size + 1, 5, none⟩ = some (.int .i64 0) := y2.cell 5
  have g0 := y2.frozen 0
  have g1 := y2.frozen 1
  have g2 := y2.frozen 2
  have g3 := y2.frozen 3
  have g4 := y2.frozen 4
  have g5 := y2.frozen 5
  clear hb HX HC
  by_cases hq0 : q = 0
  · subst hq0
    clear r0 r1 r2 r3 r4 r5 g0 g1 g2 g3 g4 g5
    have a4 : w2.cell? ⟨w.heap.size, 4, none⟩ = some (.slice B k cb) := x2.cell 4
    clear x2 y2
    go_wp2_with fail
    refine (HT.out _ HX2.out.2.2.2).mono ?_
    rintro e w3 ⟨⟨B', cb', rfl, ht, hfr⟩, hb⟩
    have HFB := Lib.hid hfr
    clear hfr
    clear a4
    have x3 := HX2.out.2.1.keep hb
    have y3 := HX2.out.2.2.1.keep hb
    have hbel3 := below_then HX2.out.2.2.2 hb
    have hm3 : MIs w3 s A' n B' (norm m.tags).length (formM m) := ⟨HH.out.1.name, by show (m.vals.map form).length = n; rw [List.length_map]; exact HH.out.1.vlen, HX2.out.1.keep hb, rfl, ht⟩
    have x4 : Box (w3.setCell ⟨w.heap.size, 4, none⟩ (.slice B' (norm m.tags).length cb')) w.heap.size 35 (mC s kd A' n ca' rt B' (norm m.tags).length cb' tm) := x3.set 4 _
    have y4 := y3.far (q := ⟨w.heap.size, 4, none⟩) (by show w.heap.size + 1 ≠ w.heap.size; omega) (.slice B' (norm m.tags).length cb')
    have hm4 := hm3.set_met x3 4 (.slice B' (norm m.tags).length cb')
    have hbel4 := below_set hbel3 (Nat.le_refl _) 4 (.slice B' (norm m.tags).length cb')
    have HX4 := Lib.hid (And.intro hm4 (And.intro y4 hbel4))
    have c0 : w3.cell? ⟨w.heap.size, 0, none⟩ = some (.string s) := x3.cell 0
    have c1 : w3.cell? ⟨w.heap.size, 1, none⟩ = some (.int .i64 kd) := x3.cell 1
    have c2 : w3.cell? ⟨w.heap.size, 2, none⟩ = some (.slice A' n ca') := x3.cell 2
    have c3 : w3.cell? ⟨w.heap.size, 3, none⟩ = some (.int .i64 rt) := x3.cell 3
    have c4 : w3.cell? ⟨w.heap.size, 4, none⟩ = some (.slice B k cb) := x3.cell 4
    have c5 : w3.cell? ⟨w.heap.size, 5, none⟩ = some (.int .i64 tm) := x3.cell 5
    have f4 := x3.frozen 4
    have r0 : w3.cell? ⟨w.heap.size + 1, 0, none⟩ = some (.string ⟨#[]⟩) := y3.cell 0
    have r1 : w3.cell? ⟨w.heap.size + 1, 1, none⟩ = some (.int .i64 0) := y3.cell 1
    have r2 : w3.cell? ⟨w.heap.size + 1, 2, none⟩ = some (.slice none 0 0) := y3.cell 2
    have r3 : w3.cell? ⟨w.heap.size + 1, 3, none⟩ = some (.int .i64 0) := y3.cell 3
    have r4 : w3.cell? ⟨w.heap.size + 1, 4, none⟩ = some (.slice none 0 0) := y3.cell 4
    have r5 : w3.cell? ⟨w.heap.size + 1, 5, none⟩ = some (.int .i64 0) := y3.cell 5
    have g0 := y3.frozen 0
    have g1 := y3.frozen 1
    have g2 := y3.frozen 2
    have g3 := y3.frozen 3
    have g4 := y3.frozen 4
    have g5 := y3.frozen 5
    clear x3 y3 hbel3 hm3 x4 y4 hm4 hbel4 ht hb HX2 HT
    generalize (norm m.tags).length = kk at *
    go_wp2_with fail
    refine ret_met rfl rfl rfl rfl (putM_is HX4.out.2.1) ⟨⟨s, A', n, ca', B', kk, cb', ?_, ?_, HFB.out⟩, putM_below HX4.out.2.2 (by omega)⟩
    · obtain ⟨_, h1, h2, h3, h4⟩ := HH.out
      rw [nM_ok h1, h1, h2, h3, h4]; rfl
    · rw [nM_ok HH.out.2.1]; exact putM_mis HX4.out.1 HX4.out.2.1
  · clear x2 y2 HT
    go_wp2_with fail
    refine ret_met rfl rfl rfl rfl (putM_is HX2.out.2.2.1) ⟨⟨⟨#[]⟩, none, 0, 0, none, 0, 0, ?_, ?_, Nat.le_refl _⟩, putM_below HX2.out.2.2.2 (by omega)⟩
    · rw [nM_no (by rw [HH.out.2.1]; exact hq0), HH.out.2.1]; rfl
    · rw [nM_no (by rw [HH.out.2.1]; exact hq0)]; exact mis0 _ _ _
end
end Go.Proofs.YtbcmchkgamkceaaGreatDoor
