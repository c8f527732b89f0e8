/-
  Layer 7: the document's Check and Normal. No statement of the seat is proved here.
-/
import Derived.Test.YtikdolgcdkmmaaaMRefA
import Derived.Test.YtikdolgcdkmmaaaTRefNorm
namespace Go.Proofs.Ytikdolgcdkmmaaa
open Go.RowKit
open Dc (D D0)

theorem okV_step {ds : List D} {i : Nat} (h : i < ds.length) : okV (ds.take (i + 1)) = (okV (ds.take i) && decide (Dc.check ds[i] = 0)) := by
  unfold okV; rw [List.take_add_one, List.getElem?_eq_getElem h, List.all_append]; simp only [Option.toList, List.all_cons, List.all_nil, Bool.and_true]
theorem hasN_step {ds : List D} {i : Nat} (h : i < ds.length) : hasN (ds.take (i + 1)) = (hasN (ds.take i) && (Dc.normal ds[i]).isSome) := by
  unfold hasN; rw [List.take_add_one, List.getElem?_eq_getElem h, List.all_append]; simp only [Option.toList, List.all_cons, List.all_nil, Bool.and_true]
theorem nVal_map {ds : List D} (h : hasN ds = true) : ds.map Dc.nVal = ds.map form :=
  List.map_congr_left fun d hd => form_nVal (List.all_eq_true.1 h d hd)
theorem nVal_step {ds : List D} {i : Nat} (h : i < ds.length) : (ds.take (i + 1)).map Dc.nVal = (ds.take i).map Dc.nVal ++ [Dc.nVal ds[i]] := by
  rw [List.take_add_one, List.getElem?_eq_getElem h]; simp only [Option.toList, List.map_append, List.map_cons, List.map_nil]
theorem grown_at {W w8 : World} {B : Nat} {el : TypeId} {size n : Nat} {v : Value} {xs : List Value} (hown : W.ownsRow B el size v n xs) (hg : W.grownBy w8 v.ownBlock) (hB : B ≤ W.heap.size) : Below B W w8 :=
  (Below.refl B W).grown hg hB fun k hk => by
    rcases hown.2 with ⟨rfl, _⟩ | ⟨g, cap, cur, rfl, h, _⟩
    · cases hk
    · injection hk with hk; subst hk; exact h

section
variable {w : World} {s : ByteArray} {A B : Option Addr} {n k ca cb : Nat} {m : Mt}
set_option maxRecDepth 100000 in
set_option maxHeartbeats 8000000 in
theorem rmcheck_calls (h : MIs w s A n B k m) (hz : Small m) : Calls Try.prog 35 #[mV s m.kind A n ca m.rate B k cb m.time] w fun e w' => e = .returned (.int .i64 (checkM m)) ∧ Below w.heap.size w w' := by
  obtain ⟨q, hq⟩ : ∃ q, checkM m = q := ⟨_, rfl⟩
  have hR := fun W (b : Below w.heap.size w W) => rest_calls (ca := ca) (cb := cb) (h.keep b) hz (okV m.vals)
  rw [show restM m (okV m.vals) = q from hq] at hR
  rw [hq]
  have hn1000 : n ≤ 1000 := by have := h.vlen; have := hz.vals; omega
  unfold mV at hR ⊢
  generalize m.kind = kd at *
  generalize m.rate = rt at *
  generalize m.time = tm at *
  have HR := Lib.hid hR
  have HH := Lib.hid (And.intro h hz)
  have b0 := (Kb.start w).push 25 (mC s kd A n ca rt B k cb tm)
  unfold mC at b0
  have HB := Lib.hid b0
  clear hR hq b0 h hz
  go_enter Try.func35, Try.ntmps35
  go_wp2_with fail
  go_loopw [3, 4] (fun v3 v4 wr => ∃ (i : Nat) (r : Bool), v3 = .bool r ∧ v4 = .int .i64 i ∧ i ≤ n ∧ Hid (Kb w [(w.heap.size, 25, [.string s, .int .i64 kd, .slice A n ca, .int .i64 rt, .slice B k cb, .int .i64 tm])] [] wr ∧ okV (m.vals.take i) = r)) (fun _ v4 _ => n - (intOf v4).toNat)
  case atStart => exact ⟨0, true, rfl, rfl, by omega, ⟨HB.out, by simp [okV]⟩⟩
  case round =>
    obtain ⟨i, r, rfl, rfl, hi, hrel⟩ := hrel
    clear HB
    have c2 : wr.cell? ⟨w.heap.size, 2, none⟩ = some (.slice A n ca) := hrel.out.1.cell (.head _) rfl
    by_cases hlt : i < n
    · have g1 : (i : Int) < (n : Int) := by omega
      have g2 : (0 : Int) ≤ (i : Int) := by omega
      obtain ⟨hm, hz⟩ := HH.out
      have l0 : i < m.vals.length := by rw [hm.vlen]; exact hlt
      cases r
      · have HE := Lib.hid (show okV (m.vals.take (i + 1)) = false by rw [okV_step l0, hrel.out.2]; rfl)
        clear hm hz
        go_wp2_with fail
        exact ⟨⟨i + 1, false, rfl, by go_num, by omega, ⟨hrel.out.1, HE.out⟩⟩, by simp [intOf]; omega⟩
      · obtain ⟨b, off, p, x, y, e1, d0, d1, d2, hd⟩ := (hm.vals.keep hrel.out.1.kept).get l0
        subst e1
        have hC := fun W => Dc.rcheck_calls m.vals[i] (hz.fits _ (List.getElem_mem l0)) W
        unfold Dc.dV at hC
        simp only [← hd.neg, ← hd.c, ← hd.e] at hC
        obtain ⟨z, hzz⟩ : ∃ z, Dc.check m.vals[i] = z := ⟨_, rfl⟩
        rw [hzz] at hC
        have HC := Lib.hid hC
        have HZ := Lib.hid hzz
        clear hm hz hC hzz hd
        go_wp2_with fail
        refine (HC.out _).mono ?_
        rintro e w2 ⟨rfl, hb⟩
        have HB2 := Lib.hid (hrel.out.1.next hb)
        clear hb HC d0 d1 d2 c2
        by_cases hz0 : z = 0
        · have HE := Lib.hid (show okV (m.vals.take (i + 1)) = true by rw [okV_step l0, hrel.out.2, HZ.out, hz0]; rfl)
          subst hz0
          go_wp2_with fail
          exact ⟨⟨i + 1, true, rfl, by go_num, by omega, ⟨HB2.out, HE.out⟩⟩, by simp [intOf]; omega⟩
        · have HE := Lib.hid (show okV (m.vals.take (i + 1)) = false by rw [okV_step l0, hrel.out.2, HZ.out, decide_eq_false hz0]; rfl)
          have h1 : (z == 0) = false := by simpa using hz0
          go_wp2_with fail
          exact ⟨⟨i + 1, false, rfl, by go_num, by omega, ⟨HB2.out, HE.out⟩⟩, by simp [intOf]; omega⟩
    · have g1 : ¬ (i : Int) < (n : Int) := by omega
      have hr : r = okV m.vals := by
        rw [← hrel.out.2, List.take_of_length_le (by have := HH.out.1.vlen; omega)]
      have c0 : wr.cell? ⟨w.heap.size, 0, none⟩ = some (.string s) := hrel.out.1.cell (.head _) rfl
      have c1 : wr.cell? ⟨w.heap.size, 1, none⟩ = some (.int .i64 kd) := hrel.out.1.cell (.head _) rfl
      have c3 : wr.cell? ⟨w.heap.size, 3, none⟩ = some (.int .i64 rt) := hrel.out.1.cell (.head _) rfl
      have c4 : wr.cell? ⟨w.heap.size, 4, none⟩ = some (.slice B k cb) := hrel.out.1.cell (.head _) rfl
      have c5 : wr.cell? ⟨w.heap.size, 5, none⟩ = some (.int .i64 tm) := hrel.out.1.cell (.head _) rfl
      have HR2 := Lib.hid (HR.out wr hrel.out.1.kept)
      rw [← hr] at HR2
      clear hr HR
      go_wp2_with fail
      refine HR2.out.mono ?_
      rintro e w2 ⟨rfl, hb⟩
      have HB2 := Lib.hid (hrel.out.1.next hb)
      clear hb c0 c1 c2 c3 c4 c5
      go_wp2_with fail
      go_ret
      exact ⟨rfl, HB2.out.kept⟩

/-- Where the document's Normal stands. -/
structure RNm (w : World) (s : ByteArray) (kd : Int) (A : Option Addr) (n ca : Nat) (rt : Int) (B : Option Addr) (k cb : Nat) (tm : Int) (v : Value) (i : Nat) (ds : List D) (w' : World) : Prop where
  kept : Below w.heap.size w w'
  one : Box w' w.heap.size 25 (mC s kd A n ca rt B k cb tm)
  two : Box w' (w.heap.size + 1) 25 (mC ⟨#[]⟩ 0 none 0 0 0 none 0 0 0)
  own : w'.ownsRow (w.heap.size + 1 + 1) 39 3 v i (flatD ds)
section
variable {w1 w2 : World} {kd rt tm : Int} {v : Value} {i : Nat} {ds : List D}
theorem RNm.next (h : RNm w s kd A n ca rt B k cb tm v i ds w1) (b : Below w1.heap.size w1 w2) : RNm w s kd A n ca rt B k cb tm v i ds w2 :=
  ⟨below_then h.kept b, h.one.keep b, h.two.keep b, own_keep h.own b⟩
theorem RNm.size (h : RNm w s kd A n ca rt B k cb tm v i ds w1) : w.heap.size + 1 + 1 ≤ w1.heap.size := h.two.lt
theorem RNm.push (h : RNm w s kd A n ca rt B k cb tm v i ds w1) {v' : Value} {i' : Nat} {ds' : List D} (hg : w1.grownBy w2 v.ownBlock) (ho : w2.ownsRow (w.heap.size + 1 + 1) 39 3 v' i' (flatD ds')) : RNm w s kd A n ca rt B k cb tm v' i' ds' w2 :=
  have hb := grown_at h.own hg h.size
  ⟨h.kept.trans (hb.mono (by omega)), h.one.below hb (by omega), h.two.below hb (by omega), ho⟩
end

set_option maxRecDepth 100000 in
set_option maxHeartbeats 8000000 in
theorem rmnormal_fresh (h : MIs w s A n B k m) (hz : Small m) : Calls Try.prog 37 #[mV s m.kind A n ca m.rate B k cb m.time] w (NormMF w m) := by
  obtain ⟨q, hq⟩ : ∃ q, codeM m = q := ⟨_, rfl⟩
  have hR := fun W (b : Below w.heap.size w W) => rest_calls (ca := ca) (cb := cb) (h.keep b) hz (hasN m.vals)
  rw [show restM m (hasN m.vals) = q from hq] at hR
  have hT := fun W (b : Below w.heap.size w W) => rnormal_fresh (cap := cb) h.tlen (h.tags.keep b) (by have := h.tlen; have := hz.tags; omega) (fun i hi => hz.lens _ (List.getElem_mem hi))
  have hn1000 : n ≤ 1000 := by have := h.vlen; have := hz.vals; omega
  obtain ⟨kd, hkd⟩ : ∃ x, x = m.kind := ⟨_, rfl⟩
  obtain ⟨rt, hrt⟩ : ∃ x, x = m.rate := ⟨_, rfl⟩
  obtain ⟨tm, htm⟩ : ∃ x, x = m.time := ⟨_, rfl⟩
  rw [← hkd, ← hrt, ← htm] at hR ⊢
  unfold mV at hR ⊢
  have HR := Lib.hid hR
  have HT := Lib.hid hT
  have HH := Lib.hid (And.intro h (And.intro hq (And.intro hkd (And.intro hrt htm))))
  have HF := Lib.hid hz.fits
  have b0 := ((Kb.start w).push 25 (mC s kd A n ca rt B k cb tm)).push 25 (mC ⟨#[]⟩ 0 none 0 0 0 none 0 0 0)
  rw [size_alloc] at b0
  have b1 : RNm w s kd A n ca rt B k cb tm (.slice none 0 0) 0 [] _ := ⟨b0.kept, b0.box _ (.tail _ (.head _)), b0.box _ (.head _), own_nilD _ _⟩
  unfold mC at b1
  have HB := Lib.hid b1
  clear hR hT hq hkd hrt htm b0 b1 h hz
  go_enter Try.func37, Try.ntmps37
  go_wp2_with fail
  go_loopw [4, 5, 6] (fun v4 v5 v6 wr => ∃ (i : Nat) (r : Bool), v4 = .bool r ∧ v6 = .int .i64 i ∧ i ≤ n ∧ Hid (RNm w s kd A n ca rt B k cb tm v5 i ((m.vals.take i).map Dc.nVal) wr ∧ hasN (m.vals.take i) = r)) (fun _ _ v6 _ => n - (intOf v6).toNat)
  case atStart => exact ⟨0, true, rfl, rfl, by omega, ⟨HB.out, by simp [hasN]⟩⟩
  case round =>
    obtain ⟨i, r, rfl, rfl, hi, hrel⟩ := hrel
    clear HB
    have c2 : wr.cell? ⟨w.heap.size, 2, none⟩ = some (.slice A n ca) := hrel.out.1.one.cell 2
    by_cases hlt : i < n
    · have g1 : (i : Int) < (n : Int) := by omega
      have g2 : (0 : Int) ≤ (i : Int) := by omega
      have hm := HH.out.1
      have l0 : i < m.vals.length := by rw [hm.vlen]; exact hlt
      obtain ⟨b, off, p, x, y, e1, d0, d1, d2, hd⟩ := (hm.vals.keep hrel.out.1.kept).get l0
      subst e1
      have hC := fun W => Dc.rnormal_calls m.vals[i] (HF.out _ (List.getElem_mem l0)) W
      unfold Dc.dV at hC
      simp only [← hd.neg, ← hd.c, ← hd.e] at hC
      obtain ⟨x', hx'⟩ : ∃ x : Int, x = ((Dc.nVal m.vals[i]).c : Int) := ⟨_, rfl⟩
      obtain ⟨y', hy'⟩ : ∃ y : Int, y = (Dc.nVal m.vals[i]).e := ⟨_, rfl⟩
      obtain ⟨p', hp'⟩ : ∃ n : Bool, n = (Dc.nVal m.vals[i]).neg := ⟨_, rfl⟩
      obtain ⟨ok, hok⟩ : ∃ ok, (Dc.normal m.vals[i]).isSome = ok := ⟨_, rfl⟩
      have hE : Dc.nErr m.vals[i] = if ok then 0 else 10 := by unfold Dc.nErr; rw [hok]
      simp only [← hx', ← hy', ← hp', hE] at hC
      have HG := Lib.hid (show Dl p' x' y' (Dc.nVal m.vals[i]) from ⟨hp', hx', hy'⟩)
      have HS := Lib.hid (And.intro (nVal_step l0) (show hasN (m.vals.take (i + 1)) = (r && ok) by rw [hasN_step l0, hrel.out.2, hok]))
      have HC := Lib.hid hC
      clear hm hC hd hx' hy' hp' hok hE
      go_wp2_with fail
      refine (HC.out _).mono ?_
      rintro e w2 ⟨rfl, hb⟩
      have HB2 := Lib.hid ((hrel.out.1.next hb).next (m_below w2 (.cells #[.bool p', .int .u64 x', .int .i64 y'] 39)))
      have HB3 := Lib.hid (HB2.out.next (m_below _ (.cells #[.bool p', .int .u64 x', .int .i64 y'] 39)))
      clear hb HC d0 d1 d2 c2
      cases r <;> cases ok
      all_goals
        go_wp2_with (first | (at_builtin; refine wpList_append_rows _ rowDec rfl (.tmp 31) (.tmp 33) rfl (w.heap.size + 1 + 1) u5 i _ rfl HB3.out.own (some ⟨w2.heap.size + 1, 0, none⟩) 1 1 (flatD [Dc.nVal m.vals[i]]) rfl rfl (decs_at (size_alloc _ _) HG.out) flatD_cells (by omega) HB3.out.size ?_; intro v8 w8 hown8 hgr8 hob8; rw [← flatD_append] at hown8; have HW8 := Lib.hid (HB3.out.push hgr8 hown8); clear hown8 hgr8 hob8))
        refine ⟨⟨i + 1, _, rfl, by go_num, by omega, ⟨?_, HS.out.2⟩⟩, by simp [intOf]; omega⟩
        rw [HS.out.1]
        exact HW8.out
    · have g1 : ¬ (i : Int) < (n : Int) := by omega
      obtain rfl : n = i := by omega
      have ht : m.vals.take n = m.vals := List.take_of_length_le (by have := HH.out.1.vlen; omega)
      have hrel2 := hrel.out
      rw [ht] at hrel2
      obtain ⟨hrn, hr⟩ := hrel2
      have HR2 := Lib.hid (HR.out wr hrn.kept)
      rw [hr] at HR2
      obtain ⟨A', ca', rfl, _⟩ := own_slice_at hrn.own
      have HFA := Lib.hid ((Fresh.own hrn.own).low (show w.heap.size ≤ _ by omega))
      have HN := Lib.hid hrn
      have HZ := Lib.hid hr
      clear hrel ht HR hr hrn
      have c0 : wr.cell? ⟨w.heap.size, 0, none⟩ = some (.string s) := HN.out.one.cell 0
      have c1 : wr.cell? ⟨w.heap.size, 1, none⟩ = some (.int .i64 kd) := HN.out.one.cell 1
      have c3 : wr.cell? ⟨w.heap.size, 3, none⟩ = some (.int .i64 rt) := HN.out.one.cell 3
      have c4 : wr.cell? ⟨w.heap.size, 4, none⟩ = some (.slice B k cb) := HN.out.one.cell 4
      have c5 : wr.cell? ⟨w.heap.size, 5, none⟩ = some (.int .i64 tm) := HN.out.one.cell 5
      go_wp2_with fail
      refine HR2.out.mono ?_
      rintro e w2 ⟨rfl, hb⟩
      have HN2 := Lib.hid (HN.out.next hb)
      clear hb HN HR2 c0 c1 c2 c3 c4 c5
      by_cases hq0 : q = 0
      · subst hq0
        have hok : r = true := by
          have h1 := (restM_zero.1 (show restM m (hasN m.vals) = 0 from HH.out.2.1)).2.2.1
          rw [← HZ.out]; exact (valsR_ok h1).1
        subst hok
        have HD := Lib.hid (show m.vals.map Dc.nVal = (formM m).vals from nVal_map HZ.out)
        have x0 := HN2.out.one
        have c2 : w2.cell? ⟨w.heap.size, 2, none⟩ = some (.slice A n ca) := x0.cell 2
        have c4 : w2.cell? ⟨w.heap.size, 4, none⟩ = some (.slice B k cb) := x0.cell 4
        have f2 := x0.frozen 2
        have x1 : Box (w2.setCell ⟨w.heap.size, 2, none⟩ (.slice A' n ca')) w.heap.size 25 (mC s kd A' n ca' rt B k cb tm) := x0.set 2 _
        have y1 := HN2.out.two.far (q := ⟨w.heap.size, 2, none⟩) (by show w.heap.size + 1 ≠ w.heap.size; omega) (.slice A' n ca')
        have hd1 : Decs (w2.setCell ⟨w.heap.size, 2, none⟩ (.slice A' n ca')) A' (formM m).vals := by
          rw [← HD.out]; exact (Decs.of_own HN2.out.own).set_met x0 2 _
        have HX := Lib.hid (And.intro hd1 (And.intro x1 (And.intro y1 (below_set HN2.out.kept (Nat.le_refl _) 2 (.slice A' n ca')))))
        clear x0 x1 y1 hd1 HN2 HD
        go_wp2_with fail
        refine (HT.out _ HX.out.2.2.2).mono ?_
        rintro e w3 ⟨⟨B', cb', rfl, ht, hfr⟩, hb⟩
        have HFB := Lib.hid (hfr.low (show w.heap.size ≤ _ from HX.out.2.2.2.size))
        clear hfr
        clear c2 c4 f2
        have x3 := HX.out.2.1.keep hb
        have y3 := HX.out.2.2.1.keep hb
        have hbel3 := below_then HX.out.2.2.2 hb
        have hm3 : MIs w3 s A' n B' (norm m.tags).length (formM m) := ⟨HH.out.1.name, by show (m.vals.map form).length = n; rw [List.length_map]; exact HH.out.1.vlen, HX.out.1.keep hb, rfl, ht⟩
        have y4 := y3.far (q := ⟨w.heap.size, 4, none⟩) (by show w.heap.size + 1 ≠ w.heap.size; omega) (.slice B' (norm m.tags).length cb')
        have hm4 := hm3.set_met x3 4 (.slice B' (norm m.tags).length cb')
        have hbel4 := below_set hbel3 (Nat.le_refl _) 4 (.slice B' (norm m.tags).length cb')
        have HX4 := Lib.hid (And.intro hm4 (And.intro y4 hbel4))
        have c0 : w3.cell? ⟨w.heap.size, 0, none⟩ = some (.string s) := x3.cell 0
        have c1 : w3.cell? ⟨w.heap.size, 1, none⟩ = some (.int .i64 kd) := x3.cell 1
        have c2 : w3.cell? ⟨w.heap.size, 2, none⟩ = some (.slice A' n ca') := x3.cell 2
        have c3 : w3.cell? ⟨w.heap.size, 3, none⟩ = some (.int .i64 rt) := x3.cell 3
        have c4 : w3.cell? ⟨w.heap.size, 4, none⟩ = some (.slice B k cb) := x3.cell 4
        have c5 : w3.cell? ⟨w.heap.size, 5, none⟩ = some (.int .i64 tm) := x3.cell 5
        have f4 := x3.frozen 4
        have r0 : w3.cell? ⟨w.heap.size + 1, 0, none⟩ = some (.string ⟨#[]⟩) := y3.cell 0
        have r1 : w3.cell? ⟨w.heap.size + 1, 1, none⟩ = some (.int .i64 0) := y3.cell 1
        have r2 : w3.cell? ⟨w.heap.size + 1, 2, none⟩ = some (.slice none 0 0) := y3.cell 2
        have r3 : w3.cell? ⟨w.heap.size + 1, 3, none⟩ = some (.int .i64 0) := y3.cell 3
        have r4 : w3.cell? ⟨w.heap.size + 1, 4, none⟩ = some (.slice none 0 0) := y3.cell 4
        have r5 : w3.cell? ⟨w.heap.size + 1, 5, none⟩ = some (.int .i64 0) := y3.cell 5
        have g0 := y3.frozen 0
        have g1' := y3.frozen 1
        have g2 := y3.frozen 2
        have g3 := y3.frozen 3
        have g4 := y3.frozen 4
        have g5 := y3.frozen 5
        clear x3 y3 hbel3 hm3 y4 hm4 hbel4 ht hb HX HT
        generalize (norm m.tags).length = kk at *
        go_wp2_with fail
        refine ret_met rfl rfl rfl rfl (putM_is HX4.out.2.1) ⟨⟨s, A', n, ca', B', kk, cb', ?_, ?_, HFA.out, HFB.out⟩, putM_below HX4.out.2.2 (by omega)⟩
        · obtain ⟨_, h1, h2, h3, h4⟩ := HH.out
          rw [nM_ok h1, h1, h2, h3, h4]; rfl
        · rw [nM_ok HH.out.2.1]; exact putM_mis HX4.out.1 HX4.out.2.1
      · have y2 := HN2.out.two
        have r0 : w2.cell? ⟨w.heap.size + 1, 0, none⟩ = some (.string ⟨#[]⟩) := y2.cell 0
        have r1 : w2.cell? ⟨w.heap.size + 1, 1, none⟩ = some (.int .i64 0) := y2.cell 1
        have r2 : w2.cell? ⟨w.heap.size + 1, 2, none⟩ = some (.slice none 0 0) := y2.cell 2
        have r3 : w2.cell? ⟨w.heap.size + 1, 3, none⟩ = some (.int .i64 0) := y2.cell 3
        have r4 : w2.cell? ⟨w.heap.size + 1, 4, none⟩ = some (.slice none 0 0) := y2.cell 4
        have r5 : w2.cell? ⟨w.heap.size + 1, 5, none⟩ = some (.int .i64 0) := y2.cell 5
        have g0 := y2.frozen 0
        have g1' := y2.frozen 1
        have g2 := y2.frozen 2
        have g3 := y2.frozen 3
        have g4 := y2.frozen 4
        have g5 := y2.frozen 5
        clear y2 HT
        go_wp2_with fail
        refine ret_met rfl rfl rfl rfl (putM_is HN2.out.two) ⟨⟨⟨#[]⟩, none, 0, 0, none, 0, 0, ?_, ?_, Fresh.none_ _, Fresh.none_ _⟩, putM_below HN2.out.kept (by omega)⟩
        · rw [nM_no (by rw [HH.out.2.1]; exact hq0), HH.out.2.1]; rfl
        · rw [nM_no (by rw [HH.out.2.1]; exact hq0)]; exact mis0 _ _ _
theorem rmnormal_calls (h : MIs w s A n B k m) (hz : Small m) : Calls Try.prog 37 #[mV s m.kind A n ca m.rate B k cb m.time] w (NormMP w m) := (rmnormal_fresh h hz).mono fun _ _ k => k.p
end
end Go.Proofs.Ytikdolgcdkmmaaa
