/-
  Layer 7: the document's Check and Normal. No statement of the seat is proved here.
-/
import Derived.Test.YteffankkelbhiaaMRefA
import Derived.Test.YteffankkelbhiaaTRefNorm
namespace Go.Proofs.Yteffankkelbhiaa
open Go.RowKit
open Dc (D D0)

theorem okV_step {ds : List D} {i : Nat} (h : i < ds.length) : okV (ds.take (i + 1)) = (okV (ds.take i) && decide (Dc.check ds[i] = 0)) := by
  unfold okV; rw [List.take_add_one, List.getElem?_eq_getElem h, List.all_append]; simp only [Option.toList, List.all_cons, List.all_nil, Bool.and_true]
theorem hasN_step {ds : List D} {i : Nat} (h : i < ds.length) : hasN (ds.take (i + 1)) = (hasN (ds.take i) && (Dc.normal ds[i]).isSome) := by
  unfold hasN; rw [List.take_add_one, List.getElem?_eq_getElem h, List.all_append]; simp only [Option.toList, List.all_cons, List.all_nil, Bool.and_true]
theorem nVal_map {ds : List D} (h : hasN ds = true) : ds.map Dc.nVal = ds.map form :=
  List.map_congr_left fun d hd => form_nVal (List.all_eq_true.1 h d hd)
theorem nVal_step {ds : List D} {i : Nat} (h : i < ds.length) : (ds.take (i + 1)).map Dc.nVal = (ds.take i).map Dc.nVal ++ [Dc.nVal ds[i]] := by
  rw [List.take_add_one, List.getElem?_eq_getElem h]; simp only [Option.toList, List.map_append, List.map_cons, List.map_nil]
theorem grown_at {W w8 : World} {B : Nat} {el : TypeId} {size n : Nat} {v : Value} {xs : List Value} (hown : W.ownsRow B el size v n xs) (hg : W.grownBy w8 v.ownBlock) (hB : B ≤ W.heap.size) : Below B W w8 :=
  (Below.refl B W).grown hg hB fun k hk => by
    rcases hown.2 with ⟨rfl, _⟩ | ⟨g, cap, cur, rfl, h, _⟩
    · cases hk
    · injection hk with hk; subst hk; exact h

section
variable {w : World} {s : ByteArray} {A B : Option Addr} {n k ca cb : Nat} {m : Mt}
set_option maxRecDepth 100000 in
set_option maxHeartbeats 8000000 in
theorem rmcheck_calls (h : MIs w s A n B k m) (hz : Small m) : Calls Try.prog 22 #[mV s m.kind A n ca m.rate B k cb m.time] w fun e w' => e = .returned (.int .i64 (checkM m)) ∧ Below w.heap.size w w' := by
  obtain ⟨q, hq⟩ : ∃ q, checkM m = q := ⟨_, rfl⟩
  have hR := fun W (b : Below w.heap.size w W) => rest_calls (ca := ca) (cb := cb) (h.keep b) hz (okV m.vals)
  rw [show restM m (okV m.vals) = q from hq] at hR
  rw [hq]
  have hn1000 : n ≤ 1000 := by have := h.vlen; have := hz.vals; omega
  unfold mV at hR ⊢
  generalize m.kind = kd at *
  generalize m.rate = rt at *
  generalize m.time = tm at *
  have HR := Lib.hid hR
  have HH := Lib.hid (And.intro h hz)
  have b0 := (Kb.start w).push 25 (mC s kd A n ca rt B k cb tm)
  unfold mC at b0
  have HB := Lib.hid b0
  clear hR hq b0 h hz
  go_enter Try.func22, Try.ntmps22
  go_wp2_with fail
  go_loopw [3, 4] (fun v3 v4 wr => ∃ (i : Nat) (r : Bool), v3 = .bool r ∧ v4 = .int .i64 i ∧ i ≤ n ∧ Hid (Kb w [(w.heap.size, 25, [.string s, .int .i64 kd, .slice A n ca, .int .i64 rt, .slice B k cb, .int .i64 tm])] [] wr ∧ okV (m.vals.take i) = r)) (fun _ v4 _ => n - (intOf v4).toNat)
  case atStart => exact ⟨0, true, rfl, rfl, by omega, ⟨HB.out, by simp [okV]⟩⟩
  case round =>
    obtain ⟨i, r, rfl, rfl, hi, hrel⟩ := hrel
    clear HB
    have c2 : wr.cell? ⟨w.heap.size, 2, none⟩ = some (.slice A n ca) := hrel.out.1.cell (.head _) rfl
    by_cases hlt : i < n
    · have g1 : (i : Int) < (n : Int) := by omega
      have g2 : (0 : Int) ≤ (i : Int) := by omega
      obtain ⟨hm, hz⟩ := HH.out
      have l0 : i < m.vals.length := by rw [hm.vlen]; exact hlt
      cases r
      · have HE := Lib.hid (show okV (m.vals.take (i + 1)) = false by rw [okV_step l0, hrel.out.2]; rfl)
        clear hm hz
        go_wp2_with fail
        exact ⟨⟨i + 1, false, rfl, by go_num, by omega, ⟨hrel.out.1, HE.out⟩⟩, by simp [intOf]; omega⟩
      · obtain ⟨b, off, p, x, y, e1, d0, d1, d2, hd⟩ := (hm.vals.keep hrel.out.1.kept).get l0
        subst e1
        have hC := fun W => Dc.rcheck_calls m.vals[i] (hz.fits _ (List.getElem_mem l0)) W
        unfold Dc.dV at hC
        simp only [← hd.neg, ← hd.c, ← hd.e] at hC
        obtain ⟨z, hzz⟩ : ∃ z, Dc.check m.vals[i] = z := ⟨_, rfl⟩
        rw [hzz] at hC
        have HC := Lib.hid hC
        have HZ := Lib.hid hzz
        clear hm hz hC hzz hd
        go_wp2_with fail
        refine (HC.out _).mono ?_
        rintro e w2 ⟨rfl, hb⟩
        have HB2 := Lib.hid (hrel.out.1.next hb)
        clear hb HC d0 d1 d2 c2
        by_cases hz0 : z = 0
        · have HE := Lib.hid (show okV (m.vals.take (i + 1)) = true by rw [okV_step l0, hrel.out.2, HZ.out, hz0]; rfl)
          subst hz0
          go_wp2_with fail
          exact ⟨⟨i + 1, true, rfl, by go_num, by omega, ⟨HB2.out, HE.out⟩⟩, by simp [intOf]; omega⟩
        · have HE := Lib.hid (show okV (m.vals.take (i + 1)) = false by rw [okV_step l0, hrel.out.2, HZ.out, decide_eq_false hz0]; rfl)
          have h1 : (z == 0) = false := by simpa using hz0
          go_wp2_with fail
          exact ⟨⟨i + 1, false, rfl, by go_num, by omega, ⟨HB2.out, HE.out⟩⟩, by simp [intOf]; omega⟩
    · have g1 : ¬ (i : Int) < (n : Int) := by omega
      have hr : r = okV m.vals := by
        rw [← hrel.out.2, List.take_of_length_le (by have := HH.out.1.vlen; omega)]
      have c0 : wr.cell? ⟨w.heap.size, 0, none⟩ = some (.string s) := hrel.out.1.cell (.head _) rfl
      have c1 : wr.cell? ⟨w.heap.size, 1, none⟩ = some (.int .i64 kd) := hrel.out.1.cell (.head _) rfl
      have c3 : wr.cell? ⟨w.heap.size, 3, none⟩ = some (.int .i64 rt) := hrel.out.1.cell (.head _) rfl
      have c4 : wr.cell? ⟨w.heap.size, 4, none⟩ = some (.slice B k cb) := hrel.out.1.cell (.head _) rfl
      have c5 : wr.cell? ⟨w.heap.size, 5, none⟩ = some (.int .i64 tm) := hrel.out.1.cell (.head _) rfl
      have HR2 := Lib.hid (HR.out wr hrel.out.1.kept)
      rw [← hr] at HR2
      clear hr HR
      go_wp2_with fail
      refine HR2.out.mono ?_
      rintro e w2 ⟨rfl, hb⟩
      have HB2 := Lib.hid (hrel.out.1.next hb)
      clear hb c0 c1 c2 c3 c4 c5
      go_wp2_with fail
      go_ret
      exact ⟨rfl, HB2.out.kept⟩

/-- Where the document's Normal stands. -/
structure RNm (w : World) (s : ByteArray) (kd : Int) (A : Option Addr) (n ca : Nat) (rt : Int) (B : Option Addr) (k cb : Nat) (tm : Int) (v : Value) (i : Nat) (ds : List D) (w' : World) : Prop where
  kept : Below w.heap.size w w'
  one : Box w' w.heap.size 25 (mC s kd A n ca rt B k cb tm)
  two : Box w' (w.heap.size + 1) 25 (mC ⟨#[]⟩ 0 none 0 0 0 none 0 0 0)
  own : w'.ownsRow (w.heap.size + 1 + 1) 45 3 v i (flatD ds)
section
variable {w1 w2 : World} {kd rt tm : Int} {v : Value} {i : Nat} {ds : List D}
theorem RNm.next (h : RNm w s kd A n ca rt B k cb tm v i ds w1) (b : Below w1.heap.size w1 w2) : RNm w s kd A n ca rt B k cb tm v i ds w2 :=
  ⟨below_then h.kept b, h.one.keep b, h.two.keep b, own_keep h.own b⟩
theorem RNm.size (h : RNm w s kd A n ca rt B k cb tm v i ds w1) : w.heap.size + 1 + 1 ≤ w1.heap.size := h.two.lt
theorem RNm.push (h : RNm w s kd A n ca rt B k cb tm v i ds w1) {v' : Value} {i' : Nat} {ds' : List D} (hg : w1.grownBy w2 v.ownBlock) (ho : w2.ownsRow (w.heap.size + 1 + 1) 45 3 v' i' (flatD ds')) : RNm w s kd A n ca rt B k cb tm v' i' ds' w2 :=
  have hb := grown_at h.own hg h.size
  ⟨h.kept.trans (hb.mono (by omega)), h.one.below hb (by omega), h.two.below hb (by omega), ho⟩
end

end
end Go.Proofs.Yteffankkelbhiaa
