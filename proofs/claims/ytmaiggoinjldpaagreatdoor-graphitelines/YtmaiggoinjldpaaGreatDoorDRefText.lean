/-
  Contracts of the document's Text, wide and Compare. No statement of the seat is proved here.
-/
import Derived.Test.YtmaiggoinjldpaaGreatDoorDRefDigits
import Derived.Test.YtmaiggoinjldpaaGreatDoorGrNPut
import Derived.Test.YtmaiggoinjldpaaGreatDoorDPointed
import Derived.Test.YtmaiggoinjldpaaGreatDoorGrTOne
namespace Go.Proofs.YtmaiggoinjldpaaGreatDoor.Dc
open Go.RowKit

theorem zeros_front (j : Nat) (L : List UInt8) : [48] ++ (List.replicate j 48 ++ L) = List.replicate (j + 1) 48 ++ L := by rw [List.replicate_succ]; rfl
theorem zeros_back (j : Nat) (L : List UInt8) : (L ++ List.replicate j 48) ++ [48] = L ++ List.replicate (j + 1) 48 := by rw [List.replicate_succ', List.append_assoc]

set_option maxRecDepth 100000 in
set_option maxHeartbeats 4000000 in
theorem rtext_calls (d : D) (ho : d.One) (w : World) : Calls Tryz.prog 15 #[dV d] w (Says w (text d)) := by
  have hdg := fun W => digits_calls d.c ho.fits.c W
  have hlen := decDigits_len20 ho.fits.c
  have hne := ho.near
  obtain ⟨x, hx⟩ : ∃ x : Int, x = (d.c : Int) := ⟨_, rfl⟩
  obtain ⟨y, hy⟩ : ∃ y : Int, y = d.e := ⟨_, rfl⟩
  obtain ⟨n, hn⟩ : ∃ n : Bool, n = d.neg := ⟨_, rfl⟩
  obtain ⟨P, hP⟩ : ∃ P : ByteArray, P = ⟨(Lib.decDigits d.c).toArray⟩ := ⟨_, rfl⟩
  have hPs : Str P (Lib.decDigits d.c) := by rw [hP]; exact Str.mk _
  have hye : -18 ≤ y ∧ y ≤ 18 := by rw [hy]; exact hne.2
  have htx : text d = (if n then [45] else []) ++ (if y < 0 then pointed (Lib.decDigits d.c) (-y).toNat else Lib.decDigits d.c ++ List.replicate y.toNat 48) := by unfold text sized; rw [hn, hy]
  obtain ⟨T, hT⟩ : ∃ T, T = text d := ⟨_, rfl⟩
  rw [← hT]
  have htt := hT.trans htx
  simp only [← hP, ← hx] at hdg
  unfold dV
  rw [← hx, ← hy, ← hn]
  clear hT htx
  generalize Lib.decDigits d.c = L at hPs hlen htt
  have HTX := Lib.hid htt
  have hpz := hPs.size
  have HP := Lib.hid (And.intro hPs hlen)
  have HDG := Lib.hid hdg
  clear hdg hx hy hn hP hPs hne ho htt
  have n0 := Box.new w 41 [.bool n, .int .u64 x, .int .i64 y]
  have kb : Below w.heap.size w (w.alloc (.cells #[.bool n, .int .u64 x, .int .i64 y] 41)) := (Below.refl _ _).alloc (Nat.le_refl _) _
  have H0 := Lib.hid (And.intro kb n0)
  clear n0 kb
  go_enter Tryz.func15, Tryz.ntmps15
  go_wp2_with fail
  refine (HDG.out _).mono ?_
  rintro e w1 ⟨rfl, k, rfl⟩
  have h1 := H0.out.2.same (Same.drewN _ k)
  have h2 := H0.out.1.trans (Same.below (Same.drewN _ k))
  generalize (w.alloc (.cells #[.bool n, .int .u64 x, .int .i64 y] 41)).drewN k = W at h1 h2 ⊢
  have a0 := h1.cell 0
  have a1 := h1.cell 1
  have a2 := h1.cell 2
  simp only [List.getElem?_cons_zero, List.getElem?_cons_succ] at a0 a1 a2
  have HB := Lib.hid h2
  clear h1 h2 H0 HDG hpz hlen
  go_wp2_with fail
  go_loopw [3, 4] (fun v3 v4 wr => ∃ (s : ByteArray) (i : Nat), v3 = .string s ∧ v4 = .int .i64 i ∧ W = wr ∧ (i : Int) ≤ 18 ∧ i ≤ y.toNat ∧ (s.size : Int) ≤ 40 ∧ Hid (Str s (L ++ List.replicate i 48))) (fun _ v4 _ => y.toNat - (intOf v4).toNat)
  case atStart => exact ⟨P, 0, rfl, rfl, rfl, by omega, by omega, by rw [HP.out.1.size]; have := HP.out.2; omega, by simpa [Hid] using HP.out.1⟩
  case round =>
    obtain ⟨s, i, rfl, rfl, rfl, hi18, hi, hsz, hs⟩ := hrel
    by_cases hlt : (i : Int) < y
    · have hst := hs.out.append (show Str ⟨#[48]⟩ [48] from rfl)
      rw [zeros_back] at hst
      have hsz2 : ((s ++ ⟨#[48]⟩ : ByteArray).size : Int) ≤ 40 := by rw [hst.size]; have := HP.out.2; simp; omega
      have HST := Lib.hid (And.intro hst hsz2)
      clear hst hsz2 hs
      go_wp2_with fail
      exact ⟨⟨_, i + 1, rfl, by go_num, by trivial, by omega, by omega, HST.out.2, HST.out.1⟩, by simp [intOf]; omega⟩
    · by_cases hneg : y < 0
      · obtain rfl : i = 0 := by omega
        have hs0 : Str s L := by simpa using hs.out
        have HS0 := Lib.hid hs0
        clear hs hs0
        go_wp2_with fail
        go_loopw [3] (fun v3 wr => ∃ (t : ByteArray) (j : Nat), v3 = .string t ∧ W = wr ∧ (t.size : Int) ≤ 40 ∧ Hid (Str t (List.replicate j 48 ++ L) ∧ j ≤ (-y).toNat + 1 - L.length)) (fun v3 _ => match v3 with | .string t => 100 - t.size | _ => 0)
        case atStart => exact ⟨s, 0, rfl, rfl, hsz, by simpa using HS0.out, by omega⟩
        case round =>
          obtain ⟨t, j, rfl, rfl, htz, hh⟩ := hrel
          have HH := Lib.hid hh.out
          have hz := HH.out.1.size
          rw [List.length_append, List.length_replicate] at hz
          have HZ := Lib.hid hz
          clear hh
          by_cases hle : (t.size : Int) ≤ -y
          · have hst := (show Str ⟨#[48]⟩ [48] from rfl).append HH.out.1
            rw [zeros_front] at hst
            have hz2 := hst.size
            rw [List.length_append, List.length_replicate] at hz2
            have HST := Lib.hid (And.intro hst hz2)
            have hj := HH.out.2
            clear hst hz2 hz
            go_wp2_with fail
            exact ⟨⟨_, j + 1, rfl, by trivial, by have := HST.out.2; have := HZ.out; omega, HST.out.1, by have := HZ.out; omega⟩, by show 100 - (⟨#[48]⟩ ++ t : ByteArray).size < 100 - t.size; have := HST.out.2; have := HZ.out; omega⟩
          · have hj : j = (-y).toNat + 1 - L.length := by have := HH.out.2; omega
            have hx : (t.size : Int) + y = ((List.replicate j 48 ++ L).length - (-y).toNat : Nat) := by rw [List.length_append, List.length_replicate]; omega
            obtain ⟨X, hX⟩ : ∃ X : Int, X = (t.size : Int) + y := ⟨_, rfl⟩
            rw [← hX] at hx
            obtain ⟨a, ha, hra⟩ := HH.out.1.to_ (j := X) _ hx (by omega)
            obtain ⟨b, hb, hrb⟩ := HH.out.1.from_ (i := X) _ hx (by omega)
            have hza : (a.size : Int) ≤ 50 := by rw [ha.size, List.length_take, List.length_append, List.length_replicate]; omega
            have hzb : (b.size : Int) ≤ 50 := by rw [hb.size, List.length_drop, List.length_append, List.length_replicate]; omega
            have hfin : Str (a ++ ⟨#[46]⟩ ++ b) (pointed L (-y).toNat) := by
              have := (ha.append (show Str ⟨#[46]⟩ [46] from rfl)).append hb
              unfold pointed
              rw [← hj]
              exact this
            have hzf : ((a ++ ⟨#[46]⟩ ++ b : ByteArray).size : Int) ≤ 200 := by rw [hfin.size]; have := HP.out.2; unfold pointed; simp; omega
            have HF := Lib.hid hfin
            have hb1 : (0 : Int) ≤ (t.size : Int) + y ∧ (t.size : Int) + y ≤ 40 := by omega
            rw [hX] at hra hrb
            clear ha hb hfin hx hX hz hj HH HZ HS0 hsz
            go_wp2_with fail
            go_quiet (fail)
            have hk := HB.out.trans (Same.below (Same.drewN W nq))
            have c0 : (W.drewN nq).cell? ⟨w.heap.size, 0, none⟩ = some (.bool n) := a0
            generalize W.drewN nq = W2 at hk c0 ⊢
            generalize (a ++ ⟨#[46]⟩ ++ b : ByteArray) = F at HF hzf ⊢
            have HK := Lib.hid hk
            clear hk a0 a1 a2 hra hrb
            cases n
            · go_wp2_with fail
              go_ret
              exact ⟨_, rfl, by rw [HTX.out]; simpa [hneg] using HF.out, HK.out⟩
            · go_wp2_with fail
              go_ret
              exact ⟨_, rfl, by have := (show Str ⟨#[45]⟩ [45] from rfl).append HF.out; rw [HTX.out]; simpa [hneg] using this, HK.out⟩
      · obtain rfl : i = y.toNat := by omega
        have HS0 := Lib.hid hs.out
        clear hs
        cases n
        · go_wp2_with fail
          go_ret
          exact ⟨_, rfl, by rw [HTX.out, if_neg (show ¬ y < 0 by omega)]; simpa using HS0.out, HB.out⟩
        · go_wp2_with fail
          go_ret
          exact ⟨_, rfl, by rw [HTX.out, if_neg (show ¬ y < 0 by omega)]; have := (show Str ⟨#[45]⟩ [45] from rfl).append HS0.out; simpa using this, HB.out⟩
end Go.Proofs.YtmaiggoinjldpaaGreatDoor.Dc
