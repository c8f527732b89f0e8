/-
  Contracts of the document's wide and Compare. No statement of the seat is proved here.
-/
import Derived.Test.YtmlandoecgldaaaDoorDRefText
namespace Go.Proofs.YtmlandoecgldaaaDoor
open Go.RowKit

/-- The wide digits of a number. -/
def wideL (c : Nat) (e : Int) : List UInt8 := List.replicate (120 - ((Lib.decDigits c).length + (60 + e).toNat)) 48 ++ (Lib.decDigits c ++ List.replicate (60 + e).toNat 48)
theorem wideL_is {d : D} (h : Near d) : Digs (wideL d.c d.e) ∧ (wideL d.c d.e).length = 120 ∧ val (wideL d.c d.e) = sizeOf18 d * 10 ^ 42 := by
  obtain ⟨hv, hd⟩ := val_decDigits d.c
  have hl := decDigits_len20 h.1
  have hn := h.2
  refine ⟨(digs_zeros _).append (hd.append (digs_zeros _)), ?_, ?_⟩
  · unfold wideL; simp; omega
  · unfold wideL sizeOf18
    rw [val_zeros_ahead, val_zeros_behind, hv, Nat.mul_assoc, ← Nat.pow_add]
    congr 2
    omega

set_option maxRecDepth 100000 in
set_option maxHeartbeats 4000000 in
theorem wide_calls (d : D) (hn : Near d) (w : World) : Calls Tryd.prog 33 #[dV d] w (Says w (wideL d.c d.e)) := by
  have hdg := fun W => digits_calls d.c hn.1 W
  have hlen := decDigits_len20 hn.1
  obtain ⟨x, hx⟩ : ∃ x : Int, x = (d.c : Int) := ⟨_, rfl⟩
  obtain ⟨y, hy⟩ : ∃ y : Int, y = d.e := ⟨_, rfl⟩
  obtain ⟨n, hnn⟩ : ∃ n : Bool, n = d.neg := ⟨_, rfl⟩
  obtain ⟨P, hP⟩ : ∃ P : ByteArray, P = ⟨(Lib.decDigits d.c).toArray⟩ := ⟨_, rfl⟩
  have hPs : Str P (Lib.decDigits d.c) := by rw [hP]; exact Str.mk _
  have hye : -18 ≤ y ∧ y ≤ 18 := by rw [hy]; exact hn.2
  obtain ⟨T, hT⟩ : ∃ T, T = wideL d.c d.e := ⟨_, rfl⟩
  rw [← hT]
  have htt : T = List.replicate (120 - ((Lib.decDigits d.c).length + (60 + y).toNat)) 48 ++ (Lib.decDigits d.c ++ List.replicate (60 + y).toNat 48) := by rw [hT, hy]; rfl
  simp only [← hP, ← hx] at hdg
  unfold dV
  rw [← hx, ← hy, ← hnn]
  clear hT
  generalize Lib.decDigits d.c = L at hPs hlen htt
  have HTX := Lib.hid htt
  have HP := Lib.hid (And.intro hPs hlen)
  have HDG := Lib.hid hdg
  clear hdg hx hy hnn hP hPs hn htt
  have n0 := Box.new w 24 [.bool n, .int .u64 x, .int .i64 y]
  have kb : Below w.heap.size w (w.alloc (.cells #[.bool n, .int .u64 x, .int .i64 y] 24)) := (Below.refl _ _).alloc (Nat.le_refl _) _
  have H0 := Lib.hid (And.intro kb n0)
  clear n0 kb
  go_enter Tryd.func33, Tryd.ntmps33
  go_wp2_with fail
  refine (HDG.out _).mono ?_
  rintro e w1 ⟨rfl, k, rfl⟩
  have h1 := H0.out.2.same (Same.drewN _ k)
  have h2 := H0.out.1.trans (Same.below (Same.drewN _ k))
  generalize (w.alloc (.cells #[.bool n, .int .u64 x, .int .i64 y] 24)).drewN k = W at h1 h2 ⊢
  have a2 := h1.cell 2
  simp only [List.getElem?_cons_zero, List.getElem?_cons_succ] at a2
  have HB := Lib.hid h2
  clear h1 h2 H0 HDG hlen
  go_wp2_with fail
  go_loopw [3, 4] (fun v3 v4 wr => ∃ (s : ByteArray) (i : Nat), v3 = .string s ∧ v4 = .int .i64 i ∧ W = wr ∧ (i : Int) ≤ 78 ∧ i ≤ (60 + y).toNat ∧ (s.size : Int) ≤ 100 ∧ Hid (Str s (L ++ List.replicate i 48))) (fun _ v4 _ => (60 + y).toNat - (intOf v4).toNat)
  case atStart => exact ⟨P, 0, rfl, rfl, rfl, by omega, by omega, by rw [HP.out.1.size]; have := HP.out.2; omega, by simpa [Hid] using HP.out.1⟩
  case round =>
    obtain ⟨s, i, rfl, rfl, rfl, hi18, hi, hsz, hs⟩ := hrel
    by_cases hlt : (i : Int) < 60 + y
    · have hst := hs.out.append (show Str ⟨#[48]⟩ [48] from rfl)
      rw [zeros_back] at hst
      have hsz2 : ((s ++ ⟨#[48]⟩ : ByteArray).size : Int) ≤ 100 := by rw [hst.size]; have := HP.out.2; simp; omega
      have HST := Lib.hid (And.intro hst hsz2)
      clear hst hsz2 hs
      go_wp2_with fail
      exact ⟨⟨_, i + 1, rfl, by go_num, by trivial, by omega, by omega, HST.out.2, HST.out.1⟩, by simp [intOf]; omega⟩
    · obtain rfl : i = (60 + y).toNat := by omega
      have HS0 := Lib.hid hs.out
      clear hs
      go_wp2_with fail
      go_loopw [3] (fun v3 wr => ∃ (t : ByteArray) (j : Nat), v3 = .string t ∧ W = wr ∧ (t.size : Int) ≤ 120 ∧ Hid (Str t (List.replicate j 48 ++ (L ++ List.replicate (60 + y).toNat 48)) ∧ j ≤ 120 - (L.length + (60 + y).toNat))) (fun v3 _ => match v3 with | .string t => 200 - t.size | _ => 0)
      case atStart => exact ⟨s, 0, rfl, rfl, by omega, by simpa using HS0.out, by omega⟩
      case round =>
        obtain ⟨t, j, rfl, rfl, htz, hh⟩ := hrel
        have HH := Lib.hid hh.out
        have hz := HH.out.1.size
        rw [List.length_append, List.length_append, List.length_replicate, List.length_replicate] at hz
        have HZ := Lib.hid hz
        have hL := HP.out.2
        clear hh
        by_cases hle : (t.size : Int) < 120
        · have hst := (show Str ⟨#[48]⟩ [48] from rfl).append HH.out.1
          rw [zeros_front] at hst
          have hz2 := hst.size
          rw [List.length_append, List.length_append, List.length_replicate, List.length_replicate] at hz2
          have HST := Lib.hid (And.intro hst hz2)
          have hj := HH.out.2
          clear hst hz2 hz
          go_wp2_with fail
          exact ⟨⟨_, j + 1, rfl, by trivial, by have := HST.out.2; have := HZ.out; omega, HST.out.1, by have := HZ.out; omega⟩, by show 200 - (⟨#[48]⟩ ++ t : ByteArray).size < 200 - t.size; have := HST.out.2; have := HZ.out; omega⟩
        · have hj : j = 120 - (L.length + (60 + y).toNat) := by have := HH.out.2; omega
          have HF := Lib.hid (show Str t T by rw [HTX.out, ← hj]; exact HH.out.1)
          clear hz hj HH HZ HS0 hsz
          go_wp2_with fail
          go_ret
          exact ⟨_, rfl, HF.out, HB.out⟩
end Go.Proofs.YtmlandoecgldaaaDoor
