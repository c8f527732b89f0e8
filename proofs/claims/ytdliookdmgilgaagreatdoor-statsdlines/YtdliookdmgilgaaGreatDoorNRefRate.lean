/-
  Layer 5: the document's RateText. No statement of the seat is proved here.
-/
import Derived.Test.YtdliookdmgilgaaGreatDoorGrNRate
import Derived.Test.YtdliookdmgilgaaGreatDoorNRefDigits
namespace Go.Proofs.YtdliookdmgilgaaGreatDoor
open Go.RowKit

theorem trim_stop {t : List UInt8} {x c : UInt8} (h : x ≠ c) : Lib.trimRightB (t ++ [x]) c = t ++ [x] := by
  unfold Lib.trimRightB
  rw [List.reverse_append]
  simp [h]
theorem list_last {l : List UInt8} (h : l ≠ []) : ∃ t x, l = t ++ [x] := ⟨l.dropLast, l.getLast h, (List.dropLast_concat_getLast h).symm⟩
theorem Str.last {s : ByteArray} {t : List UInt8} {x : UInt8} (h : Str s (t ++ [x])) : (s.size : Int) = (t.length : Int) + 1 ∧ (∀ W, (Instr.index 9 (.string s) (.int .i64 (t.length : Int))).run Tryz.prog W = .ok (.int .u8 (x.toNat : Int)) W) ∧
    ∃ q, Str q t ∧ ∀ W, (Instr.slice 9 (.string s) none (some (.int .i64 (t.length : Int))) none).run Tryz.prog W = .ok (.string q) W := by
  refine ⟨by rw [h.size]; simp, ?_, ?_⟩
  · have := h.index (i := (t.length : Int)) t.length rfl (by simp)
    simpa using this
  · obtain ⟨q, hq, hs⟩ := h.to_ (j := (t.length : Int)) t.length rfl (by simp)
    exact ⟨q, by simpa using hq, hs⟩

set_option maxRecDepth 100000 in
set_option maxHeartbeats 2000000 in
theorem rratetext_calls (n : Int) (h1 : 1 ≤ n) (h2 : n ≤ 1000000) (w : World) : Calls Tryz.prog 30 #[.int .i64 n] w fun e w' => e = .returned (.string ⟨(rateText n.toNat).toArray⟩) ∧ Below w.heap.size w w' := by
  by_cases hm : n = 1000000
  · subst hm
    go_enter Tryz.func30, Tryz.ntmps30
    go_wp2_with fail
    go_ret
    exact ⟨rfl, Below.refl _ _⟩
  · have hm' : (n == 1000000) = false := by simpa using hm
    have hlt : n.toNat < 1000000 := by omega
    have h0 : n.toNat ≠ 0 := by omega
    have hc := digits5_calls n.toNat (by unfold Two64; omega)
    have hcu : IntKind.u64.wrap n = n := by rw [IntKind.wrap_u64]; omega
    rw [show ((n.toNat : Nat) : Int) = n by omega] at hc
    obtain ⟨hv, hdd⟩ := val_decDigits n.toNat
    have hlen : (Lib.decDigits n.toNat).length ≤ 6 := by
      rw [Lib.decDigits_length]
      rcases Nat.lt_or_ge (Lib.nDigits n.toNat) 7 with h | h
      · omega
      · obtain ⟨b, r, e1, e2⟩ := decDigits_head n.toNat h0
        have hg := val_ge (r := r) (hdd b (by rw [e1]; simp)) e2
        rw [← e1, hv] at hg
        have hl2 := congrArg List.length e1
        rw [Lib.decDigits_length, List.length_cons] at hl2
        have := Nat.pow_le_pow_right (n := 10) (by decide) (show 6 ≤ r.length by omega)
        omega
    have hone := fun j (h : (List.replicate j (48 : UInt8) ++ Lib.decDigits n.toNat).length = 6) => six_unique (l := List.replicate j 48 ++ Lib.decDigits n.toNat) (n := n.toNat) ((digs_zeros j).append hdd) h (by rw [val_zeros_ahead, hv])
    have HONE := Lib.hid hone
    have HSIX := Lib.hid (six_is hlt)
    have HRT := Lib.hid (rateText_is hlt)
    have H0 := Lib.hid h0
    have HC := Lib.hid hc
    clear hone hv hdd hm hc h0 hlt
    obtain ⟨D, hD⟩ : ∃ D, D = Lib.decDigits n.toNat := ⟨_, rfl⟩
    rw [← hD] at HONE hlen HC
    clear hD
    go_enter Tryz.func30, Tryz.ntmps30
    go_wp2_with fail
    refine (HC.out _).mono ?_
    rintro e w1 ⟨rfl, k, rfl⟩
    have hDs := Str.mk D
    generalize (⟨D.toArray⟩ : ByteArray) = S0 at hDs HC ⊢
    have HDS := Lib.hid hDs
    clear hDs HC
    go_wp2_with fail
    go_loopw [3] (fun v3 wr => ∃ (s : ByteArray) (j : Nat), v3 = .string s ∧ wr = w.drewN k ∧ (s.size : Int) ≤ 6 ∧ (s.size : Int) = (j : Int) + (D.length : Int) ∧ Hid (Str s (List.replicate j 48 ++ D))) (fun v3 _ => 6 - Lib.strSize v3)
    case atStart => exact ⟨S0, 0, rfl, rfl, by rw [HDS.out.size]; omega, by rw [HDS.out.size]; omega, HDS.out⟩
    case round =>
      obtain ⟨s, j, rfl, rfl, hs6, hsj, hst⟩ := hrel
      by_cases h6 : (s.size : Int) < 6
      · have hz1 : ((⟨#[48]⟩ : ByteArray).size : Int) = 1 := rfl
        have hap := (show Str ⟨#[48]⟩ [48] from rfl).append hst.out
        have HAP := Lib.hid hap
        have hsz : ((⟨#[48]⟩ : ByteArray) ++ s).size = 1 + s.size := by rw [hap.size]; have := hst.out.size; simp at this ⊢; omega
        have HZ := Lib.hid hsz
        clear hap hsz
        go_wp2_with fail
        refine ⟨⟨_, j + 1, rfl, trivial, by rw [HZ.out]; omega, by rw [HZ.out]; omega, ?_⟩, ?_⟩
        · have := HAP.out
          rw [List.replicate_succ]
          exact this
        · have := HZ.out
          simp only [Lib.strSize]
          omega
      · have hsix := HONE.out j (by rw [← hst.out.size]; omega)
        rw [hsix] at hst
        have HST := Lib.hid hst.out
        clear hsix hst hsj HONE HDS
        go_wp2_with fail
        obtain ⟨wo, hwo⟩ : ∃ wo, wo = w.drewN k := ⟨_, rfl⟩
        rw [← hwo]
        have HWO := Lib.hid hwo
        clear hwo
        go_loopw [3] (fun v3 wr => ∃ (q : ByteArray) (d : List UInt8) (i : Nat), v3 = .string q ∧ wr = wo ∧ (q.size : Int) ≤ 6 ∧ Hid (Str q d ∧ d ++ List.replicate i 48 = six n.toNat)) (fun v3 _ => Lib.strSize v3)
        case atStart => exact ⟨s, six n.toNat, 0, rfl, rfl, hs6, HST.out, by simp⟩
        case round =>
          obtain ⟨q, d, i, rfl, rfl, hq6, hqd⟩ := hrel
          have hne : d ≠ [] := by
            rintro rfl
            have e := hqd.out.2
            have h4 := HSIX.out.2.2.2
            rw [← e, List.nil_append, val_zeros] at h4
            exact H0.out h4.symm
          obtain ⟨t, x, rfl⟩ := list_last hne
          obtain ⟨hz, hix, q2, hq2, hsl⟩ := hqd.out.1.last
          clear hne
          have hzt : (q.size : Int) - 1 = (t.length : Int) := by omega
          by_cases hx : (x.toNat : Int) = 48
          · have hx8 : x = 48 := UInt8.toNat_inj.1 (by show x.toNat = 48; omega)
            rw [hx] at hix
            have HX := Lib.hid (show Str q2 t ∧ t ++ List.replicate (i + 1) 48 = six n.toNat ∧ q2.size < q.size ∧ (q2.size : Int) ≤ 6 by
              refine ⟨hq2, ?_, by have := hq2.size; omega, by have := hq2.size; omega⟩
              have := hqd.out.2
              rw [hx8, List.append_assoc] at this
              rw [List.replicate_succ]
              exact this)
            clear hx hx8 hq2
            go_wp2_with fail
            exact ⟨⟨q2, t, i + 1, rfl, trivial, HX.out.2.2.2, HX.out.1, HX.out.2.1⟩, by have := HX.out.2.2.1; simp only [Lib.strSize]; omega⟩
          · obtain ⟨y, hy⟩ : ∃ y : Int, y = (x.toNat : Int) := ⟨_, rfl⟩
            rw [← hy] at hix hx
            have hx8 : x ≠ 48 := by rintro rfl; exact hx hy
            have hyb : (y == 48) = false := by simpa using hx
            have hres : rateText n.toNat = [48, 46] ++ (t ++ [x]) := by
              rw [HRT.out, ← hqd.out.2, trim_zeros, trim_stop hx8]; rfl
            have HE := Lib.hid (show (⟨#[48, 46]⟩ : ByteArray) ++ q = ⟨(rateText n.toNat).toArray⟩ by rw [hres]; exact (begin_str.append hqd.out.1).eq)
            have h2z : ((⟨#[48, 46]⟩ : ByteArray).size : Int) = 2 := rfl
            clear hx hy hx8 hres hq2
            go_wp2_with fail
            go_ret
            exact ⟨congrArg (fun z => Ending.returned (Value.string z)) HE.out, by rw [HWO.out]; exact Same.below (Same.drewN _ _)⟩
end Go.Proofs.YtdliookdmgilgaaGreatDoor
