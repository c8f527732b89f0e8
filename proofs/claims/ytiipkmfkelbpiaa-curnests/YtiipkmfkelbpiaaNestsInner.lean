/-
  The contract of the inner read of CurNests. No statement of the seat is proved here.
-/
import Derived.Test.YtiipkmfkelbpiaaNestsBase
namespace Go.Proofs.Ytiipkmfkelbpiaa
open Go.RowKit

/-- How the inner read ends. -/
def IRel (w1 : World) (p2 q2 q1 g11 : Nat) (b1 : List Int) (k1 : Nat) (whose : Int) (s1 : St) (r : Option Nat) (s2 : St) (w2 : World) : Prop :=
  s2 = pulls b1 k1 ∧ Keeps [p2, g11] w1 w2 ∧
  ((r = none ∧ Box w2 g11 4 [.bool true] ∧ ¬ (whose = 1 ∧ s1.c ≠ 0) ∧ ¬ (whose = 0 ∧ b1.length < k1)) ∨
   (r = some q2 ∧ Box w2 g11 4 [.bool false] ∧ whose = 0 ∧ b1.length < k1) ∨
   (r = some q1 ∧ Box w2 g11 4 [.bool false] ∧ whose = 1 ∧ s1.c ≠ 0))

set_option maxRecDepth 100000 in
set_option maxHeartbeats 4000000 in
theorem inner_read (w1 : World) (R2 R1 Ro : Option Addr) (lo p2 q2 p1 q1 po g4 g5 gc g7 g11 : Nat) (b1 : List Int) (t0 : Int) (k1 : Nat) (whose : Int) (s1 so : St)
    (hlo : lo ≤ p2) (h11 : g11 < lo) (h12 : p1 ≠ p2) (h2 : CurOk R2 w1 p2 (.start b1) (some ⟨q2, 0, none⟩)) (hq2 : Box w1 q2 68 [.pointer (some ⟨p2, 0, none⟩)])
    (h1 : CurOk R1 w1 p1 s1 (some ⟨q1, 0, none⟩)) (hq1 : Box w1 q1 68 [.pointer (some ⟨p1, 0, none⟩)]) (ho : CurOk Ro w1 po so none) (hop : po ≠ p2)
    (b4 : Box w1 g4 59 [.int .i64 t0, .int .i64 k1]) (b5 : Box w1 g5 3 [.int .i64 whose]) (bc : Box w1 gc 25 [.pointer (some ⟨p1, 0, none⟩)]) (b7 : Box w1 g7 25 [.pointer (some ⟨po, 0, none⟩)]) (b11 : Box w1 g11 4 [.bool false])
    (hk1 : k1 ≤ 120) :
    Calls Try.prog 26 #[.pointer (some ⟨p2, 0, none⟩), .pointer (some ⟨g4, 0, none⟩), .pointer (some ⟨g5, 0, none⟩), .pointer (some ⟨gc, 0, none⟩), .pointer (some ⟨g7, 0, none⟩), .pointer (some ⟨g11, 0, none⟩)] w1
      (ReadOk lo p2 w1 (fun r w2 => ∃ s2, CurOk R2 w2 p2 s2 (some ⟨q2, 0, none⟩) ∧ IRel w1 p2 q2 q1 g11 b1 k1 whose s1 r s2 w2)) := by
  obtain ⟨A2, cap2, c2, _⟩ := h2.is_
  have n4 : g4 ∉ [p2, g11] := by simp only [List.mem_cons, List.not_mem_nil, or_false, not_or]; exact ⟨b4.ne c2 (by decide), b4.ne b11 (by decide)⟩
  have n5 : g5 ∉ [p2, g11] := by simp only [List.mem_cons, List.not_mem_nil, or_false, not_or]; exact ⟨b5.ne c2 (by decide), b5.ne b11 (by decide)⟩
  have nc : gc ∉ [p2, g11] := by simp only [List.mem_cons, List.not_mem_nil, or_false, not_or]; exact ⟨bc.ne c2 (by decide), bc.ne b11 (by decide)⟩
  have n7 : g7 ∉ [p2, g11] := by simp only [List.mem_cons, List.not_mem_nil, or_false, not_or]; exact ⟨b7.ne c2 (by decide), b7.ne b11 (by decide)⟩
  have nq2 : q2 ∉ [p2, g11] := by simp only [List.mem_cons, List.not_mem_nil, or_false, not_or]; exact ⟨hq2.ne c2 (by decide), hq2.ne b11 (by decide)⟩
  have nq1 : q1 ∉ [p2, g11] := by simp only [List.mem_cons, List.not_mem_nil, or_false, not_or]; exact ⟨hq1.ne c2 (by decide), hq1.ne b11 (by decide)⟩
  have np1 : p1 ∉ [p2, g11] := by
    obtain ⟨A1, cap1, c1, _⟩ := h1.is_
    simp only [List.mem_cons, List.not_mem_nil, or_false, not_or]
    exact ⟨h12, Box.ne c1 b11 (by decide)⟩
  have npo : po ∉ [p2, g11] := by
    obtain ⟨Ao, capo, co, _⟩ := ho.is_
    simp only [List.mem_cons, List.not_mem_nil, or_false, not_or]
    exact ⟨hop, Box.ne co b11 (by decide)⟩
  have nb : ∀ g ∈ [p2, g11], g < w1.heap.size → NoBytes w1 g := by
    intro g hg _
    simp only [List.mem_cons, List.not_mem_nil, or_false] at hg
    rcases hg with rfl | rfl
    · exact h2.nobytes
    · exact b11.nobytes (by simp)
  have hp11 : p2 ≠ g11 := by omega
  -- what any world has that keeps all but these two blocks
  have up : ∀ wr, Keeps [p2, g11] w1 wr → Box wr g4 59 [.int .i64 t0, .int .i64 k1] ∧ Box wr g5 3 [.int .i64 whose] ∧ Box wr gc 25 [.pointer (some ⟨p1, 0, none⟩)] ∧ Box wr g7 25 [.pointer (some ⟨po, 0, none⟩)] ∧
      Box wr q2 68 [.pointer (some ⟨p2, 0, none⟩)] ∧ Box wr q1 68 [.pointer (some ⟨p1, 0, none⟩)] ∧ CurOk R1 wr p1 s1 (some ⟨q1, 0, none⟩) ∧ CurOk Ro wr po so none := fun wr hk =>
    ⟨b4.keeps hk n4, b5.keeps hk n5, bc.keeps hk nc, b7.keeps hk n7, hq2.keeps hk nq2, hq1.keeps hk nq1, h1.keeps hk np1 nb, ho.keeps hk npo nb⟩
  have UP := Lib.hid up
  have H2 := Lib.hid h2
  have B11 := Lib.hid b11
  clear up h2 b11 b4 b5 bc b7 hq2 hq1 h1 ho c2 n4 n5 nc n7 nq2 nq1 np1 npo nb
  go_enter Try.func26, Try.ntmps26
  go_wp2_with fail
  go_loopw [7] (fun i wr => ∃ k : Nat, k ≤ k1 ∧ i = .int .i64 k ∧ CurOk R2 wr p2 (pulls b1 k) (some ⟨q2, 0, none⟩) ∧ But p2 w1 wr) (fun i _ => k1 - (intOf i).toNat)
  case atStart => exact ⟨0, Nat.zero_le _, rfl, by rw [pulls_zero]; exact H2.out, .refl _ _⟩
  case round =>
    obtain ⟨k, hk, rfl, hc, hbt⟩ := hrel
    have hkp : Keeps [p2, g11] w1 wr := .of_but hbt (by simp)
    obtain ⟨d4, d5, dc, d7, dq2, dq1, dp1, dpo⟩ := UP.out wr hkp
    have v4 : wr.cell? ⟨g4, 1, none⟩ = some (.int .i64 k1) := d4.cell 1
    by_cases hlt : k < k1
    · have hlt' : (k : Int) < (k1 : Int) := by omega
      clear d4 d5 dc d7 dq2 dq1 dp1 dpo hkp
      go_wp2_with fail
      refine (byte_calls hc).mono ?_
      rintro e wa ⟨rfl, ha, hba⟩
      rw [pulls_succ] at ha
      have HA := Lib.hid (And.intro ha (hbt.trans hba))
      clear ha hba hc hbt v4
      go_wp2_with fail
      exact ⟨⟨k + 1, by omega, by go_num, HA.out.1, HA.out.2⟩, by simp [intOf]; omega⟩
    · obtain rfl : k = k1 := by omega
      have hlt' : ¬ (k : Int) < (k : Int) := by omega
      have v5 : wr.cell? ⟨g5, 0, none⟩ = some (.int .i64 whose) := d5.cell 0
      have vc : wr.cell? ⟨gc, 0, none⟩ = some (.pointer (some ⟨p1, 0, none⟩)) := dc.cell 0
      have v7 : wr.cell? ⟨g7, 0, none⟩ = some (.pointer (some ⟨po, 0, none⟩)) := d7.cell 0
      have D11 := Lib.hid (B11.out.but hbt hp11.symm)
      have HKP := Lib.hid hkp
      have HC := Lib.hid hc
      have hne11 : g11 < lo := h11
      -- how it ends by itself, in whatever world that is left so
      have fin : ∀ wz, But p2 w1 wz → CurOk R2 wz p2 (pulls b1 k) (some ⟨q2, 0, none⟩) → ¬ (whose = 1 ∧ s1.c ≠ 0) → ¬ (whose = 0 ∧ b1.length < k) →
          ReadOk lo p2 w1 (fun r w2 => ∃ s2, CurOk R2 w2 p2 s2 (some ⟨q2, 0, none⟩) ∧ IRel w1 p2 q2 q1 g11 b1 k whose s1 r s2 w2) (.returned (.tuple #[])) (wz.setCell ⟨g11, 0, none⟩ (.bool true)) := by
        intro wz hz hcz x1 x2
        have hb11 : But g11 wz (wz.setCell ⟨g11, 0, none⟩ (.bool true)) := (But.refl _ _).set 0 _
        have hk2 : Keeps [p2, g11] w1 (wz.setCell ⟨g11, 0, none⟩ (.bool true)) := (Keeps.of_but hz (by simp)).trans (.of_but hb11 (by simp))
        have bz := B11.out.but hz hp11.symm
        exact ⟨hk2.size, fun j hj1 hj2 hj3 => hk2.block j hj2 (by simp only [List.mem_cons, List.not_mem_nil, or_false]; omega), .inl ⟨rfl, _, hcz.elsewhere bz (by decide) (by simp) hb11, rfl, hk2, .inl ⟨rfl, bz.set 0 _, x1, x2⟩⟩⟩
      have FIN := Lib.hid fin
      have frz : ∀ wz, But p2 w1 wz → wz.cell? ⟨g11, 0, none⟩ = some (.bool false) ∧ wz.frozen? ⟨g11, 0, none⟩ = false := fun wz hz => ⟨(B11.out.but hz hp11.symm).cell 0, (B11.out.but hz hp11.symm).frozen 0⟩
      have FRZ := Lib.hid frz
      have HBT := Lib.hid hbt
      clear fin frz hc hkp d4 d5 dc d7 hbt
      by_cases w0 : whose = 0
      · have t0 : (whose == 0) = true := by simp [w0]
        by_cases hfew : b1.length < k
        · have hcz : (pulls b1 k).c ≠ 0 := (pulls_c b1 k).2 hfew
          have W0 := Lib.hid w0
          clear w0
          go_wp2_with fail
          refine (must_wrong HC.out dq2 hcz).mono ?_
          rintro e wz ⟨rfl, hbz⟩
          have hz : But p2 w1 wz := HBT.out.trans (.of_below hbz)
          have hk2 : Keeps [p2, g11] w1 wz := .of_but hz (by simp)
          exact ⟨rfl, hk2.size, fun j hj1 hj2 hj3 => hk2.block j hj2 (by simp only [List.mem_cons, List.not_mem_nil, or_false]; omega), .inr ⟨q2, _, rfl, ⟨[], rfl, by simp⟩, ⟨_, dq2.keep hbz⟩, _, HC.out.keep hbz, rfl, hk2, .inr (.inl ⟨rfl, B11.out.but hz hp11.symm, W0.out, hfew⟩)⟩⟩
        · have hcz : (pulls b1 k).c = 0 := by
            have := mt (pulls_c b1 k).1 hfew
            omega
          have W0 := Lib.hid w0
          clear w0
          go_wp2_with fail
          refine (must_right HC.out dq2 hcz).mono ?_
          rintro e wz ⟨rfl, hbz⟩
          have hz : But p2 w1 wz := HBT.out.trans (.of_below hbz)
          obtain ⟨z11, f11⟩ := FRZ.out wz hz
          have HZ := Lib.hid (FIN.out wz hz (HC.out.keep hbz) (fun x => by have := W0.out; omega) (fun x => hfew x.2))
          clear hz hbz
          go_wp2_with fail
          go_end0
          exact HZ.out
      · have t0 : (whose == 0) = false := by simp [w0]
        by_cases w1' : whose = 1
        · have t1 : (whose == 1) = true := by simp [w1']
          have W1 := Lib.hid w1'
          by_cases hsc : s1.c = 0
          · clear w0 w1'
            go_wp2_with fail
            refine (must_right dp1 dq1 hsc).mono ?_
            rintro e wz ⟨rfl, hbz⟩
            have hz : But p2 w1 wz := HBT.out.trans (.of_below hbz)
            obtain ⟨z11, f11⟩ := FRZ.out wz hz
            have HZ := Lib.hid (FIN.out wz hz (HC.out.keep hbz) (fun x => x.2 hsc) (fun x => by have := W1.out; omega))
            clear hz hbz
            go_wp2_with fail
            go_end0
            exact HZ.out
          · clear w0 w1'
            go_wp2_with fail
            refine (must_wrong dp1 dq1 hsc).mono ?_
            rintro e wz ⟨rfl, hbz⟩
            have hz : But p2 w1 wz := HBT.out.trans (.of_below hbz)
            have hk2 : Keeps [p2, g11] w1 wz := .of_but hz (by simp)
            exact ⟨rfl, hk2.size, fun j hj1 hj2 hj3 => hk2.block j hj2 (by simp only [List.mem_cons, List.not_mem_nil, or_false]; omega), .inr ⟨q1, _, rfl, ⟨[], rfl, by simp⟩, ⟨_, dq1.keep hbz⟩, _, HC.out.keep hbz, rfl, hk2, .inr (.inr ⟨rfl, B11.out.but hz hp11.symm, W1.out, hsc⟩)⟩⟩
        · have t1 : (whose == 1) = false := by simp [w1']
          have W0 := Lib.hid (And.intro w0 w1')
          clear w0 w1'
          go_wp2_with fail
          refine (must_free dpo).mono ?_
          rintro e wz ⟨rfl, rfl⟩
          obtain ⟨z11, f11⟩ := FRZ.out wr HBT.out
          have HZ := Lib.hid (FIN.out wr HBT.out HC.out (fun x => W0.out.2 x.1) (fun x => W0.out.1 x.1))
          go_wp2_with fail
          go_end0
          exact HZ.out
end Go.Proofs.Ytiipkmfkelbpiaa
