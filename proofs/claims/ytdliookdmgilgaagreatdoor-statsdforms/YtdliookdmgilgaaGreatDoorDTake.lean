/-
  Contract of the closure that takes a number's digits. No statement of the seat is proved here.
-/
import Derived.Test.YtdliookdmgilgaaGreatDoorGrDigs
import Derived.Laws.Externs
namespace Go.Proofs.YtdliookdmgilgaaGreatDoor.Dc
open Go.RowKit

theorem add64_run (x y : Int) (hx : 0 ≤ x) (hy : 0 ≤ y) (w : World) :
    (callFunc 99 #[.int .u64 x, .int .u64 y, .int .u64 0]).run Tryz.prog w =
      .ok (.value (.tuple #[.int .u64 ((x + y) % 18446744073709551616), .int .u64 ((x + y) / 18446744073709551616)])) w := by
  rw [run_callFunc_extern Tryz.func99 (by kernel_rfl) (by kernel_rfl) (by kernel_rfl) (e := add64Entry) (by kernel_rfl), run_add64 x y 0 hx hy (by omega) (by omega)]
  simp only [Result.andThen, Int.add_zero]

/-- What is known of a number: its digits make v, so many of them, p of them behind the point. -/
structure Known (v p m coef zeros : Nat) (beyond : Bool) : Prop where
  fits : coef < Two64
  few : zeros ≤ m
  places : p ≤ m
  plain : beyond = false → v = coef * 10 ^ zeros
  great : beyond = true → ∃ c z, v = c * 10 ^ z ∧ c % 10 ≠ 0 ∧ Two64 ≤ c

def written (below point : Bool) (p coef zeros : Int) (beyond : Bool) : List Value := [.bool below, .bool point, .int .i64 p, .int .u64 coef, .int .i64 zeros, .bool beyond]
def WAt (w : World) (g : Nat) (below point : Bool) (v p m : Nat) : Prop :=
  ∃ (coef zeros : Nat) (beyond : Bool), Box w g 92 (written below point p coef zeros beyond) ∧ Known v p m coef zeros beyond

theorem known_zero {v p m coef zeros : Nat} {beyond : Bool} (h : Known v p m coef zeros beyond) (p' : Nat) (hp : p' ≤ m + 1) : Known (10 * v + 0) p' (m + 1) coef (zeros + 1) beyond :=
  ⟨h.fits, by have := h.few; omega, hp, fun hb => by rw [h.plain hb, Nat.pow_succ, Nat.add_zero, ← Nat.mul_assoc, Nat.mul_comm 10, Nat.mul_assoc, Nat.mul_comm 10], fun hb => by
    obtain ⟨c, z, h1, h2, h3⟩ := h.great hb
    exact ⟨c, z + 1, by rw [h1, Nat.pow_succ, Nat.add_zero, ← Nat.mul_assoc, Nat.mul_comm 10, Nat.mul_assoc, Nat.mul_comm 10], h2, h3⟩⟩
theorem known_beyond {v p m coef zeros : Nat} (h : Known v p m coef zeros true) (d : Nat) (hd : 1 ≤ d ∧ d ≤ 9) (p' : Nat) (hp : p' ≤ m + 1) : Known (10 * v + d) p' (m + 1) coef zeros true :=
  ⟨h.fits, by have := h.few; omega, hp, fun hb => (by cases hb), fun _ => by
    obtain ⟨c, z, h1, h2, h3⟩ := h.great rfl
    have : c * 1 ≤ c * 10 ^ z := Nat.mul_le_mul_left _ (Nat.pos_of_ne_zero (by simp))
    exact ⟨10 * v + d, 0, by simp, by omega, by omega⟩⟩
theorem known_digit {v p m coef zeros : Nat} (h : Known v p m coef zeros false) (d : Nat) (hd : 1 ≤ d ∧ d ≤ 9) (p' : Nat) (hp : p' ≤ m + 1) (r : Nat) (f : Bool) (hr : lifted coef ((zeros : Int) + 1) = (r, f)) :
    Known (10 * v + d) p' (m + 1) ((r + d) % Two64) 0 (!f || decide (Two64 ≤ r + d)) := by
  have hv := h.plain rfl
  have e : ((zeros : Int) + 1).toNat = zeros + 1 := by omega
  unfold lifted at hr
  rw [e, Nat.pow_succ, ← Nat.mul_assoc, ← hv] at hr
  have h64 : 0 < Two64 := by decide
  refine ⟨Nat.mod_lt _ h64, by omega, hp, fun hb => ?_, fun hb => ?_⟩
  · split at hr
    · injection hr with h1 h2
      subst h1 h2
      simp at hb
      rw [Nat.mod_eq_of_lt hb]; omega
    · injection hr with h1 h2
      subst h1 h2
      simp at hb
  · refine ⟨10 * v + d, 0, by simp, by omega, ?_⟩
    split at hr
    · injection hr with h1 h2
      subst h1 h2
      simp at hb
      omega
    · rename_i hlt
      omega

/-- What the closure leaves. -/
def Takes (w : World) (g : Nat) (below point : Bool) (v p m : Nat) (e : Ending) (w' : World) : Prop := e = .returned (.tuple #[]) ∧ WAt w' g below point v p m ∧ But g w w'

set_option maxRecDepth 100000 in
set_option maxHeartbeats 4000000 in
theorem take_calls (w : World) (g b : Nat) (below point : Bool) (v p m d : Nat) (hd : d ≤ 9) (hm : m ≤ 1000) (h : WAt w g below point v p m) (hb : Box w b 95 [.pointer (some ⟨g, 0, none⟩)]) (hne : b ≠ g) :
    Calls Tryz.prog 97 #[.int .u64 d, .pointer (some ⟨b, 0, none⟩)] w (Takes w g below point (10 * v + d) (if point then p + 1 else p) (m + 1)) := by
  obtain ⟨coef, zeros, beyond, hbox, hk⟩ := h
  have cb : w.cell? ⟨b, 0, none⟩ = some (.pointer (some ⟨g, 0, none⟩)) := hb.cell 0
  have c1 : w.cell? ⟨g, 1, none⟩ = some (.bool point) := hbox.cell 1
  have c2 : w.cell? ⟨g, 2, none⟩ = some (.int .i64 p) := hbox.cell 2
  have c3 : w.cell? ⟨g, 3, none⟩ = some (.int .u64 coef) := hbox.cell 3
  have c4 : w.cell? ⟨g, 4, none⟩ = some (.int .i64 zeros) := hbox.cell 4
  have c5 : w.cell? ⟨g, 5, none⟩ = some (.bool beyond) := hbox.cell 5
  have f2 := hbox.frozen 2
  have f3 := hbox.frozen 3
  have f4 := hbox.frozen 4
  have f5 := hbox.frozen 5
  have hp := hk.places
  have hz := hk.few
  have HH := Lib.hid (And.intro hbox hk)
  have hne2 : g ≠ b := fun h => hne h.symm
  obtain ⟨x, hx⟩ : ∃ x : Int, x = (coef : Int) := ⟨_, rfl⟩
  rw [← hx] at c3
  have HX := Lib.hid hx
  clear hbox hk hx
  by_cases hd0 : d = 0
  · subst hd0
    clear hb
    have e1 : (((zeros + 1 : Nat)) : Int) = (zeros : Int) + 1 := by omega
    have e2 : (((p + 1 : Nat)) : Int) = (p : Int) + 1 := by omega
    have HE := Lib.hid (And.intro e1 e2)
    clear e1 e2
    cases point
    · go_enter Tryz.func97, Tryz.ntmps97
      go_wp2_with fail
      refine bodyPost_ret (v := .tuple #[]) (by simp [results, Tryz.results97, go_sem]) rfl ⟨rfl, ?_, ?_⟩
      · refine ⟨coef, zeros + 1, beyond, ?_, known_zero HH.out.2 p (by omega)⟩
        rw [HE.out.1]
        exact HH.out.1.set 4 _
      · exact (But.refl g w).set 4 _
    · go_enter Tryz.func97, Tryz.ntmps97
      go_wp2_with fail
      refine bodyPost_ret (v := .tuple #[]) (by simp [results, Tryz.results97, go_sem]) rfl ⟨rfl, ?_, ?_⟩
      · refine ⟨coef, zeros + 1, beyond, ?_, known_zero HH.out.2 (p + 1) (by omega)⟩
        rw [HE.out.1, HE.out.2]
        exact (HH.out.1.set 2 _).set 4 _
      · exact ((But.refl g w).set 2 _).set 4 _
  · have hd1 : ((d : Int) == 0) = false := by simp; omega
    cases beyond
    · obtain ⟨r, f, hr⟩ : ∃ r f, lifted coef ((zeros : Int) + 1) = (r, f) := ⟨_, _, rfl⟩
      have HK := Lib.hid (fun p' hp' => known_digit HH.out.2 d (by omega) p' hp' r f hr)
      have hl : ∀ W, Calls Tryz.prog 98 #[.int .u64 x, .int .i64 ((zeros : Int) + 1)] W fun e w' => e = .returned (.tuple #[.int .u64 (r : Int), .bool f]) ∧ w' = W := fun W => by
        have := lift_calls coef ((zeros : Int) + 1) W HH.out.2.fits (by omega)
        rw [hr, ← HX.out] at this
        exact this.mono fun e w' ⟨h1, h2⟩ => ⟨h1, h2.symm⟩
      have hadd := add64_run (r : Int) (d : Int) (by omega) (by omega)
      obtain ⟨sm, hsm⟩ : ∃ sm : Int, sm = ((r : Int) + (d : Int)) % 18446744073709551616 := ⟨_, rfl⟩
      obtain ⟨cy, hcy⟩ : ∃ cy : Int, cy = ((r : Int) + (d : Int)) / 18446744073709551616 := ⟨_, rfl⟩
      have hsm2 : sm = (((r + d) % Two64 : Nat) : Int) := by unfold Two64; omega
      have hcy2 : (!(cy == 0)) = decide (Two64 ≤ r + d) := by
        rw [hcy]
        by_cases h : Two64 ≤ r + d
        · rw [decide_eq_true h]; unfold Two64 at h; simp; omega
        · rw [decide_eq_false h]; unfold Two64 at h; simp; omega
      rw [← hsm, ← hcy] at hadd
      have HS := Lib.hid (And.intro hsm2 hcy2)
      obtain ⟨rz, hrz⟩ : ∃ rz : Int, rz = (r : Int) := ⟨_, rfl⟩
      rw [← hrz] at hadd
      simp only [← hrz] at hl
      have HL := Lib.hid hl
      clear hl hr hsm hcy hsm2 hcy2 hrz
      cases point
      · go_enter Tryz.func97, Tryz.ntmps97
        go_wp2_with fail
        go_quiet ((go_at_call 98; exact Calls.quiet_of_same (HL.out _)))
        have hbx := HH.out.1.same (Same.drewN w nq)
        have hbt := (But.refl g w).trans (But.of_same (Same.drewN w nq))
        have hcp := (Box.far hb (q := ⟨g, 2, none⟩) hne (.int .i64 ((p : Int) + 1)))
        have hcb := (hb).same (Same.drewN w nq)
        generalize (w).drewN nq = W2 at hbx hbt hcb ⊢
        clear cb c2 c3 c4 c5 f2 f3 f4 f5 hcp hb
        have cb : W2.cell? ⟨b, 0, none⟩ = some (.pointer (some ⟨g, 0, none⟩)) := hcb.cell 0
        have c3 : W2.cell? ⟨g, 3, none⟩ = some (.int .u64 coef) := hbx.cell 3
        have c4 : W2.cell? ⟨g, 4, none⟩ = some (.int .i64 zeros) := hbx.cell 4
        have c5 : W2.cell? ⟨g, 5, none⟩ = some (.bool false) := hbx.cell 5
        have f3 := hbx.frozen 3
        have f4 := hbx.frozen 4
        have f5 := hbx.frozen 5
        rw [← HX.out] at c3
        have HB := Lib.hid (And.intro hbx hbt)
        clear hbx hbt hcb HL
        go_wp2_with fail
        cases f
        · go_region
          refine bodyPost_end (v := .tuple #[]) (by simp [results, Tryz.results97, go_sem]) rfl ⟨rfl, ?_, ?_⟩
          · refine ⟨(r + d) % Two64, 0, true, ?_, ?_⟩
            · rw [← HS.out.1]
              exact (((HB.out.1.set 3 _).set 4 _).set 5 _).same (Same.drewN _ 1)
            · have := HK.out p (by omega)
              exact this
          · exact (((HB.out.2.set 3 _).set 4 _).set 5 _).drew
        · by_cases hcz : cy = 0
          · subst hcz
            go_region
            refine bodyPost_end (v := .tuple #[]) (by simp [results, Tryz.results97, go_sem]) rfl ⟨rfl, ?_, ?_⟩
            · refine ⟨(r + d) % Two64, 0, false, ?_, ?_⟩
              · rw [← HS.out.1]
                exact (((HB.out.1.set 3 _).set 4 _).set 5 _).same (Same.drewN _ 1)
              · have := HK.out p (by omega)
                rw [← HS.out.2] at this; exact this
            · exact (((HB.out.2.set 3 _).set 4 _).set 5 _).drew
          · have hcz2 : (cy == 0) = false := by simp [hcz]
            have hcn : (cy != 0) = true := by simp [hcz]
            have HCN := Lib.hid hcn
            clear hcn
            go_region
            rw [HCN.out]
            refine bodyPost_end (v := .tuple #[]) (by simp [results, Tryz.results97, go_sem]) rfl ⟨rfl, ?_, ?_⟩
            · refine ⟨(r + d) % Two64, 0, true, ?_, ?_⟩
              · rw [← HS.out.1]
                exact (((HB.out.1.set 3 _).set 4 _).set 5 _).same (Same.drewN _ 1)
              · have := HK.out p (by omega)
                rw [← HS.out.2, hcz2] at this; exact this
            · exact (((HB.out.2.set 3 _).set 4 _).set 5 _).drew
      · go_enter Tryz.func97, Tryz.ntmps97
        go_wp2_with fail
        go_quiet ((go_at_call 98; exact Calls.quiet_of_same (HL.out _)))
        have hbx := (HH.out.1.set 2 (.int .i64 ((p : Int) + 1))).same (Same.drewN (w.setCell ⟨g, 2, none⟩ (.int .i64 ((p : Int) + 1))) nq)
        have hbt := ((But.refl g w).set 2 _).trans (But.of_same (Same.drewN (w.setCell ⟨g, 2, none⟩ (.int .i64 ((p : Int) + 1))) nq))
        have hcp := (Box.far hb (q := ⟨g, 2, none⟩) hne (.int .i64 ((p : Int) + 1)))
        have hcb := (hcp).same (Same.drewN (w.setCell ⟨g, 2, none⟩ (.int .i64 ((p : Int) + 1))) nq)
        generalize ((w.setCell ⟨g, 2, none⟩ (.int .i64 ((p : Int) + 1)))).drewN nq = W2 at hbx hbt hcb ⊢
        clear cb c2 c3 c4 c5 f2 f3 f4 f5 hcp hb
        have cb : W2.cell? ⟨b, 0, none⟩ = some (.pointer (some ⟨g, 0, none⟩)) := hcb.cell 0
        have c3 : W2.cell? ⟨g, 3, none⟩ = some (.int .u64 coef) := hbx.cell 3
        have c4 : W2.cell? ⟨g, 4, none⟩ = some (.int .i64 zeros) := hbx.cell 4
        have c5 : W2.cell? ⟨g, 5, none⟩ = some (.bool false) := hbx.cell 5
        have f3 := hbx.frozen 3
        have f4 := hbx.frozen 4
        have f5 := hbx.frozen 5
        rw [← HX.out] at c3
        have HB := Lib.hid (And.intro hbx hbt)
        clear hbx hbt hcb HL
        go_wp2_with fail
        cases f
        · go_region
          refine bodyPost_end (v := .tuple #[]) (by simp [results, Tryz.results97, go_sem]) rfl ⟨rfl, ?_, ?_⟩
          · refine ⟨(r + d) % Two64, 0, true, ?_, ?_⟩
            · rw [← HS.out.1]
              rw [show (((p + 1 : Nat)) : Int) = (p : Int) + 1 by omega]
              exact (((HB.out.1.set 3 _).set 4 _).set 5 _).same (Same.drewN _ 1)
            · have := HK.out (p + 1) (by omega)
              exact this
          · exact (((HB.out.2.set 3 _).set 4 _).set 5 _).drew
        · by_cases hcz : cy = 0
          · subst hcz
            go_region
            refine bodyPost_end (v := .tuple #[]) (by simp [results, Tryz.results97, go_sem]) rfl ⟨rfl, ?_, ?_⟩
            · refine ⟨(r + d) % Two64, 0, false, ?_, ?_⟩
              · rw [← HS.out.1]
                rw [show (((p + 1 : Nat)) : Int) = (p : Int) + 1 by omega]
                exact (((HB.out.1.set 3 _).set 4 _).set 5 _).same (Same.drewN _ 1)
              · have := HK.out (p + 1) (by omega)
                rw [← HS.out.2] at this; exact this
            · exact (((HB.out.2.set 3 _).set 4 _).set 5 _).drew
          · have hcz2 : (cy == 0) = false := by simp [hcz]
            have hcn : (cy != 0) = true := by simp [hcz]
            have HCN := Lib.hid hcn
            clear hcn
            go_region
            rw [HCN.out]
            refine bodyPost_end (v := .tuple #[]) (by simp [results, Tryz.results97, go_sem]) rfl ⟨rfl, ?_, ?_⟩
            · refine ⟨(r + d) % Two64, 0, true, ?_, ?_⟩
              · rw [← HS.out.1]
                rw [show (((p + 1 : Nat)) : Int) = (p : Int) + 1 by omega]
                exact (((HB.out.1.set 3 _).set 4 _).set 5 _).same (Same.drewN _ 1)
              · have := HK.out (p + 1) (by omega)
                rw [← HS.out.2, hcz2] at this; exact this
            · exact (((HB.out.2.set 3 _).set 4 _).set 5 _).drew
    · clear hb
      cases point
      · go_enter Tryz.func97, Tryz.ntmps97
        go_wp2_with fail
        refine bodyPost_ret (v := .tuple #[]) (by simp [results, Tryz.results97, go_sem]) rfl ⟨rfl, ?_, ?_⟩
        · exact ⟨coef, zeros, true, HH.out.1, known_beyond HH.out.2 d (by omega) p (by omega)⟩
        · exact But.refl g w
      · go_enter Tryz.func97, Tryz.ntmps97
        go_wp2_with fail
        refine bodyPost_ret (v := .tuple #[]) (by simp [results, Tryz.results97, go_sem]) rfl ⟨rfl, ?_, ?_⟩
        · refine ⟨coef, zeros, true, ?_, known_beyond HH.out.2 d (by omega) (p + 1) (by omega)⟩
          rw [show (((p + 1 : Nat)) : Int) = (p : Int) + 1 by omega]
          exact HH.out.1.set 2 _
        · exact (But.refl g w).set 2 _
end Go.Proofs.YtdliookdmgilgaaGreatDoor.Dc
