/-
  Contract of what was written of a number, as a number. No statement of the seat is proved here.
-/
import Derived.Test.YtmaiggoinjldpaaDoorGrDLift
import Derived.Test.YtmaiggoinjldpaaDoorGrDigs
import Derived.Deep.RegionHeld3
namespace Go.Proofs.YtmaiggoinjldpaaDoor.Dc
open Go.RowKit

/-- What stands while a number is made. -/
structure NumSo (w : World) (g : Nat) (cs : List Value) (w' : World) : Prop where
  from_ : Box w' g 70 cs
  into : Box w' w.heap.size 42 [.bool false, .int .u64 0, .int .i64 0]
  kept : Below w.heap.size w w'

theorem NumSo.drew {w w' : World} {g : Nat} {cs : List Value} (h : NumSo w g cs w') : NumSo w g cs w'.drew :=
  ⟨h.from_.same (Same.drewN _ 1), h.into.same (Same.drewN _ 1), h.kept.trans (Same.below (Same.drewN _ 1))⟩
theorem NumSo.normal_ {w w' : World} {g : Nat} {cs : List Value} (h : NumSo w g cs w') (d : D) (hf : d.Fits) : Calls Tryd.prog 61 #[dV d] w' fun e w'' => e = .returned (.tuple #[dV (nVal d), .int .i64 (nErr d)]) ∧ NumSo w g cs w'' :=
  (normal_calls d hf w').mono fun _ _ ⟨h1, h2⟩ => ⟨h1, h.from_.keep h2, h.into.keep h2, below_then (w := w) h.kept h2⟩

/-- The number that was written. -/
def numbered (below : Bool) (v p : Nat) : D × Int × Int := told (.ok below v p)

theorem told_ok (below : Bool) (v p : Nat) : told (.ok below v p) = match norm v (-(p : Int)) with | none => (D0, 10, 0) | some q => (mkD below q, 0, 0) := rfl
theorem numbered_norm {below : Bool} {v p m coef zeros : Nat} (h : Known v p m coef zeros false) : normal ⟨below, coef, (zeros : Int) - (p : Int)⟩ = (norm v (-(p : Int))).map (mkD below) := by
  unfold normal
  simp only []
  rw [h.plain rfl, norm_pow]
  congr 2
  omega

set_option maxRecDepth 100000 in
set_option maxHeartbeats 4000000 in
theorem number_calls (w : World) (g : Nat) (below point : Bool) (v p m : Nat) (hm : m ≤ 9000) (h : WAt w g below point v p m) :
    Calls Tryd.prog 33 #[.pointer (some ⟨g, 0, none⟩)] w fun e w' => e = .returned (.tuple #[dV (numbered below v p).1, .int .i64 (numbered below v p).2.1]) ∧ Below w.heap.size w w' := by
  obtain ⟨coef, zeros, beyond, hbox, hk⟩ := h
  have hs := hbox.alloc (.cells #[.bool false, .int .u64 0, .int .i64 0] 42)
  have hk2 := Box.new w 42 [.bool false, .int .u64 0, .int .i64 0]
  have hb2 : Below w.heap.size w (w.alloc (.cells #[.bool false, .int .u64 0, .int .i64 0] 42)) := (Below.refl _ _).alloc (Nat.le_refl _) _
  have hlt := hbox.lt
  obtain ⟨W, hW⟩ : ∃ W, W = w.alloc (.cells #[.bool false, .int .u64 0, .int .i64 0] 42) := ⟨_, rfl⟩
  have HSO := Lib.hid (show NumSo w g (written below point p coef zeros beyond) (w.alloc (.cells #[.bool false, .int .u64 0, .int .i64 0] 42)) from ⟨hs, hk2, hb2⟩)
  have c0 : w.cell? ⟨g, 0, none⟩ = some (.bool below) := hbox.cell 0
  have c2 : w.cell? ⟨g, 2, none⟩ = some (.int .i64 p) := hbox.cell 2
  have c3 : w.cell? ⟨g, 3, none⟩ = some (.int .u64 coef) := hbox.cell 3
  have c4 : w.cell? ⟨g, 4, none⟩ = some (.int .i64 zeros) := hbox.cell 4
  have c5 : w.cell? ⟨g, 5, none⟩ = some (.bool beyond) := hbox.cell 5
  have hne : w.heap.size ≠ g := by omega
  have hz := hk.few
  have hp := hk.places
  have HK := Lib.hid hk
  obtain ⟨x, hx⟩ : ∃ x : Int, x = (coef : Int) := ⟨_, rfl⟩
  rw [← hx] at c3
  clear hs hk2 hb2 hbox hk hW
  cases beyond
  · have hnn := numbered_norm (below := below) HK.out
    have hfit : (⟨below, coef, (zeros : Int) - (p : Int)⟩ : D).Fits := ⟨HK.out.fits, by show -9223372036854775808 ≤ (zeros : Int) - (p : Int); omega, by show (zeros : Int) - (p : Int) ≤ 9223372036854775807; omega⟩
    have hc : ∀ w', NumSo w g (written below point p coef zeros false) w' → _ := fun w' h => h.normal_ ⟨below, coef, (zeros : Int) - (p : Int)⟩ hfit
    obtain ⟨cs, hcs⟩ : ∃ cs, cs = written below point p coef zeros false := ⟨_, rfl⟩
    rw [← hcs] at HSO hc
    have hcl : ∀ w', Box w' g 70 cs → w'.cell? ⟨g, 0, none⟩ = some (.bool below) ∧ w'.cell? ⟨g, 3, none⟩ = some (.int .u64 x) ∧ w'.cell? ⟨g, 4, none⟩ = some (.int .i64 zeros) ∧ w'.cell? ⟨g, 2, none⟩ = some (.int .i64 p) := fun w' hf => by
      rw [hcs] at hf
      exact ⟨hf.cell 0, by rw [hx]; exact hf.cell 3, hf.cell 4, hf.cell 2⟩
    have HCL := Lib.hid hcl
    have hcs2 : ∀ w' a b c, NumSo w g cs w' → Box (((w'.setCell ⟨w.heap.size, 0, none⟩ a).setCell ⟨w.heap.size, 1, none⟩ b).setCell ⟨w.heap.size, 2, none⟩ c) g 70 cs := fun w' a b c h => ((h.from_.far (q := ⟨w.heap.size, 0, none⟩) (by show g ≠ w.heap.size; omega) a).far (q := ⟨w.heap.size, 1, none⟩) (by show g ≠ w.heap.size; omega) b).far (q := ⟨w.heap.size, 2, none⟩) (by show g ≠ w.heap.size; omega) c
    have HCS := Lib.hid hcs2
    clear hcl hcs hcs2
    have hres : dV (nVal ⟨below, coef, (zeros : Int) - (p : Int)⟩) = dV (numbered below v p).1 ∧ nErr ⟨below, coef, (zeros : Int) - (p : Int)⟩ = (numbered below v p).2.1 := by
      unfold nVal nErr numbered
      rw [hnn, told_ok]
      cases norm v (-(p : Int)) <;> exact ⟨rfl, rfl⟩
    rw [hres.1, hres.2] at hc
    obtain ⟨R, hR⟩ : ∃ R, R = (numbered below v p).1 := ⟨_, rfl⟩
    obtain ⟨E, hE⟩ : ∃ E, E = (numbered below v p).2.1 := ⟨_, rfl⟩
    rw [← hR, ← hE] at hc ⊢
    unfold dV at hc ⊢
    simp only [← hx] at hc
    have hwr : IntKind.i64.wrap ((zeros : Int) - (p : Int)) = (zeros : Int) - (p : Int) := by rw [IntKind.wrap_i64]; omega
    rw [← hwr] at hc
    have HC := Lib.hid hc
    clear hwr
    have HXX := Lib.hid hx
    clear hnn hfit hc hres hR hE hx
    go_enter Tryd.func33, Tryd.ntmps33
    go_wp2_with fail
    clear c0 c2 c3 c4 c5
    generalize w.alloc (.cells #[.bool false, .int .u64 0, .int .i64 0] 42) = W1 at HSO ⊢
    have HCD := Lib.hid HSO.out.drew
    clear HSO HXX HK
    go_region_held3 (fun w' => w'.cell? ⟨g, 0, none⟩ = some (.bool below) ∧ w'.cell? ⟨g, 3, none⟩ = some (.int .u64 x) ∧ w'.cell? ⟨g, 4, none⟩ = some (.int .i64 zeros) ∧ w'.cell? ⟨g, 2, none⟩ = some (.int .i64 p))
      (first | exact HCL.out _ HCD.out.from_ | exact HCL.out _ (Hid.out (by assumption : Hid (NumSo w g cs _))).from_ | exact HCL.out _ (HCS.out _ _ _ _ (Hid.out (by assumption : Hid (NumSo w g cs _)))))
      (first | (go_at_call 61; refine (HC.out _ HCD.out).mono ?_; rintro e w' ⟨rfl, hb⟩; have r0 : w'.cell? ⟨w.heap.size, 0, none⟩ = some (.bool false) := hb.into.cell 0; have r1 : w'.cell? ⟨w.heap.size, 1, none⟩ = some (.int .u64 0) := hb.into.cell 1; have r2 : w'.cell? ⟨w.heap.size, 2, none⟩ = some (.int .i64 0) := hb.into.cell 2; have g0 := hb.into.frozen 0; have g1 := hb.into.frozen 1; have g2 := hb.into.frozen 2; have HSO := Lib.hid hb; clear hb HCD))
    go_wp2_with fail
    exact ret_dec rfl rfl rfl rfl (((HSO.out.into.set 0 _).set 1 _).set 2 _) ⟨rfl, below_set (below_set (below_set HSO.out.kept (Nat.le_refl _) _ _) (Nat.le_refl _) _ _) (Nat.le_refl _) _ _⟩
  · have hnn : numbered below v p = (D0, 10, 0) := by
      obtain ⟨c, z, h1, h2, h3⟩ := HK.out.great rfl
      unfold numbered
      rw [told_ok, h1, norm_pow, norm_big h2 h3]
    rw [hnn]
    go_enter Tryd.func33, Tryd.ntmps33
    go_wp2_with fail
    exact ret_dec rfl rfl rfl rfl HSO.out.into ⟨rfl, HSO.out.kept⟩
end Go.Proofs.YtmaiggoinjldpaaDoor.Dc
