/-
  The order of numbers in their one form. Nothing of the program.
-/
import Derived.Test.YtmlandoecgldaaaDoorDOf
namespace Go.Proofs.YtmlandoecgldaaaDoor
open Go.RowKit

theorem cmpI_range (a b : Int) : -1 ≤ cmpI a b ∧ cmpI a b ≤ 1 := by unfold cmpI; split <;> (try split) <;> omega
theorem cmpI_zero {a b : Int} : cmpI a b = 0 ↔ a = b := by unfold cmpI; split <;> (try split) <;> omega
theorem cmpI_neg (a b : Int) : cmpI (-b) (-a) = cmpI a b := by unfold cmpI; simp only [Int.neg_lt_neg_iff]
theorem cmpI_le {a b : Int} : cmpI a b ≤ 0 ↔ a ≤ b := by unfold cmpI; split <;> (try split) <;> omega
theorem cmpI_gt {a b : Int} : 0 < cmpI a b ↔ b < a := by unfold cmpI; split <;> (try split) <;> omega

theorem size_norm {d : D} (h : d.One) : norm (sizeOf18 d) (-18) = some (d.c, d.e) := by
  have hn := h.near
  unfold sizeOf18
  rw [norm_pow, show (-18 : Int) + ((d.e + 18).toNat : Nat) = d.e by have := hn.2; omega]
  exact norm_fix h.1
theorem size_pos {d : D} (h : d.c ≠ 0) : 0 < sizeOf18 d := by
  unfold sizeOf18
  exact Nat.mul_pos (by omega) (Nat.pos_of_ne_zero (by simp))
theorem whole_inj {a b : D} (ha : a.One) (hb : b.One) (h : wholeOf a = wholeOf b) : a = b := by
  have hs : sizeOf18 a = sizeOf18 b := by
    unfold wholeOf at h
    split at h <;> split at h <;> omega
  have e := size_norm ha
  rw [hs, size_norm hb] at e
  injection e with e
  have hc : a.c = b.c := (congrArg Prod.fst e).symm
  have he : a.e = b.e := (congrArg Prod.snd e).symm
  refine D.ext' ?_ hc he
  by_cases h0 : a.c = 0
  · rw [ha.2 h0, hb.2 (by omega)]
  · have p := size_pos h0
    have p' := size_pos (d := b) (by omega)
    unfold wholeOf at h
    cases h1 : a.neg <;> cases h2 : b.neg <;> simp [h1, h2] at h ⊢ <;> omega

/-- A number on the other side of 0. -/
def lessD (d : D) : D := if d.c ≠ 0 then ⟨!d.neg, d.c, d.e⟩ else d
theorem lessD_one {d : D} (h : d.One) : (lessD d).One := by
  unfold lessD
  split
  · rename_i h0
    exact ⟨h.1, fun e => absurd e h0⟩
  · exact h
theorem whole_less {d : D} (h : d.One) : wholeOf (lessD d) = - wholeOf d := by
  unfold lessD
  split
  · unfold wholeOf sizeOf18
    cases d.neg <;> simp
  · rename_i h0
    have h1 : d.c = 0 := by omega
    have : sizeOf18 d = 0 := by unfold sizeOf18; rw [h1]; simp
    unfold wholeOf
    rw [this]
    split <;> rfl
theorem lessD_fits {d : D} (h : d.Fits) : (lessD d).Fits := by
  unfold lessD
  split
  · exact ⟨h.c, h.lo, h.hi⟩
  · exact h
theorem cmpd_ok {a b : D} (ha : a.One) (hb : b.One) : cmpd a b = (cmpI (wholeOf a) (wholeOf b), 0) := by
  unfold cmpd
  rw [check_ok.2 ha, check_ok.2 hb]
  rfl
theorem cmpd_less {a b : D} (ha : a.One) (hb : b.One) : cmpd (lessD b) (lessD a) = (cmpI (wholeOf a) (wholeOf b), 0) := by
  rw [cmpd_ok (lessD_one hb) (lessD_one ha), whole_less ha, whole_less hb, cmpI_neg]
theorem cmp_same {a b : D} (ha : a.One) (hb : b.One) : cmpI (wholeOf a) (wholeOf b) = 0 ↔ a = b :=
  ⟨fun h => whole_inj ha hb (cmpI_zero.1 h), fun h => by rw [h]; exact cmpI_zero.2 rfl⟩

set_option maxRecDepth 100000 in
theorem less_calls (d : D) (hf : d.Fits) (w : World) : Calls Tryd.prog 21 #[dV d] w fun e w' => e = .returned (dV (lessD d)) ∧ Below w.heap.size w w' := by
  have hv : dV (lessD d) = if (d.c : Int) ≠ 0 then .agg #[.bool (!d.neg), .int .u64 d.c, .int .i64 d.e] else .agg #[.bool d.neg, .int .u64 d.c, .int .i64 d.e] := by
    unfold lessD
    by_cases h : d.c = 0
    · rw [if_neg (by omega), if_neg (by omega)]; rfl
    · rw [if_pos h, if_pos (by omega)]; rfl
  rw [hv]
  unfold dV
  obtain ⟨x, hx⟩ : ∃ x : Int, x = (d.c : Int) := ⟨_, rfl⟩
  rw [← hx]
  generalize d.neg = n
  generalize d.e = y
  clear hx hv hf
  have s1 := size_alloc w (.cells #[.bool n, .int .u64 x, .int .i64 y] 24)
  by_cases h0 : x = 0
  · subst h0
    rw [if_neg (by decide)]
    go_enter Tryd.func21, Tryd.ntmps21
    go_wp2_with fail
    have b := Box.new (w.alloc (.cells #[.bool n, .int .u64 0, .int .i64 y] 24)) 24 [.bool n, .int .u64 0, .int .i64 y]
    rw [s1] at b
    exact ret_one rfl rfl rfl b ⟨rfl, ((Below.refl w.heap.size w).alloc (Nat.le_refl _) _).alloc (by rw [s1]; omega) _⟩
  · rw [if_pos h0]
    go_enter Tryd.func21, Tryd.ntmps21
    go_wp2_with fail
    have s2 := size_alloc w (.cells #[.bool (!n), .int .u64 x, .int .i64 y] 24)
    have b := Box.new (w.alloc (.cells #[.bool (!n), .int .u64 x, .int .i64 y] 24)) 24 [.bool (!n), .int .u64 x, .int .i64 y]
    rw [s2] at b
    exact ret_one rfl rfl rfl b ⟨rfl, ((Below.refl w.heap.size w).alloc (Nat.le_refl _) _).alloc (by rw [s2]; omega) _⟩
end Go.Proofs.YtmlandoecgldaaaDoor
