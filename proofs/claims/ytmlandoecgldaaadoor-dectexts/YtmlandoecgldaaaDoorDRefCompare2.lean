/-
  Contract of the document's Compare. No statement of the seat is proved here.
-/
import Derived.Test.YtmlandoecgldaaaDoorDRefCompare
namespace Go.Proofs.YtmlandoecgldaaaDoor
open Go.RowKit

/-- How two wide texts stand to each other. -/
structure Stands (s t : ByteArray) (lt gt eq : Bool) : Prop where
  lt_ : Op.bytesLess s.toList t.toList = lt
  gt_ : Op.bytesLess t.toList s.toList = gt
  eq_ : (s.toList == t.toList) = eq
  qe_ : (t.toList == s.toList) = eq

theorem stands {a b : D} (ha : Near a) (hb : Near b) {s t : ByteArray} (hs : Str s (wideL a.c a.e)) (ht : Str t (wideL b.c b.e)) :
    (cmpI (sizeOf18 a) (sizeOf18 b) = -1 ∧ cmpI (sizeOf18 b) (sizeOf18 a) = 1 ∧ Stands s t true false false) ∨ (cmpI (sizeOf18 a) (sizeOf18 b) = 1 ∧ cmpI (sizeOf18 b) (sizeOf18 a) = -1 ∧ Stands s t false true false) ∨ (cmpI (sizeOf18 a) (sizeOf18 b) = 0 ∧ cmpI (sizeOf18 b) (sizeOf18 a) = 0 ∧ Stands s t false false true) := by
  obtain ⟨d1, l1, v1⟩ := wideL_is ha
  obtain ⟨d2, l2, v2⟩ := wideL_is hb
  have e1 := less_val d1 d2 (by omega)
  have e2 := less_val d2 d1 (by omega)
  rw [v1, v2] at e1 e2
  have p : 0 < 10 ^ 42 := Nat.pow_pos (by decide)
  have m : ∀ x y : Nat, x * 10 ^ 42 < y * 10 ^ 42 ↔ x < y := fun x y => Nat.mul_lt_mul_right p
  simp only [m] at e1 e2
  have h1 := hs.toList
  have h2 := ht.toList
  rcases Nat.lt_trichotomy (sizeOf18 a) (sizeOf18 b) with h | h | h
  · refine .inl ⟨by unfold cmpI; rw [if_pos (by omega)], by unfold cmpI; rw [if_neg (by omega), if_pos (by omega)], ?_, ?_, ?_, ?_⟩
    · rw [h1, h2, e1]; simp [h]
    · rw [h1, h2, e2]; simp; omega
    · rw [h1, h2, beq_eq_false_iff_ne]; intro e; rw [e] at v1; have := v1.symm.trans v2; have := Nat.eq_of_mul_eq_mul_right p this; omega
    · rw [h1, h2, beq_eq_false_iff_ne]; intro e; rw [e] at v2; have := v1.symm.trans v2; have := Nat.eq_of_mul_eq_mul_right p this; omega
  · have e : wideL a.c a.e = wideL b.c b.e := val_inj d1 d2 (by omega) (by rw [v1, v2, h])
    refine .inr (.inr ⟨by unfold cmpI; rw [if_neg (by omega), if_neg (by omega)], by unfold cmpI; rw [if_neg (by omega), if_neg (by omega)], ?_, ?_, ?_, ?_⟩)
    · rw [h1, h2, e1]; simp [h]
    · rw [h1, h2, e2]; simp [h]
    · rw [h1, h2, e]; simp
    · rw [h1, h2, e]; simp
  · refine .inr (.inl ⟨by unfold cmpI; rw [if_neg (by omega), if_pos (by omega)], by unfold cmpI; rw [if_pos (by omega)], ?_, ?_, ?_, ?_⟩)
    · rw [h1, h2, e1]; simp; omega
    · rw [h1, h2, e2]; simp [h]
    · rw [h1, h2, beq_eq_false_iff_ne]; intro e; rw [e] at v1; have := v1.symm.trans v2; have := Nat.eq_of_mul_eq_mul_right p this; omega
    · rw [h1, h2, beq_eq_false_iff_ne]; intro e; rw [e] at v2; have := v1.symm.trans v2; have := Nat.eq_of_mul_eq_mul_right p this; omega

set_option maxRecDepth 100000 in
set_option maxHeartbeats 2000000 in
theorem rcompare_calls (a b : D) (ha : a.One) (hb : b.One) (w : World) : Calls Tryd.prog 20 #[dV a, dV b] w fun e w' => e = .returned (.int .i64 (cmpI (wholeOf a) (wholeOf b))) ∧ Below w.heap.size w w' := by
  have hA := fun W => wide_calls a ha.near W
  have hB := fun W => wide_calls b hb.near W
  have hS := fun s t => stands (a := a) (b := b) ha.near hb.near (s := s) (t := t)
  have hW := whole_cmp a b ha hb
  obtain ⟨c, hc⟩ : ∃ c : Int, c = cmpI (wholeOf a) (wholeOf b) := ⟨_, rfl⟩
  obtain ⟨q, hq⟩ : ∃ q : Int, q = cmpI (sizeOf18 b) (sizeOf18 a) := ⟨_, rfl⟩
  obtain ⟨q', hq'⟩ : ∃ q : Int, q = cmpI (sizeOf18 a) (sizeOf18 b) := ⟨_, rfl⟩
  obtain ⟨x, hx⟩ : ∃ x : Int, x = (a.c : Int) := ⟨_, rfl⟩
  obtain ⟨y, hy⟩ : ∃ y : Int, y = a.e := ⟨_, rfl⟩
  obtain ⟨n, hn⟩ : ∃ n : Bool, n = a.neg := ⟨_, rfl⟩
  obtain ⟨x', hx'⟩ : ∃ x : Int, x = (b.c : Int) := ⟨_, rfl⟩
  obtain ⟨y', hy'⟩ : ∃ y : Int, y = b.e := ⟨_, rfl⟩
  obtain ⟨n', hn'⟩ : ∃ n : Bool, n = b.neg := ⟨_, rfl⟩
  rw [← hc, ← hq, ← hq', ← hn, ← hn'] at hW
  simp only [← hq, ← hq'] at hS
  rw [← hc]
  obtain ⟨A, hAA⟩ : ∃ A, A = wideL a.c a.e := ⟨_, rfl⟩
  obtain ⟨B, hBB⟩ : ∃ B, B = wideL b.c b.e := ⟨_, rfl⟩
  simp only [← hAA, ← hBB] at hA hB hS
  unfold dV at hA hB ⊢
  rw [← hx, ← hy, ← hn, ← hx', ← hy', ← hn']
  simp only [← hx, ← hy, ← hn, ← hx', ← hy', ← hn'] at hA hB
  have HA := Lib.hid hA
  have HB := Lib.hid hB
  have HS := Lib.hid hS
  have HW := Lib.hid hW
  clear hA hB hS hW hq hq' hc hx hy hn hx' hy' hn' ha hb hAA hBB
  have k0 := (Box.new w 24 [.bool n, .int .u64 x, .int .i64 y]).alloc (.cells #[.bool n', .int .u64 x', .int .i64 y'] 24)
  have k1 := Box.new (w.alloc (.cells #[.bool n, .int .u64 x, .int .i64 y] 24)) 24 [.bool n', .int .u64 x', .int .i64 y']
  rw [size_alloc] at k1
  have kb : Below w.heap.size w ((w.alloc (.cells #[.bool n, .int .u64 x, .int .i64 y] 24)).alloc (.cells #[.bool n', .int .u64 x', .int .i64 y'] 24)) := ((Below.refl _ _).alloc (Nat.le_refl _) _).alloc (by simp) _
  have HK := Lib.hid (And.intro k0 (And.intro k1 kb))
  clear k0 k1 kb
  go_enter Tryd.func20, Tryd.ntmps20
  by_cases hnn : n = n'
  · subst hnn
    go_wp2_with fail
    refine (HA.out _).mono ?_
    rintro e w1 ⟨s, rfl, hs, hb⟩
    have HK1 := Lib.hid (And.intro (HK.out.1.keep hb) (And.intro (HK.out.2.1.keep hb) (below_then HK.out.2.2 hb)))
    have HSS := Lib.hid hs
    clear hb HK HA hs
    have a0 : w1.cell? ⟨w.heap.size, 0, none⟩ = some (.bool n) := HK1.out.1.cell 0
    have b0 : w1.cell? ⟨w.heap.size + 1, 0, none⟩ = some (.bool n) := HK1.out.2.1.cell 0
    have b1 : w1.cell? ⟨w.heap.size + 1, 1, none⟩ = some (.int .u64 x') := HK1.out.2.1.cell 1
    have b2 : w1.cell? ⟨w.heap.size + 1, 2, none⟩ = some (.int .i64 y') := HK1.out.2.1.cell 2
    go_wp2_with fail
    refine (HB.out _).mono ?_
    rintro e w2 ⟨t, rfl, ht, hb⟩
    have HK2 := Lib.hid (And.intro (HK1.out.1.keep hb) (And.intro (HK1.out.2.1.keep hb) (below_then HK1.out.2.2 hb)))
    have hst := HS.out s t HSS.out ht
    clear hb HK1 HB ht HSS HS a0 b0 b1 b2
    have a0 : w2.cell? ⟨w.heap.size, 0, none⟩ = some (.bool n) := HK2.out.1.cell 0
    cases n
    all_goals
      rcases hst with ⟨rfl, rfl, hh⟩ | ⟨rfl, rfl, hh⟩ | ⟨rfl, rfl, hh⟩
      all_goals
        have e1 := hh.lt_
        have e2 := hh.gt_
        have e3 := hh.eq_
        have e4 := hh.qe_
        have hW := HW.out
        simp only [Bool.and_self, Bool.false_eq_true, if_false, if_true] at hW
        have HWW := Lib.hid hW
        clear hh hW
        go_wp2_with fail
        go_ret
        exact ⟨by rw [HWW.out]; first | done | rfl, HK2.out.2.2⟩
  · cases n <;> cases n'
    · exact absurd rfl hnn
    · have HWW := Lib.hid (show c = 1 from HW.out)
      go_wp2_with fail
      go_ret
      exact ⟨by rw [HWW.out]; first | done | rfl, HK.out.2.2⟩
    · have HWW := Lib.hid (show c = -1 from HW.out)
      go_wp2_with fail
      go_ret
      exact ⟨by rw [HWW.out]; first | done | rfl, HK.out.2.2⟩
    · exact absurd rfl hnn
end Go.Proofs.YtmlandoecgldaaaDoor
