/-
  Contracts of package dec's Compare and Of. No statement of the seat is proved here.
-/
import Derived.Test.YtmlandoecgldaaaDoorDCompare
namespace Go.Proofs.YtmlandoecgldaaaDoor
open Go.RowKit

/-- Compare's results. -/
def cmpd (a b : D) : Int × Int := if check a ≠ 0 then (0, check a) else if check b ≠ 0 then (0, check b) else (cmpI (wholeOf a) (wholeOf b), 0)

set_option maxRecDepth 100000 in
set_option maxHeartbeats 2000000 in
theorem compare_calls (a b : D) (ha : a.Fits) (hb : b.Fits) (w : World) : Calls Tryd.prog 18 #[dV a, dV b] w fun e w' => e = .returned (.tuple #[.int .i64 (cmpd a b).1, .int .i64 (cmpd a b).2]) ∧ Below w.heap.size w w' := by
  have hA := fun W => check_calls a ha W
  have hB := fun W => check_calls b hb W
  have hO : check a = 0 → check b = 0 → ∀ W, Calls Tryd.prog 32 #[dV a, dV b] W fun e w' => e = .returned (.int .i64 (cmpI (wholeOf a) (wholeOf b))) ∧ Below W.heap.size W w' := fun h1 h2 W => order_calls a b (check_ok.1 h1) (check_ok.1 h2) W
  obtain ⟨q, hq⟩ : ∃ q : Int, q = check a := ⟨_, rfl⟩
  obtain ⟨q', hq'⟩ : ∃ q : Int, q = check b := ⟨_, rfl⟩
  obtain ⟨c, hc⟩ : ∃ c : Int, c = cmpI (wholeOf a) (wholeOf b) := ⟨_, rfl⟩
  have hcm : cmpd a b = if q ≠ 0 then (0, q) else if q' ≠ 0 then (0, q') else (c, 0) := by unfold cmpd; rw [hq, hq', hc]
  rw [hcm]
  obtain ⟨x, hx⟩ : ∃ x : Int, x = (a.c : Int) := ⟨_, rfl⟩
  obtain ⟨y, hy⟩ : ∃ y : Int, y = a.e := ⟨_, rfl⟩
  obtain ⟨n, hn⟩ : ∃ n : Bool, n = a.neg := ⟨_, rfl⟩
  obtain ⟨x', hx'⟩ : ∃ x : Int, x = (b.c : Int) := ⟨_, rfl⟩
  obtain ⟨y', hy'⟩ : ∃ y : Int, y = b.e := ⟨_, rfl⟩
  obtain ⟨n', hn'⟩ : ∃ n : Bool, n = b.neg := ⟨_, rfl⟩
  unfold dV at hA hB hO ⊢
  rw [← hx, ← hy, ← hn, ← hx', ← hy', ← hn']
  simp only [← hx, ← hy, ← hn, ← hx', ← hy', ← hn', ← hq, ← hq', ← hc] at hA hB hO
  have HA := Lib.hid hA
  have HB := Lib.hid hB
  have HO := Lib.hid hO
  clear hA hB hO hq hq' hc hx hy hn hx' hy' hn' ha hb hcm
  have k0 := (Box.new w 24 [.bool n, .int .u64 x, .int .i64 y]).alloc (.cells #[.bool n', .int .u64 x', .int .i64 y'] 24)
  have k1 := Box.new (w.alloc (.cells #[.bool n, .int .u64 x, .int .i64 y] 24)) 24 [.bool n', .int .u64 x', .int .i64 y']
  rw [size_alloc] at k1
  have kb : Below w.heap.size w ((w.alloc (.cells #[.bool n, .int .u64 x, .int .i64 y] 24)).alloc (.cells #[.bool n', .int .u64 x', .int .i64 y'] 24)) := ((Below.refl _ _).alloc (Nat.le_refl _) _).alloc (by simp) _
  have HK := Lib.hid (And.intro k0 (And.intro k1 kb))
  clear k0 k1 kb
  go_enter Tryd.func18, Tryd.ntmps18
  go_wp2_with fail
  refine (HA.out _).mono ?_
  rintro e w1 ⟨rfl, hb⟩
  have HK1 := Lib.hid (And.intro (HK.out.1.keep hb) (And.intro (HK.out.2.1.keep hb) (below_then HK.out.2.2 hb)))
  clear hb HK HA
  have a0 : w1.cell? ⟨w.heap.size, 0, none⟩ = some (.bool n) := HK1.out.1.cell 0
  have a1 : w1.cell? ⟨w.heap.size, 1, none⟩ = some (.int .u64 x) := HK1.out.1.cell 1
  have a2 : w1.cell? ⟨w.heap.size, 2, none⟩ = some (.int .i64 y) := HK1.out.1.cell 2
  have b0 : w1.cell? ⟨w.heap.size + 1, 0, none⟩ = some (.bool n') := HK1.out.2.1.cell 0
  have b1 : w1.cell? ⟨w.heap.size + 1, 1, none⟩ = some (.int .u64 x') := HK1.out.2.1.cell 1
  have b2 : w1.cell? ⟨w.heap.size + 1, 2, none⟩ = some (.int .i64 y') := HK1.out.2.1.cell 2
  by_cases h0 : q = 0
  · subst h0
    go_wp2_with fail
    refine (HB.out _).mono ?_
    rintro e w2 ⟨rfl, hb⟩
    have HK2 := Lib.hid (And.intro (HK1.out.1.keep hb) (And.intro (HK1.out.2.1.keep hb) (below_then HK1.out.2.2 hb)))
    clear hb HK1 HB a0 a1 a2 b0 b1 b2
    have a0 : w2.cell? ⟨w.heap.size, 0, none⟩ = some (.bool n) := HK2.out.1.cell 0
    have a1 : w2.cell? ⟨w.heap.size, 1, none⟩ = some (.int .u64 x) := HK2.out.1.cell 1
    have a2 : w2.cell? ⟨w.heap.size, 2, none⟩ = some (.int .i64 y) := HK2.out.1.cell 2
    have b0 : w2.cell? ⟨w.heap.size + 1, 0, none⟩ = some (.bool n') := HK2.out.2.1.cell 0
    have b1 : w2.cell? ⟨w.heap.size + 1, 1, none⟩ = some (.int .u64 x') := HK2.out.2.1.cell 1
    have b2 : w2.cell? ⟨w.heap.size + 1, 2, none⟩ = some (.int .i64 y') := HK2.out.2.1.cell 2
    by_cases h1 : q' = 0
    · subst h1
      go_wp2_with fail
      refine (HO.out (by trivial) (by trivial) _).mono ?_
      rintro e w3 ⟨rfl, hb⟩
      have HK3 := Lib.hid (below_then HK2.out.2.2 hb)
      clear hb HK2
      go_wp2_with fail
      go_ret2
      exact ⟨by simp, HK3.out⟩
    · go_wp2_with fail
      go_ret2
      exact ⟨by simp [h1], HK2.out.2.2⟩
  · go_wp2_with fail
    go_ret2
    exact ⟨by simp [h0], HK1.out.2.2⟩

/-- A Dec is returned. -/
theorem ret_one {fn : Func} {p : Tmp} (hres : fn.results = #[.cell p 24]) {R : Ending → World → Prop} {a : Act} {w : World} {g : Nat} {x y z : Value} (hp : a.tmps.getD p undef = .pointer (some ⟨g, 0, none⟩)) (hd : a.defers = [])
    (hb : Box w g 24 [x, y, z]) (hR : R (.returned (.agg #[x, y, z])) w) : bodyPost Tryd.prog fn R .ret a w := by
  refine bodyPost_ret ?_ hd hR
  have : (results fn a.tmps).run Tryd.prog w = ((asAddr (a.tmps.getD p undef)).run Tryd.prog w).andThen fun a w1 => (loadVar 24 a).run Tryd.prog w1 := by
    simp only [results, hres]
    simp [Sem.run_bind, Result.andThen]
  rw [this, hp, addr_is]
  simp only [Result.andThen]
  rw [load_dec hb]

/-- A whole number in its one form. -/
def ofD (n : Int) : D := nVal ⟨decide (n < 0), n.natAbs, 0⟩

set_option maxRecDepth 100000 in
set_option maxHeartbeats 2000000 in
theorem of_calls (n : Int) (hl : -9223372036854775808 ≤ n) (hh : n ≤ 9223372036854775807) (w : World) : Calls Tryd.prog 22 #[.int .i64 n] w fun e w' => e = .returned (dV (ofD n)) ∧ Below w.heap.size w w' := by
  have hN := fun W => normal_calls ⟨decide (n < 0), n.natAbs, 0⟩ ⟨by show n.natAbs < 18446744073709551616; omega, by show (-9223372036854775808 : Int) ≤ 0; omega, by show (0 : Int) ≤ 9223372036854775807; omega⟩ W
  obtain ⟨R, hR⟩ : ∃ R, R = nVal ⟨decide (n < 0), n.natAbs, 0⟩ := ⟨_, rfl⟩
  obtain ⟨E, hE⟩ : ∃ E, E = nErr ⟨decide (n < 0), n.natAbs, 0⟩ := ⟨_, rfl⟩
  rw [← hR, ← hE] at hN
  have hof : ofD n = R := hR.symm
  rw [hof]
  unfold dV at hN ⊢
  obtain ⟨x, hx⟩ : ∃ x : Int, x = (R.c : Int) := ⟨_, rfl⟩
  simp only [← hx] at hN ⊢
  have HN := Lib.hid hN
  have k0 := Box.new w 24 [.bool false, .int .u64 0, .int .i64 0]
  have kb : Below w.heap.size w (w.alloc (.cells #[.bool false, .int .u64 0, .int .i64 0] 24)) := (Below.refl _ _).alloc (Nat.le_refl _) _
  have HK := Lib.hid (And.intro k0 kb)
  clear hN hR hE hof k0 kb hx
  by_cases hneg : n < 0
  · have hu : IntKind.u64.wrap (-IntKind.u64.wrap n) = ((n.natAbs : Nat) : Int) := by rw [IntKind.wrap_u64, IntKind.wrap_u64]; omega
    have hd : decide (n < 0) = true := by simp [hneg]
    rw [hd] at HN
    go_enter Tryd.func22, Tryd.ntmps22
    go_wp2_with fail
    refine (HN.out _).mono ?_
    rintro e w1 ⟨rfl, hb⟩
    have k1 := (HK.out.1.keep hb).alloc (.cells #[.bool R.neg, .int .u64 x, .int .i64 R.e] 24)
    have kb := (below_then HK.out.2 hb)
    have kb2 := kb.alloc kb.size (.cells #[.bool R.neg, .int .u64 x, .int .i64 R.e] 24)
    have d0 : (w1.alloc (.cells #[.bool R.neg, .int .u64 x, .int .i64 R.e] 24)).cell? ⟨w.heap.size, 0, none⟩ = some (.bool false) := k1.cell 0
    have d1 : (w1.alloc (.cells #[.bool R.neg, .int .u64 x, .int .i64 R.e] 24)).cell? ⟨w.heap.size, 1, none⟩ = some (.int .u64 0) := k1.cell 1
    have d2 : (w1.alloc (.cells #[.bool R.neg, .int .u64 x, .int .i64 R.e] 24)).cell? ⟨w.heap.size, 2, none⟩ = some (.int .i64 0) := k1.cell 2
    have e0 := k1.frozen 0
    have e1 := k1.frozen 1
    have e2 := k1.frozen 2
    have HK1 := Lib.hid (And.intro k1 kb2)
    clear k1 kb kb2 hb HK HN
    go_wp2_with fail
    exact ret_one rfl rfl rfl (((HK1.out.1.set 0 _).set 1 _).set 2 _) ⟨rfl, below_set (below_set (below_set HK1.out.2 (Nat.le_refl _) _ _) (Nat.le_refl _) _ _) (Nat.le_refl _) _ _⟩
  · have hu : IntKind.u64.wrap n = ((n.natAbs : Nat) : Int) := by rw [IntKind.wrap_u64]; omega
    have hd : decide (n < 0) = false := by simp; omega
    rw [hd] at HN
    go_enter Tryd.func22, Tryd.ntmps22
    go_wp2_with fail
    refine (HN.out _).mono ?_
    rintro e w1 ⟨rfl, hb⟩
    have k1 := (HK.out.1.keep hb).alloc (.cells #[.bool R.neg, .int .u64 x, .int .i64 R.e] 24)
    have kb := (below_then HK.out.2 hb)
    have kb2 := kb.alloc kb.size (.cells #[.bool R.neg, .int .u64 x, .int .i64 R.e] 24)
    have d0 : (w1.alloc (.cells #[.bool R.neg, .int .u64 x, .int .i64 R.e] 24)).cell? ⟨w.heap.size, 0, none⟩ = some (.bool false) := k1.cell 0
    have d1 : (w1.alloc (.cells #[.bool R.neg, .int .u64 x, .int .i64 R.e] 24)).cell? ⟨w.heap.size, 1, none⟩ = some (.int .u64 0) := k1.cell 1
    have d2 : (w1.alloc (.cells #[.bool R.neg, .int .u64 x, .int .i64 R.e] 24)).cell? ⟨w.heap.size, 2, none⟩ = some (.int .i64 0) := k1.cell 2
    have e0 := k1.frozen 0
    have e1 := k1.frozen 1
    have e2 := k1.frozen 2
    have HK1 := Lib.hid (And.intro k1 kb2)
    clear k1 kb kb2 hb HK HN
    go_wp2_with fail
    exact ret_one rfl rfl rfl (((HK1.out.1.set 0 _).set 1 _).set 2 _) ⟨rfl, below_set (below_set (below_set HK1.out.2 (Nat.le_refl _) _ _) (Nat.le_refl _) _ _) (Nat.le_refl _) _ _⟩
end Go.Proofs.YtmlandoecgldaaaDoor
