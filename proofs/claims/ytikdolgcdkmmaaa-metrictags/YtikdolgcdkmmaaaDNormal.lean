/-
  Contract of package dec's Normal. No statement of the seat is proved here.
-/
import Derived.Test.YtikdolgcdkmmaaaDLift
namespace Go.Proofs.Ytikdolgcdkmmaaa.Dc
open Go.RowKit

def dV (d : D) : Value := .agg #[.bool d.neg, .int .u64 d.c, .int .i64 d.e]
def nErr (d : D) : Int := if (normal d).isSome then 0 else 10
def nVal (d : D) : D := (normal d).getD D0

theorem load_dec {w : World} {g : Nat} {x y z : Value} (h : Box w g 39 [x, y, z]) : (loadVar 39 ⟨g, 0, none⟩).run Try.prog w = .ok (.agg #[x, y, z]) w := by
  have c0 : w.cell? ⟨g, 0, none⟩ = some x := h.cell 0
  have c1 : w.cell? ⟨g, 1, none⟩ = some y := h.cell 1
  have c2 : w.cell? ⟨g, 2, none⟩ = some z := h.cell 2
  simp [go_sem, c0, c1, c2]
theorem load_fault {w : World} {g : Nat} {x y : Value} (h : Box w g 74 [x, y]) : (loadVar 74 ⟨g, 0, none⟩).run Try.prog w = .ok (.agg #[x, y]) w := by
  have c0 : w.cell? ⟨g, 0, none⟩ = some x := h.cell 0
  have c1 : w.cell? ⟨g, 1, none⟩ = some y := h.cell 1
  simp [go_sem, c0, c1]
theorem addr_is (w : World) (g : Nat) : (asAddr (.pointer (some ⟨g, 0, none⟩))).run Try.prog w = .ok ⟨g, 0, none⟩ w := by simp [asAddr]
theorem results_cells {fn : Func} {p u : Tmp} {ty ty' : TypeId} (h : fn.results = #[.cell p ty, .cell u ty']) (tmps : Array Value) (w : World) :
    (results fn tmps).run Try.prog w = ((asAddr (tmps.getD p undef)).run Try.prog w).andThen fun a w1 => ((loadVar ty a).run Try.prog w1).andThen fun v w2 => ((asAddr (tmps.getD u undef)).run Try.prog w2).andThen fun a' w3 => ((loadVar ty' a').run Try.prog w3).andThen fun v' w4 => .ok (.tuple #[v, v']) w4 := by
  simp only [results, h]
  simp [Sem.run_bind, Result.andThen]
/-- A Dec and a number are returned. -/
theorem ret_dec {fn : Func} {p u : Tmp} (hres : fn.results = #[.cell p 39, .tmp u]) {R : Ending → World → Prop} {a : Act} {w : World} {g : Nat} {x y z v : Value} (hp : a.tmps.getD p undef = .pointer (some ⟨g, 0, none⟩)) (hu : a.tmps.getD u undef = v) (hd : a.defers = [])
    (hb : Box w g 39 [x, y, z]) (hR : R (.returned (.tuple #[.agg #[x, y, z], v])) w) : bodyPost Try.prog fn R .ret a w := by
  refine bodyPost_ret ?_ hd hR
  rw [results_cell_tmp hres, hp, hu, addr_is]
  simp only [Result.andThen]
  rw [load_dec hb]
/-- A Dec and a Fault are returned. -/
theorem ret_decs {fn : Func} {p u : Tmp} (hres : fn.results = #[.cell p 39, .cell u 74]) {R : Ending → World → Prop} {a : Act} {w : World} {g k : Nat} {x y z v v' : Value} (hp : a.tmps.getD p undef = .pointer (some ⟨g, 0, none⟩)) (hu : a.tmps.getD u undef = .pointer (some ⟨k, 0, none⟩)) (hd : a.defers = [])
    (hb : Box w g 39 [x, y, z]) (hk : Box w k 74 [v, v']) (hR : R (.returned (.tuple #[.agg #[x, y, z], .agg #[v, v']])) w) : bodyPost Try.prog fn R .ret a w := by
  refine bodyPost_ret ?_ hd hR
  rw [results_cells hres, hp, hu, addr_is]
  simp only [Result.andThen]
  rw [load_dec hb]
  simp only []
  rw [addr_is]
  simp only []
  rw [load_fault hk]

/-- The coefficient that lies in block g. -/
def coefAt (g : Nat) (w : World) : Nat := ((w.cell? ⟨g, 1, none⟩).map intOf).getD 0 |>.toNat

/-- What holds at each round's head. -/
def NormInv (d : D) (w wr : World) : Prop :=
  ∃ (x y : Int), Box wr w.heap.size 39 [.bool d.neg, .int .u64 x, .int .i64 y] ∧ (∃ z0 z1 z2, Box wr (w.heap.size + 1) 39 [z0, z1, z2]) ∧ Below w.heap.size w wr ∧ (∃ c : Nat, x = c ∧ 0 < c ∧ c ≤ d.c ∧ strip d.c d.e = strip c y) ∧ d.e ≤ y ∧ (y = d.e ∨ y ≤ 18)

set_option maxRecDepth 100000 in
set_option maxHeartbeats 2000000 in
theorem normal_calls (d : D) (hf : d.Fits) (w : World) : Calls Try.prog 47 #[dV d] w fun e w' => e = .returned (.tuple #[dV (nVal d), .int .i64 (nErr d)]) ∧ Below w.heap.size w w' := by
  have HF := Lib.hid hf
  unfold dV
  obtain ⟨x, hx⟩ : ∃ x : Int, x = (d.c : Int) := ⟨_, rfl⟩
  rw [← hx]
  have HX := Lib.hid hx
  obtain ⟨y, hy⟩ : ∃ y : Int, y = d.e := ⟨_, rfl⟩
  rw [← hy]
  have HY := Lib.hid hy
  obtain ⟨n, hn⟩ : ∃ n : Bool, n = d.neg := ⟨_, rfl⟩
  rw [← hn]
  have HN := Lib.hid hn
  clear hf hx hy hn
  go_enter Try.func47, Try.ntmps47
  by_cases h0 : x = 0
  · go_wp2_with fail
    have hn : normal d = some D0 := normal_zero (by have := HX.out; omega)
    have hs := size_alloc w (.cells #[.bool n, .int .u64 0, .int .i64 y] 39)
    refine ret_dec rfl rfl rfl rfl (by rw [← hs]; exact Box.new _ 39 [.bool false, .int .u64 0, .int .i64 0]) ⟨?_, ((Below.refl _ _).alloc (Nat.le_refl _) _).alloc (by simp) _⟩
    unfold nVal nErr
    rw [hn]
    rfl
  · have HI := Lib.hid (show NormInv d w ((w.alloc (.cells #[.bool n, .int .u64 x, .int .i64 y] 39)).alloc (.cells #[.bool false, .int .u64 0, .int .i64 0] 39)) from by
      have hs : (w.alloc (.cells #[.bool n, .int .u64 x, .int .i64 y] 39)).heap.size = w.heap.size + 1 := size_alloc _ _
      refine ⟨x, y, ?_, ⟨.bool false, .int .u64 0, .int .i64 0, ?_⟩, ((Below.refl _ _).alloc (Nat.le_refl _) _).alloc (by simp) _, ⟨d.c, HX.out, by have := HX.out; omega, Nat.le_refl _, by rw [HY.out]⟩, by have := HY.out; omega, Or.inl HY.out⟩
      · rw [← HN.out]; exact (Box.new w 39 [.bool n, .int .u64 x, .int .i64 y]).alloc _
      · rw [← hs]; exact Box.new _ 39 [.bool false, .int .u64 0, .int .i64 0])
    go_wp2_with fail
    go_loopw [] (fun wr => NormInv d w wr) (fun wr => coefAt w.heap.size wr)
    case atStart => exact HI.out
    case round =>
      obtain ⟨x1, y1, b1, ⟨z0, z1, z2, b2⟩, hb, hc, hle, hor⟩ := hrel
      have c0 : wr.cell? ⟨w.heap.size, 0, none⟩ = some (.bool d.neg) := b1.cell 0
      have c1 : wr.cell? ⟨w.heap.size, 1, none⟩ = some (.int .u64 x1) := b1.cell 1
      have c2 : wr.cell? ⟨w.heap.size, 2, none⟩ = some (.int .i64 y1) := b1.cell 2
      have f1 := b1.frozen 1
      have f2 := b1.frozen 2
      have r0 : wr.cell? ⟨w.heap.size + 1, 0, none⟩ = some z0 := b2.cell 0
      have r1 : wr.cell? ⟨w.heap.size + 1, 1, none⟩ = some z1 := b2.cell 1
      have r2 : wr.cell? ⟨w.heap.size + 1, 2, none⟩ = some z2 := b2.cell 2
      have g0 := b2.frozen 0
      have g1 := b2.frozen 1
      have g2 := b2.frozen 2
      have HH := Lib.hid (And.intro b1 (And.intro b2 (And.intro hb hc)))
      clear HI b1 b2 hb hc h0
      have hlo := HF.out.lo
      have hhi := HF.out.hi
      have hx0 : 0 < x1 := by obtain ⟨c, hc, _⟩ := HH.out.2.2.2; omega
      have hwr : ∀ a b c, Below w.heap.size w (((wr.setCell ⟨w.heap.size + 1, 0, none⟩ a).setCell ⟨w.heap.size + 1, 1, none⟩ b).setCell ⟨w.heap.size + 1, 2, none⟩ c) := fun a b c => below_set (below_set (below_set HH.out.2.2.1 (by omega) _ _) (by omega) _ _) (by omega) _ _
      have HW := Lib.hid hwr
      have hbx : ∀ a b c, Box (((wr.setCell ⟨w.heap.size + 1, 0, none⟩ a).setCell ⟨w.heap.size + 1, 1, none⟩ b).setCell ⟨w.heap.size + 1, 2, none⟩ c) (w.heap.size + 1) 39 [a, b, c] := fun a b c => ((HH.out.2.1.set 0 a).set 1 b).set 2 c
      have HBX := Lib.hid hbx
      clear hwr hbx
      have hst : y1 < 18 → ¬ x1 % 10 = 0 → strip d.c d.e = (x1.toNat, y1) := fun _ hm => by
        obtain ⟨c, hc, h0, _, hs⟩ := HH.out.2.2.2
        rw [hs, strip_stay (by omega), hc]; simp
      have hst2 : ¬ y1 < 18 → strip d.c d.e = (x1.toNat, y1) := fun hy => by
        obtain ⟨c, hc, h0, _, hs⟩ := HH.out.2.2.2
        rw [hs, strip_stay (by omega), hc]; simp
      have hdc : d.c ≠ 0 := by obtain ⟨c, hc, h0, h1, hs⟩ := HH.out.2.2.2; omega
      have hx64 : x1.toNat < Two64 := by obtain ⟨c, hc, h0, h1, hs⟩ := HH.out.2.2.2; have := HF.out.c; omega
      have HSX := Lib.hid (And.intro hst (And.intro hst2 (And.intro hdc hx64)))
      clear hst hst2 hdc hx64
      by_cases hy18 : y1 < 18
      · by_cases hm : x1 % 10 = 0
        · clear HSX HW HBX
          have hdiv : IntKind.u64.wrap (x1.tdiv 10) = x1 / 10 := by
            have := HF.out.c
            obtain ⟨c, hc, h0, h1, hs⟩ := HH.out.2.2.2
            unfold Two64 at this
            rw [Int.tdiv_eq_ediv_of_nonneg (by omega), IntKind.wrap_u64]; omega
          go_wp2_with fail
          try rw [hdiv]
          have k1 := (HH.out.1.set 1 (.int .u64 (x1 / 10))).set 2 (.int .i64 (y1 + 1))
          refine ⟨⟨x1 / 10, y1 + 1, k1, ⟨z0, z1, z2, ((HH.out.2.1.far (q := ⟨w.heap.size, 1, none⟩) (by show w.heap.size + 1 ≠ w.heap.size; omega) _).far (q := ⟨w.heap.size, 2, none⟩) (by show w.heap.size + 1 ≠ w.heap.size; omega) _)⟩, below_set (below_set HH.out.2.2.1 (Nat.le_refl _) _ _) (Nat.le_refl _) _ _, ?_, by omega, by omega⟩, ?_⟩
          · obtain ⟨c, hc, h0, h1, hs⟩ := HH.out.2.2.2
            exact ⟨c / 10, by omega, by omega, by omega, by rw [hs, strip_go h0 hy18 (by omega)]⟩
          · unfold coefAt
            rw [k1.cell 1, HH.out.1.cell 1]
            simp [intOf]
            omega
        · go_wp2_with fail
          · refine ret_dec rfl rfl rfl rfl (HBX.out _ _ _) ⟨?_, HW.out _ _ _⟩
            have hs := HSX.out.1 hy18 hm
            have hn : normal d = none := by unfold normal norm; rw [if_neg HSX.out.2.2.1, hs, if_pos (show y1 < -18 by omega)]; rfl
            unfold nVal nErr
            rw [hn]
            rfl
          · refine ret_dec rfl rfl rfl rfl (HBX.out _ _ _) ⟨?_, HW.out _ _ _⟩
            have hs := HSX.out.1 hy18 hm
            have hn : normal d = some ⟨d.neg, x1.toNat, y1⟩ := by
              unfold normal norm
              rw [if_neg HSX.out.2.2.1, hs]
              simp only []
              rw [if_neg (show ¬ y1 < -18 by omega), if_neg (show ¬ (18 : Int) ≤ y1 by omega), if_pos HSX.out.2.2.2]
              simp only [Option.map_some, mkD]
              rw [if_neg (by omega)]
            unfold nVal nErr
            rw [hn]
            simp
            omega
      · by_cases h18 : 18 < y1
        · have HL := Lib.hid (lift_calls x1.toNat (y1 - 18) wr HSX.out.2.2.2 (by omega))
          rw [show ((x1.toNat : Nat) : Int) = x1 by omega] at HL
          obtain ⟨r, b, hr⟩ : ∃ r b, lifted x1.toNat (y1 - 18) = (r, b) := ⟨_, _, rfl⟩
          rw [hr] at HL
          have HR := Lib.hid hr
          obtain ⟨rz, hrz⟩ : ∃ rz : Int, rz = (r : Int) := ⟨_, rfl⟩
          simp only [← hrz] at HL
          have HRZ := Lib.hid hrz
          clear hr hrz
          have hs := HSX.out.2.1 hy18
          have hno : normal d = (if x1.toNat * 10 ^ (y1 - 18).toNat < Two64 then some ⟨d.neg, x1.toNat * 10 ^ (y1 - 18).toNat, 18⟩ else none) := by
            unfold normal norm
            rw [if_neg HSX.out.2.2.1, hs]
            simp only []
            rw [if_neg (show ¬ y1 < -18 by omega), if_pos (show (18 : Int) ≤ y1 by omega)]
            split
            · simp only [Option.map_some, mkD]
              rw [if_neg (Nat.ne_of_gt (Nat.mul_pos (by omega) (Nat.pos_of_ne_zero (by simp))))]
            · rfl
          have HNO := Lib.hid hno
          clear hs hno
          go_wp2_with fail
          refine HL.out.mono ?_
          rintro e w' ⟨rfl, rfl⟩
          cases b
          · go_wp2_with fail
            refine ret_dec rfl rfl rfl rfl (HBX.out _ _ _) ⟨?_, HW.out _ _ _⟩
            have hn : normal d = none := by
              rw [HNO.out, if_neg]
              intro hlt
              have := HR.out
              unfold lifted at this
              rw [if_pos hlt] at this
              cases this
            unfold nVal nErr
            rw [hn]
            rfl
          · go_wp2_with fail
            refine ret_dec rfl rfl rfl rfl ((((HH.out.2.1.far (q := ⟨w.heap.size, 1, none⟩) (by show w.heap.size + 1 ≠ w.heap.size; omega) _).far (q := ⟨w.heap.size, 2, none⟩) (by show w.heap.size + 1 ≠ w.heap.size; omega) _).set 0 _ |>.set 1 _).set 2 _) ⟨?_, below_set (below_set (below_set (below_set (below_set HH.out.2.2.1 (Nat.le_refl _) _ _) (Nat.le_refl _) _ _) (by omega) _ _) (by omega) _ _) (by omega) _ _⟩
            have hlt : x1.toNat * 10 ^ (y1 - 18).toNat < Two64 ∧ x1.toNat * 10 ^ (y1 - 18).toNat = r := by
              have := HR.out
              unfold lifted at this
              split at this
              · rename_i h; exact ⟨h, congrArg Prod.fst this⟩
              · cases this
            have hn := HNO.out
            rw [if_pos hlt.1, hlt.2] at hn
            unfold nVal nErr
            rw [hn, HRZ.out]
            rfl
        · go_wp2_with fail
          refine ret_dec rfl rfl rfl rfl (HBX.out _ _ _) ⟨?_, HW.out _ _ _⟩
          have hs := HSX.out.2.1 hy18
          obtain rfl : y1 = 18 := by omega
          have hn : normal d = some ⟨d.neg, x1.toNat, 18⟩ := by
            unfold normal norm
            rw [if_neg HSX.out.2.2.1, hs]
            simp only []
            rw [if_neg (show ¬ (18 : Int) < -18 by omega), if_pos (show (18 : Int) ≤ 18 by omega)]
            simp only [Int.sub_self, Int.toNat_zero, Nat.pow_zero, Nat.mul_one]
            rw [if_pos HSX.out.2.2.2]
            simp only [Option.map_some, mkD]
            rw [if_neg (by omega)]
          unfold nVal nErr
          rw [hn]
          simp
          omega
end Go.Proofs.Ytikdolgcdkmmaaa.Dc
