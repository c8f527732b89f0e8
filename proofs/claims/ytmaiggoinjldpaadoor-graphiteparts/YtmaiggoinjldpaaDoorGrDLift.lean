/-
  DLift, DNormal, DCheck, DTake. No statement of the seat is proved here.
-/
import Derived.Test.YtmaiggoinjldpaaDoorShelf
import Derived.Test.YtmaiggoinjldpaaDoorGrDigs
import Derived.Laws.Externs
/-
  Contract of package dec's lift. No statement of the seat is proved here.
-/
namespace Go.Proofs.YtmaiggoinjldpaaDoor.Dc
open Go.RowKit

/-- A number times ten to the power, if there is room for it. -/
def lifted (c : Nat) (p : Int) : Nat × Bool := if c * 10 ^ p.toNat < Two64 then (c * 10 ^ p.toNat, true) else (0, false)

theorem mul10_calls (x : Nat) (hx : x < Two64) (w : World) :
    Calls Tryd.prog 82 #[.int .u64 x, .int .u64 10] w fun e w' => ∃ h l : Int, e = .returned (.tuple #[.int .u64 h, .int .u64 l]) ∧ w = w' ∧ Hid ((x * 10 < Two64 ∧ h = 0 ∧ l = ((x * 10 : Nat) : Int)) ∨ (Two64 ≤ x * 10 ∧ h ≠ 0)) := by
  refine (Tryd.bits_Mul64 x 10 hx (by decide) w).mono ?_
  rintro e w' ⟨rfl, rfl⟩
  refine ⟨_, _, rfl, rfl, ?_⟩
  unfold Hid
  unfold Two64
  rcases Nat.lt_or_ge (x * 10) 18446744073709551616 with h | h
  · exact Or.inl ⟨h, by rw [Nat.div_eq_of_lt h]; rfl, by rw [Nat.mod_eq_of_lt h]⟩
  · refine Or.inr ⟨h, ?_⟩
    have := Nat.div_pos h (by decide)
    omega

theorem pow_step (c : Nat) {i : Int} (h : 0 ≤ i) : c * 10 ^ (i + 1).toNat = c * 10 ^ i.toNat * 10 := by
  rw [show (i + 1).toNat = i.toNat + 1 by omega, Nat.pow_succ, Nat.mul_assoc]
theorem pow_mono {c : Nat} {i p : Int} (h : i ≤ p) : c * 10 ^ i.toNat ≤ c * 10 ^ p.toNat := Nat.mul_le_mul_left _ (Nat.pow_le_pow_right (by decide) (by omega))

set_option maxRecDepth 100000 in
theorem lift_calls (c : Nat) (p : Int) (w : World) (hc : c < Two64) (hp : p ≤ 9223372036854775807) :
    Calls Tryd.prog 59 #[.int .u64 c, .int .i64 p] w fun e w' => e = .returned (.tuple #[.int .u64 ((lifted c p).1 : Nat), .bool (lifted c p).2]) ∧ w = w' := by
  have HC := Lib.hid hc
  obtain ⟨z, hz⟩ : ∃ z : Int, z = (c : Int) := ⟨_, rfl⟩
  rw [← hz]
  have HZ := Lib.hid hz
  clear hc hz
  go_enter Tryd.func59, Tryd.ntmps59
  go_wp2_with fail
  go_loopw [0, 9] (fun v0 v9 wr => ∃ a i : Int, v0 = .int .u64 a ∧ v9 = .int .i64 i ∧ 0 ≤ i ∧ (i ≤ p ∨ i = 0) ∧ w = wr ∧ Hid (a = ((c * 10 ^ i.toNat : Nat) : Int) ∧ c * 10 ^ i.toNat < Two64)) (fun _ v9 _ => (p - intOf v9).toNat)
  case atStart => exact ⟨z, 0, rfl, rfl, by omega, by omega, rfl, ⟨by rw [HZ.out]; simp, by simpa using HC.out⟩⟩
  case round =>
    obtain ⟨a, i, rfl, rfl, hi0, hip, rfl, hsc⟩ := hrel
    by_cases hlt : i < p
    · obtain ⟨x, hx⟩ : ∃ x : Nat, c * 10 ^ i.toNat = x := ⟨_, rfl⟩
      rw [hx] at hsc
      have HX := Lib.hid hx
      have HS := hsc.out
      obtain ⟨rfl, hx64⟩ := HS
      have HX6 := Lib.hid hx64
      clear hx hsc hx64
      have HM := Lib.hid (mul10_calls x HX6.out w)
      obtain ⟨y, hy⟩ : ∃ y : Int, y = (x : Int) := ⟨_, rfl⟩
      rw [← hy] at HM ⊢
      have HY := Lib.hid hy
      clear hy
      go_wp2_with fail
      refine HM.out.mono ?_
      rintro e w' ⟨h, l, rfl, rfl, hh⟩
      rcases hh.out with ⟨h1, rfl, h2⟩ | ⟨h1, h2⟩
      · have H1 := Lib.hid (And.intro h1 h2)
        clear hh h1 h2
        go_wp2_with fail
        refine ⟨⟨l, i + 1, rfl, by go_num, by omega, by omega, by trivial, ⟨?_, ?_⟩⟩, by simp [intOf]; omega⟩
        · rw [pow_step c hi0, HX.out]; exact H1.out.2
        · rw [pow_step c hi0, HX.out]; exact H1.out.1
      · have H1 := Lib.hid h1
        clear hh h1
        go_wp2_with fail
        go_ret2
        have hn : lifted c p = (0, false) := by
          unfold lifted
          rw [if_neg]
          have := pow_mono (c := c) (show i + 1 ≤ p by omega)
          rw [pow_step c hi0, HX.out] at this
          have := H1.out
          omega
        rw [hn]
        exact ⟨rfl, rfl⟩
    · have hsc2 := hsc
      clear hsc
      go_wp2_with fail
      go_ret2
      have hp2 : i.toNat = p.toNat := by omega
      have hn : lifted c p = (c * 10 ^ p.toNat, true) := by
        unfold lifted
        rw [if_pos]
        rw [← hp2]; exact hsc2.out.2
      rw [hn, ← hp2, hsc2.out.1]
      exact ⟨rfl, rfl⟩
end Go.Proofs.YtmaiggoinjldpaaDoor.Dc

/-
  Contract of package dec's Normal. No statement of the seat is proved here.
-/
namespace Go.Proofs.YtmaiggoinjldpaaDoor.Dc
open Go.RowKit

def dV (d : D) : Value := .agg #[.bool d.neg, .int .u64 d.c, .int .i64 d.e]
def nErr (d : D) : Int := if (normal d).isSome then 0 else 10
def nVal (d : D) : D := (normal d).getD D0

theorem load_dec {w : World} {g : Nat} {x y z : Value} (h : Box w g 42 [x, y, z]) : (loadVar 42 ⟨g, 0, none⟩).run Tryd.prog w = .ok (.agg #[x, y, z]) w := by
  have c0 : w.cell? ⟨g, 0, none⟩ = some x := h.cell 0
  have c1 : w.cell? ⟨g, 1, none⟩ = some y := h.cell 1
  have c2 : w.cell? ⟨g, 2, none⟩ = some z := h.cell 2
  simp [go_sem, c0, c1, c2]
theorem load_fault {w : World} {g : Nat} {x y : Value} (h : Box w g 29 [x, y]) : (loadVar 29 ⟨g, 0, none⟩).run Tryd.prog w = .ok (.agg #[x, y]) w := by
  have c0 : w.cell? ⟨g, 0, none⟩ = some x := h.cell 0
  have c1 : w.cell? ⟨g, 1, none⟩ = some y := h.cell 1
  simp [go_sem, c0, c1]
theorem addr_is (w : World) (g : Nat) : (asAddr (.pointer (some ⟨g, 0, none⟩))).run Tryd.prog w = .ok ⟨g, 0, none⟩ w := by simp [asAddr]
theorem results_cells {fn : Func} {p u : Tmp} {ty ty' : TypeId} (h : fn.results = #[.cell p ty, .cell u ty']) (tmps : Array Value) (w : World) :
    (results fn tmps).run Tryd.prog w = ((asAddr (tmps.getD p undef)).run Tryd.prog w).andThen fun a w1 => ((loadVar ty a).run Tryd.prog w1).andThen fun v w2 => ((asAddr (tmps.getD u undef)).run Tryd.prog w2).andThen fun a' w3 => ((loadVar ty' a').run Tryd.prog w3).andThen fun v' w4 => .ok (.tuple #[v, v']) w4 := by
  simp only [results, h]
  simp [Sem.run_bind, Result.andThen]
/-- A Dec and a number are returned. -/
theorem ret_dec {fn : Func} {p u : Tmp} (hres : fn.results = #[.cell p 42, .tmp u]) {R : Ending → World → Prop} {a : Act} {w : World} {g : Nat} {x y z v : Value} (hp : a.tmps.getD p undef = .pointer (some ⟨g, 0, none⟩)) (hu : a.tmps.getD u undef = v) (hd : a.defers = [])
    (hb : Box w g 42 [x, y, z]) (hR : R (.returned (.tuple #[.agg #[x, y, z], v])) w) : bodyPost Tryd.prog fn R .ret a w := by
  refine bodyPost_ret ?_ hd hR
  rw [results_cell_tmp hres, hp, hu, addr_is]
  simp only [Result.andThen]
  rw [load_dec hb]
/-- A Dec and a Fault are returned. -/
theorem ret_decs {fn : Func} {p u : Tmp} (hres : fn.results = #[.cell p 42, .cell u 29]) {R : Ending → World → Prop} {a : Act} {w : World} {g k : Nat} {x y z v v' : Value} (hp : a.tmps.getD p undef = .pointer (some ⟨g, 0, none⟩)) (hu : a.tmps.getD u undef = .pointer (some ⟨k, 0, none⟩)) (hd : a.defers = [])
    (hb : Box w g 42 [x, y, z]) (hk : Box w k 29 [v, v']) (hR : R (.returned (.tuple #[.agg #[x, y, z], .agg #[v, v']])) w) : bodyPost Tryd.prog fn R .ret a w := by
  refine bodyPost_ret ?_ hd hR
  rw [results_cells hres, hp, hu, addr_is]
  simp only [Result.andThen]
  rw [load_dec hb]
  simp only []
  rw [addr_is]
  simp only []
  rw [load_fault hk]

/-- The coefficient that lies in block g. -/
def coefAt (g : Nat) (w : World) : Nat := ((w.cell? ⟨g, 1, none⟩).map intOf).getD 0 |>.toNat

/-- What holds at each round's head. -/
def NormInv (d : D) (w wr : World) : Prop :=
  ∃ (x y : Int), Box wr w.heap.size 42 [.bool d.neg, .int .u64 x, .int .i64 y] ∧ (∃ z0 z1 z2, Box wr (w.heap.size + 1) 42 [z0, z1, z2]) ∧ Below w.heap.size w wr ∧ (∃ c : Nat, x = c ∧ 0 < c ∧ c ≤ d.c ∧ strip d.c d.e = strip c y) ∧ d.e ≤ y ∧ (y = d.e ∨ y ≤ 18)

set_option maxRecDepth 100000 in
set_option maxHeartbeats 2000000 in
theorem normal_calls (d : D) (hf : d.Fits) (w : World) : Calls Tryd.prog 61 #[dV d] w fun e w' => e = .returned (.tuple #[dV (nVal d), .int .i64 (nErr d)]) ∧ Below w.heap.size w w' := by
  have HF := Lib.hid hf
  unfold dV
  obtain ⟨x, hx⟩ : ∃ x : Int, x = (d.c : Int) := ⟨_, rfl⟩
  rw [← hx]
  have HX := Lib.hid hx
  obtain ⟨y, hy⟩ : ∃ y : Int, y = d.e := ⟨_, rfl⟩
  rw [← hy]
  have HY := Lib.hid hy
  obtain ⟨n, hn⟩ : ∃ n : Bool, n = d.neg := ⟨_, rfl⟩
  rw [← hn]
  have HN := Lib.hid hn
  clear hf hx hy hn
  go_enter Tryd.func61, Tryd.ntmps61
  by_cases h0 : x = 0
  · go_wp2_with fail
    have hn : normal d = some D0 := normal_zero (by have := HX.out; omega)
    have hs := size_alloc w (.cells #[.bool n, .int .u64 0, .int .i64 y] 42)
    refine ret_dec rfl rfl rfl rfl (by rw [← hs]; exact Box.new _ 42 [.bool false, .int .u64 0, .int .i64 0]) ⟨?_, ((Below.refl _ _).alloc (Nat.le_refl _) _).alloc (by simp) _⟩
    unfold nVal nErr
    rw [hn]
    rfl
  · have HI := Lib.hid (show NormInv d w ((w.alloc (.cells #[.bool n, .int .u64 x, .int .i64 y] 42)).alloc (.cells #[.bool false, .int .u64 0, .int .i64 0] 42)) from by
      have hs : (w.alloc (.cells #[.bool n, .int .u64 x, .int .i64 y] 42)).heap.size = w.heap.size + 1 := size_alloc _ _
      refine ⟨x, y, ?_, ⟨.bool false, .int .u64 0, .int .i64 0, ?_⟩, ((Below.refl _ _).alloc (Nat.le_refl _) _).alloc (by simp) _, ⟨d.c, HX.out, by have := HX.out; omega, Nat.le_refl _, by rw [HY.out]⟩, by have := HY.out; omega, Or.inl HY.out⟩
      · rw [← HN.out]; exact (Box.new w 42 [.bool n, .int .u64 x, .int .i64 y]).alloc _
      · rw [← hs]; exact Box.new _ 42 [.bool false, .int .u64 0, .int .i64 0])
    go_wp2_with fail
    go_loopw [] (fun wr => NormInv d w wr) (fun wr => coefAt w.heap.size wr)
    case atStart => exact HI.out
    case round =>
      obtain ⟨x1, y1, b1, ⟨z0, z1, z2, b2⟩, hb, hc, hle, hor⟩ := hrel
      have c0 : wr.cell? ⟨w.heap.size, 0, none⟩ = some (.bool d.neg) := b1.cell 0
      have c1 : wr.cell? ⟨w.heap.size, 1, none⟩ = some (.int .u64 x1) := b1.cell 1
      have c2 : wr.cell? ⟨w.heap.size, 2, none⟩ = some (.int .i64 y1) := b1.cell 2
      have f1 := b1.frozen 1
      have f2 := b1.frozen 2
      have r0 : wr.cell? ⟨w.heap.size + 1, 0, none⟩ = some z0 := b2.cell 0
      have r1 : wr.cell? ⟨w.heap.size + 1, 1, none⟩ = some z1 := b2.cell 1
      have r2 : wr.cell? ⟨w.heap.size + 1, 2, none⟩ = some z2 := b2.cell 2
      have g0 := b2.frozen 0
      have g1 := b2.frozen 1
      have g2 := b2.frozen 2
      have HH := Lib.hid (And.intro b1 (And.intro b2 (And.intro hb hc)))
      clear HI b1 b2 hb hc h0
      have hlo := HF.out.lo
      have hhi := HF.out.hi
      have hx0 : 0 < x1 := by obtain ⟨c, hc, _⟩ := HH.out.2.2.2; omega
      have hwr : ∀ a b c, Below w.heap.size w (((wr.setCell ⟨w.heap.size + 1, 0, none⟩ a).setCell ⟨w.heap.size + 1, 1, none⟩ b).setCell ⟨w.heap.size + 1, 2, none⟩ c) := fun a b c => below_set (below_set (below_set HH.out.2.2.1 (by omega) _ _) (by omega) _ _) (by omega) _ _
      have HW := Lib.hid hwr
      have hbx : ∀ a b c, Box (((wr.setCell ⟨w.heap.size + 1, 0, none⟩ a).setCell ⟨w.heap.size + 1, 1, none⟩ b).setCell ⟨w.heap.size + 1, 2, none⟩ c) (w.heap.size + 1) 42 [a, b, c] := fun a b c => ((HH.out.2.1.set 0 a).set 1 b).set 2 c
      have HBX := Lib.hid hbx
      clear hwr hbx
      have hst : y1 < 18 → ¬ x1 % 10 = 0 → strip d.c d.e = (x1.toNat, y1) := fun _ hm => by
        obtain ⟨c, hc, h0, _, hs⟩ := HH.out.2.2.2
        rw [hs, strip_stay (by omega), hc]; simp
      have hst2 : ¬ y1 < 18 → strip d.c d.e = (x1.toNat, y1) := fun hy => by
        obtain ⟨c, hc, h0, _, hs⟩ := HH.out.2.2.2
        rw [hs, strip_stay (by omega), hc]; simp
      have hdc : d.c ≠ 0 := by obtain ⟨c, hc, h0, h1, hs⟩ := HH.out.2.2.2; omega
      have hx64 : x1.toNat < Two64 := by obtain ⟨c, hc, h0, h1, hs⟩ := HH.out.2.2.2; have := HF.out.c; omega
      have HSX := Lib.hid (And.intro hst (And.intro hst2 (And.intro hdc hx64)))
      clear hst hst2 hdc hx64
      by_cases hy18 : y1 < 18
      · by_cases hm : x1 % 10 = 0
        · clear HSX HW HBX
          have hdiv : IntKind.u64.wrap (x1.tdiv 10) = x1 / 10 := by
            have := HF.out.c
            obtain ⟨c, hc, h0, h1, hs⟩ := HH.out.2.2.2
            unfold Two64 at this
            rw [Int.tdiv_eq_ediv_of_nonneg (by omega), IntKind.wrap_u64]; omega
          go_wp2_with fail
          try rw [hdiv]
          have k1 := (HH.out.1.set 1 (.int .u64 (x1 / 10))).set 2 (.int .i64 (y1 + 1))
          refine ⟨⟨x1 / 10, y1 + 1, k1, ⟨z0, z1, z2, ((HH.out.2.1.far (q := ⟨w.heap.size, 1, none⟩) (by show w.heap.size + 1 ≠ w.heap.size; omega) _).far (q := ⟨w.heap.size, 2, none⟩) (by show w.heap.size + 1 ≠ w.heap.size; omega) _)⟩, below_set (below_set HH.out.2.2.1 (Nat.le_refl _) _ _) (Nat.le_refl _) _ _, ?_, by omega, by omega⟩, ?_⟩
          · obtain ⟨c, hc, h0, h1, hs⟩ := HH.out.2.2.2
            exact ⟨c / 10, by omega, by omega, by omega, by rw [hs, strip_go h0 hy18 (by omega)]⟩
          · unfold coefAt
            rw [k1.cell 1, HH.out.1.cell 1]
            simp [intOf]
            omega
        · go_wp2_with fail
          · refine ret_dec rfl rfl rfl rfl (HBX.out _ _ _) ⟨?_, HW.out _ _ _⟩
            have hs := HSX.out.1 hy18 hm
            have hn : normal d = none := by unfold normal norm; rw [if_neg HSX.out.2.2.1, hs, if_pos (show y1 < -18 by omega)]; rfl
            unfold nVal nErr
            rw [hn]
            rfl
          · refine ret_dec rfl rfl rfl rfl (HBX.out _ _ _) ⟨?_, HW.out _ _ _⟩
            have hs := HSX.out.1 hy18 hm
            have hn : normal d = some ⟨d.neg, x1.toNat, y1⟩ := by
              unfold normal norm
              rw [if_neg HSX.out.2.2.1, hs]
              simp only []
              rw [if_neg (show ¬ y1 < -18 by omega), if_neg (show ¬ (18 : Int) ≤ y1 by omega), if_pos HSX.out.2.2.2]
              simp only [Option.map_some, mkD]
              rw [if_neg (by omega)]
            unfold nVal nErr
            rw [hn]
            simp
            omega
      · by_cases h18 : 18 < y1
        · have HL := Lib.hid (lift_calls x1.toNat (y1 - 18) wr HSX.out.2.2.2 (by omega))
          rw [show ((x1.toNat : Nat) : Int) = x1 by omega] at HL
          obtain ⟨r, b, hr⟩ : ∃ r b, lifted x1.toNat (y1 - 18) = (r, b) := ⟨_, _, rfl⟩
          rw [hr] at HL
          have HR := Lib.hid hr
          obtain ⟨rz, hrz⟩ : ∃ rz : Int, rz = (r : Int) := ⟨_, rfl⟩
          simp only [← hrz] at HL
          have HRZ := Lib.hid hrz
          clear hr hrz
          have hs := HSX.out.2.1 hy18
          have hno : normal d = (if x1.toNat * 10 ^ (y1 - 18).toNat < Two64 then some ⟨d.neg, x1.toNat * 10 ^ (y1 - 18).toNat, 18⟩ else none) := by
            unfold normal norm
            rw [if_neg HSX.out.2.2.1, hs]
            simp only []
            rw [if_neg (show ¬ y1 < -18 by omega), if_pos (show (18 : Int) ≤ y1 by omega)]
            split
            · simp only [Option.map_some, mkD]
              rw [if_neg (Nat.ne_of_gt (Nat.mul_pos (by omega) (Nat.pos_of_ne_zero (by simp))))]
            · rfl
          have HNO := Lib.hid hno
          clear hs hno
          go_wp2_with fail
          refine HL.out.mono ?_
          rintro e w' ⟨rfl, rfl⟩
          cases b
          · go_wp2_with fail
            refine ret_dec rfl rfl rfl rfl (HBX.out _ _ _) ⟨?_, HW.out _ _ _⟩
            have hn : normal d = none := by
              rw [HNO.out, if_neg]
              intro hlt
              have := HR.out
              unfold lifted at this
              rw [if_pos hlt] at this
              cases this
            unfold nVal nErr
            rw [hn]
            rfl
          · go_wp2_with fail
            refine ret_dec rfl rfl rfl rfl ((((HH.out.2.1.far (q := ⟨w.heap.size, 1, none⟩) (by show w.heap.size + 1 ≠ w.heap.size; omega) _).far (q := ⟨w.heap.size, 2, none⟩) (by show w.heap.size + 1 ≠ w.heap.size; omega) _).set 0 _ |>.set 1 _).set 2 _) ⟨?_, below_set (below_set (below_set (below_set (below_set HH.out.2.2.1 (Nat.le_refl _) _ _) (Nat.le_refl _) _ _) (by omega) _ _) (by omega) _ _) (by omega) _ _⟩
            have hlt : x1.toNat * 10 ^ (y1 - 18).toNat < Two64 ∧ x1.toNat * 10 ^ (y1 - 18).toNat = r := by
              have := HR.out
              unfold lifted at this
              split at this
              · rename_i h; exact ⟨h, congrArg Prod.fst this⟩
              · cases this
            have hn := HNO.out
            rw [if_pos hlt.1, hlt.2] at hn
            unfold nVal nErr
            rw [hn, HRZ.out]
            rfl
        · go_wp2_with fail
          refine ret_dec rfl rfl rfl rfl (HBX.out _ _ _) ⟨?_, HW.out _ _ _⟩
          have hs := HSX.out.2.1 hy18
          obtain rfl : y1 = 18 := by omega
          have hn : normal d = some ⟨d.neg, x1.toNat, 18⟩ := by
            unfold normal norm
            rw [if_neg HSX.out.2.2.1, hs]
            simp only []
            rw [if_neg (show ¬ (18 : Int) < -18 by omega), if_pos (show (18 : Int) ≤ 18 by omega)]
            simp only [Int.sub_self, Int.toNat_zero, Nat.pow_zero, Nat.mul_one]
            rw [if_pos HSX.out.2.2.2]
            simp only [Option.map_some, mkD]
            rw [if_neg (by omega)]
          unfold nVal nErr
          rw [hn]
          simp
          omega
end Go.Proofs.YtmaiggoinjldpaaDoor.Dc

/-
  Contract of package dec's Check. No statement of the seat is proved here.
-/
namespace Go.Proofs.YtmaiggoinjldpaaDoor.Dc
open Go.RowKit

set_option maxRecDepth 100000 in
set_option maxHeartbeats 2000000 in
theorem check_calls (d : D) (hf : d.Fits) (w : World) : Calls Tryd.prog 49 #[dV d] w fun e w' => e = .returned (.int .i64 (check d)) ∧ Below w.heap.size w w' := by
  obtain ⟨x, hx⟩ : ∃ x : Int, x = (d.c : Int) := ⟨_, rfl⟩
  obtain ⟨y, hy⟩ : ∃ y : Int, y = d.e := ⟨_, rfl⟩
  obtain ⟨n, hn⟩ : ∃ n : Bool, n = d.neg := ⟨_, rfl⟩
  have hx0 : 0 ≤ x := by omega
  have HN0 := normal_calls d hf (w.alloc (.cells #[.bool n, .int .u64 x, .int .i64 y] 42))
  obtain ⟨x', hx'⟩ : ∃ x : Int, x = ((nVal d).c : Int) := ⟨_, rfl⟩
  obtain ⟨y', hy'⟩ : ∃ y : Int, y = (nVal d).e := ⟨_, rfl⟩
  obtain ⟨n', hn'⟩ : ∃ n : Bool, n = (nVal d).neg := ⟨_, rfl⟩
  unfold dV at HN0 ⊢
  rw [← hx, ← hy, ← hn, ← hx', ← hy', ← hn'] at HN0
  rw [← hx, ← hy, ← hn]
  have HNO := Lib.hid HN0
  have HE := Lib.hid (And.intro hf (And.intro (And.intro hx (And.intro hy hn)) (And.intro hx' (And.intro hy' hn'))))
  clear hf hx hy hn hx' hy' hn' HN0
  go_enter Tryd.func49, Tryd.ntmps49
  by_cases hr : x ≠ 0 ∧ (y < -18 ∨ 18 < y)
  · have hc : check d = 10 := by
      obtain ⟨_, ⟨h1, h2, _⟩, _⟩ := HE.out
      unfold check; rw [if_pos]; exact ⟨by omega, by omega⟩
    rw [hc]
    obtain ⟨h0, h1⟩ := hr
    rcases h1 with h1 | h1
    · go_wp2_with fail
      go_ret
      exact ⟨rfl, (Below.refl _ _).alloc (Nat.le_refl _) _⟩
    · have h2 : ¬ y < -18 := by omega
      go_wp2_with fail
      go_ret
      exact ⟨rfl, (Below.refl _ _).alloc (Nat.le_refl _) _⟩
  · have hr2 : x = 0 ∨ (x ≠ 0 ∧ ¬ y < -18 ∧ ¬ 18 < y) := by omega
    have HR := Lib.hid hr
    clear hr
    have hcell := Box.new w 42 [.bool n, .int .u64 x, .int .i64 y]
    have hchk : check d = if n' = n ∧ x' = x ∧ y' = y then 0 else 21 := by
      obtain ⟨hf, ⟨h1, h2, h3⟩, h4, h5, h6⟩ := HE.out
      have hr := HR.out
      have : ∃ m, normal d = some m := by
        unfold normal
        rcases Nat.eq_zero_or_pos d.c with h0 | h0
        · rw [h0, norm_zero]; exact ⟨_, rfl⟩
        · obtain ⟨p, hp⟩ := norm_some (e := d.e) hf.c (by omega) (by omega)
          rw [hp]; exact ⟨_, rfl⟩
      obtain ⟨m, hm⟩ := this
      have hv : nVal d = m := by unfold nVal; rw [hm]; rfl
      rw [hv] at h4 h5 h6
      unfold check
      rw [if_neg (by omega), hm]
      by_cases he : m = d
      · subst he
        rw [if_pos rfl, if_pos ⟨by rw [h6, h3], by omega, by omega⟩]
      · rw [if_neg (fun h => he (by injection h)), if_neg]
        rintro ⟨k1, k2, k3⟩
        exact he (D.ext' (by rw [← h6, ← h3, k1]) (by omega) (by omega))
    have HCK := Lib.hid hchk
    clear hchk HR HE
    rcases hr2 with rfl | ⟨h0, h1, h2⟩
    all_goals
      go_wp2_with fail
      refine HNO.out.mono ?_
      rintro e w1 ⟨rfl, hb⟩
      have b1 := hcell.keep hb
      clear hcell HNO
      have hb2 := Below.trans ((Below.refl _ _).alloc (Nat.le_refl _) _) (hb.mono (by simp))
      have HB := Lib.hid hb2
      have c0 := b1.cell 0
      have c1 := b1.cell 1
      have c2 := b1.cell 2
      simp only [List.getElem?_cons_zero, List.getElem?_cons_succ] at c0 c1 c2
      have hlt := b1.lt
      have hne : w1.heap.size ≠ w.heap.size := by omega
      clear hb hb2 b1
      go_wp2_with fail
    all_goals
      have hck := HCK.out
      have hbe := HB.out
      clear HCK HB c0 c1 c2 hne
      go_ret
      refine ⟨congrArg (fun z => Ending.returned (Value.int .i64 z)) (hck.trans ?_).symm, hbe.alloc hbe.size _⟩
      clear hck hbe
      split
      · first | rfl | (exfalso; simp_all)
      · first | rfl | (exfalso; simp_all)
end Go.Proofs.YtmaiggoinjldpaaDoor.Dc

/-
  Contract of the closure that takes a number's digits. No statement of the seat is proved here.
-/
namespace Go.Proofs.YtmaiggoinjldpaaDoor.Dc
open Go.RowKit

theorem add64_run (x y : Int) (hx : 0 ≤ x) (hy : 0 ≤ y) (w : World) :
    (callFunc 60 #[.int .u64 x, .int .u64 y, .int .u64 0]).run Tryd.prog w =
      .ok (.value (.tuple #[.int .u64 ((x + y) % 18446744073709551616), .int .u64 ((x + y) / 18446744073709551616)])) w := by
  rw [run_callFunc_extern Tryd.func60 (by kernel_rfl) (by kernel_rfl) (by kernel_rfl) (e := add64Entry) (by kernel_rfl), run_add64 x y 0 hx hy (by omega) (by omega)]
  simp only [Result.andThen, Int.add_zero]

/-- What is known of a number: its digits make v, so many of them, p of them behind the point. -/
structure Known (v p m coef zeros : Nat) (beyond : Bool) : Prop where
  fits : coef < Two64
  few : zeros ≤ m
  places : p ≤ m
  plain : beyond = false → v = coef * 10 ^ zeros
  great : beyond = true → ∃ c z, v = c * 10 ^ z ∧ c % 10 ≠ 0 ∧ Two64 ≤ c

def written (below point : Bool) (p coef zeros : Int) (beyond : Bool) : List Value := [.bool below, .bool point, .int .i64 p, .int .u64 coef, .int .i64 zeros, .bool beyond]
def WAt (w : World) (g : Nat) (below point : Bool) (v p m : Nat) : Prop :=
  ∃ (coef zeros : Nat) (beyond : Bool), Box w g 70 (written below point p coef zeros beyond) ∧ Known v p m coef zeros beyond

theorem known_zero {v p m coef zeros : Nat} {beyond : Bool} (h : Known v p m coef zeros beyond) (p' : Nat) (hp : p' ≤ m + 1) : Known (10 * v + 0) p' (m + 1) coef (zeros + 1) beyond :=
  ⟨h.fits, by have := h.few; omega, hp, fun hb => by rw [h.plain hb, Nat.pow_succ, Nat.add_zero, ← Nat.mul_assoc, Nat.mul_comm 10, Nat.mul_assoc, Nat.mul_comm 10], fun hb => by
    obtain ⟨c, z, h1, h2, h3⟩ := h.great hb
    exact ⟨c, z + 1, by rw [h1, Nat.pow_succ, Nat.add_zero, ← Nat.mul_assoc, Nat.mul_comm 10, Nat.mul_assoc, Nat.mul_comm 10], h2, h3⟩⟩
theorem known_beyond {v p m coef zeros : Nat} (h : Known v p m coef zeros true) (d : Nat) (hd : 1 ≤ d ∧ d ≤ 9) (p' : Nat) (hp : p' ≤ m + 1) : Known (10 * v + d) p' (m + 1) coef zeros true :=
  ⟨h.fits, by have := h.few; omega, hp, fun hb => (by cases hb), fun _ => by
    obtain ⟨c, z, h1, h2, h3⟩ := h.great rfl
    have : c * 1 ≤ c * 10 ^ z := Nat.mul_le_mul_left _ (Nat.pos_of_ne_zero (by simp))
    exact ⟨10 * v + d, 0, by simp, by omega, by omega⟩⟩
theorem known_digit {v p m coef zeros : Nat} (h : Known v p m coef zeros false) (d : Nat) (hd : 1 ≤ d ∧ d ≤ 9) (p' : Nat) (hp : p' ≤ m + 1) (r : Nat) (f : Bool) (hr : lifted coef ((zeros : Int) + 1) = (r, f)) :
    Known (10 * v + d) p' (m + 1) ((r + d) % Two64) 0 (!f || decide (Two64 ≤ r + d)) := by
  have hv := h.plain rfl
  have e : ((zeros : Int) + 1).toNat = zeros + 1 := by omega
  unfold lifted at hr
  rw [e, Nat.pow_succ, ← Nat.mul_assoc, ← hv] at hr
  have h64 : 0 < Two64 := by decide
  refine ⟨Nat.mod_lt _ h64, by omega, hp, fun hb => ?_, fun hb => ?_⟩
  · split at hr
    · injection hr with h1 h2
      subst h1 h2
      simp at hb
      rw [Nat.mod_eq_of_lt hb]; omega
    · injection hr with h1 h2
      subst h1 h2
      simp at hb
  · refine ⟨10 * v + d, 0, by simp, by omega, ?_⟩
    split at hr
    · injection hr with h1 h2
      subst h1 h2
      simp at hb
      omega
    · rename_i hlt
      omega

/-- What the closure leaves. -/
def Takes (w : World) (g : Nat) (below point : Bool) (v p m : Nat) (e : Ending) (w' : World) : Prop := e = .returned (.tuple #[]) ∧ WAt w' g below point v p m ∧ But g w w'

set_option maxRecDepth 100000 in
set_option maxHeartbeats 4000000 in
theorem take_calls (w : World) (g b : Nat) (below point : Bool) (v p m d : Nat) (hd : d ≤ 9) (hm : m ≤ 9000) (h : WAt w g below point v p m) (hb : Box w b 73 [.pointer (some ⟨g, 0, none⟩)]) (hne : b ≠ g) :
    Calls Tryd.prog 58 #[.int .u64 d, .pointer (some ⟨b, 0, none⟩)] w (Takes w g below point (10 * v + d) (if point then p + 1 else p) (m + 1)) := by
  obtain ⟨coef, zeros, beyond, hbox, hk⟩ := h
  have cb : w.cell? ⟨b, 0, none⟩ = some (.pointer (some ⟨g, 0, none⟩)) := hb.cell 0
  have c1 : w.cell? ⟨g, 1, none⟩ = some (.bool point) := hbox.cell 1
  have c2 : w.cell? ⟨g, 2, none⟩ = some (.int .i64 p) := hbox.cell 2
  have c3 : w.cell? ⟨g, 3, none⟩ = some (.int .u64 coef) := hbox.cell 3
  have c4 : w.cell? ⟨g, 4, none⟩ = some (.int .i64 zeros) := hbox.cell 4
  have c5 : w.cell? ⟨g, 5, none⟩ = some (.bool beyond) := hbox.cell 5
  have f2 := hbox.frozen 2
  have f3 := hbox.frozen 3
  have f4 := hbox.frozen 4
  have f5 := hbox.frozen 5
  have hp := hk.places
  have hz := hk.few
  have HH := Lib.hid (And.intro hbox hk)
  have hne2 : g ≠ b := fun h => hne h.symm
  obtain ⟨x, hx⟩ : ∃ x : Int, x = (coef : Int) := ⟨_, rfl⟩
  rw [← hx] at c3
  have HX := Lib.hid hx
  clear hbox hk hx
  by_cases hd0 : d = 0
  · subst hd0
    clear hb
    have e1 : (((zeros + 1 : Nat)) : Int) = (zeros : Int) + 1 := by omega
    have e2 : (((p + 1 : Nat)) : Int) = (p : Int) + 1 := by omega
    have HE := Lib.hid (And.intro e1 e2)
    clear e1 e2
    cases point
    · go_enter Tryd.func58, Tryd.ntmps58
      go_wp2_with fail
      refine bodyPost_ret (v := .tuple #[]) (by simp [results, Tryd.results58, go_sem]) rfl ⟨rfl, ?_, ?_⟩
      · refine ⟨coef, zeros + 1, beyond, ?_, known_zero HH.out.2 p (by omega)⟩
        rw [HE.out.1]
        exact HH.out.1.set 4 _
      · exact (But.refl g w).set 4 _
    · go_enter Tryd.func58, Tryd.ntmps58
      go_wp2_with fail
      refine bodyPost_ret (v := .tuple #[]) (by simp [results, Tryd.results58, go_sem]) rfl ⟨rfl, ?_, ?_⟩
      · refine ⟨coef, zeros + 1, beyond, ?_, known_zero HH.out.2 (p + 1) (by omega)⟩
        rw [HE.out.1, HE.out.2]
        exact (HH.out.1.set 2 _).set 4 _
      · exact ((But.refl g w).set 2 _).set 4 _
  · have hd1 : ((d : Int) == 0) = false := by simp; omega
    cases beyond
    · obtain ⟨r, f, hr⟩ : ∃ r f, lifted coef ((zeros : Int) + 1) = (r, f) := ⟨_, _, rfl⟩
      have HK := Lib.hid (fun p' hp' => known_digit HH.out.2 d (by omega) p' hp' r f hr)
      have hl : ∀ W, Calls Tryd.prog 59 #[.int .u64 x, .int .i64 ((zeros : Int) + 1)] W fun e w' => e = .returned (.tuple #[.int .u64 (r : Int), .bool f]) ∧ w' = W := fun W => by
        have := lift_calls coef ((zeros : Int) + 1) W HH.out.2.fits (by omega)
        rw [hr, ← HX.out] at this
        exact this.mono fun e w' ⟨h1, h2⟩ => ⟨h1, h2.symm⟩
      have hadd := add64_run (r : Int) (d : Int) (by omega) (by omega)
      obtain ⟨sm, hsm⟩ : ∃ sm : Int, sm = ((r : Int) + (d : Int)) % 18446744073709551616 := ⟨_, rfl⟩
      obtain ⟨cy, hcy⟩ : ∃ cy : Int, cy = ((r : Int) + (d : Int)) / 18446744073709551616 := ⟨_, rfl⟩
      have hsm2 : sm = (((r + d) % Two64 : Nat) : Int) := by unfold Two64; omega
      have hcy2 : (!(cy == 0)) = decide (Two64 ≤ r + d) := by
        rw [hcy]
        by_cases h : Two64 ≤ r + d
        · rw [decide_eq_true h]; unfold Two64 at h; simp; omega
        · rw [decide_eq_false h]; unfold Two64 at h; simp; omega
      rw [← hsm, ← hcy] at hadd
      have HS := Lib.hid (And.intro hsm2 hcy2)
      obtain ⟨rz, hrz⟩ : ∃ rz : Int, rz = (r : Int) := ⟨_, rfl⟩
      rw [← hrz] at hadd
      simp only [← hrz] at hl
      have HL := Lib.hid hl
      clear hl hr hsm hcy hsm2 hcy2 hrz
      cases point
      · go_enter Tryd.func58, Tryd.ntmps58
        go_wp2_with fail
        go_quiet ((go_at_call 59; exact Calls.quiet_of_same (HL.out _)))
        have hbx := HH.out.1.same (Same.drewN w nq)
        have hbt := (But.refl g w).trans (But.of_same (Same.drewN w nq))
        have hcp := (Box.far hb (q := ⟨g, 2, none⟩) hne (.int .i64 ((p : Int) + 1)))
        have hcb := (hb).same (Same.drewN w nq)
        generalize (w).drewN nq = W2 at hbx hbt hcb ⊢
        clear cb c2 c3 c4 c5 f2 f3 f4 f5 hcp hb
        have cb : W2.cell? ⟨b, 0, none⟩ = some (.pointer (some ⟨g, 0, none⟩)) := hcb.cell 0
        have c3 : W2.cell? ⟨g, 3, none⟩ = some (.int .u64 coef) := hbx.cell 3
        have c4 : W2.cell? ⟨g, 4, none⟩ = some (.int .i64 zeros) := hbx.cell 4
        have c5 : W2.cell? ⟨g, 5, none⟩ = some (.bool false) := hbx.cell 5
        have f3 := hbx.frozen 3
        have f4 := hbx.frozen 4
        have f5 := hbx.frozen 5
        rw [← HX.out] at c3
        have HB := Lib.hid (And.intro hbx hbt)
        clear hbx hbt hcb HL
        go_wp2_with fail
        cases f
        · go_region
          refine bodyPost_end (v := .tuple #[]) (by simp [results, Tryd.results58, go_sem]) rfl ⟨rfl, ?_, ?_⟩
          · refine ⟨(r + d) % Two64, 0, true, ?_, ?_⟩
            · rw [← HS.out.1]
              exact (((HB.out.1.set 3 _).set 4 _).set 5 _).same (Same.drewN _ 1)
            · have := HK.out p (by omega)
              exact this
          · exact (((HB.out.2.set 3 _).set 4 _).set 5 _).drew
        · by_cases hcz : cy = 0
          · subst hcz
            go_region
            refine bodyPost_end (v := .tuple #[]) (by simp [results, Tryd.results58, go_sem]) rfl ⟨rfl, ?_, ?_⟩
            · refine ⟨(r + d) % Two64, 0, false, ?_, ?_⟩
              · rw [← HS.out.1]
                exact (((HB.out.1.set 3 _).set 4 _).set 5 _).same (Same.drewN _ 1)
              · have := HK.out p (by omega)
                rw [← HS.out.2] at this; exact this
            · exact (((HB.out.2.set 3 _).set 4 _).set 5 _).drew
          · have hcz2 : (cy == 0) = false := by simp [hcz]
            have hcn : (cy != 0) = true := by simp [hcz]
            have HCN := Lib.hid hcn
            clear hcn
            go_region
            rw [HCN.out]
            refine bodyPost_end (v := .tuple #[]) (by simp [results, Tryd.results58, go_sem]) rfl ⟨rfl, ?_, ?_⟩
            · refine ⟨(r + d) % Two64, 0, true, ?_, ?_⟩
              · rw [← HS.out.1]
                exact (((HB.out.1.set 3 _).set 4 _).set 5 _).same (Same.drewN _ 1)
              · have := HK.out p (by omega)
                rw [← HS.out.2, hcz2] at this; exact this
            · exact (((HB.out.2.set 3 _).set 4 _).set 5 _).drew
      · go_enter Tryd.func58, Tryd.ntmps58
        go_wp2_with fail
        go_quiet ((go_at_call 59; exact Calls.quiet_of_same (HL.out _)))
        have hbx := (HH.out.1.set 2 (.int .i64 ((p : Int) + 1))).same (Same.drewN (w.setCell ⟨g, 2, none⟩ (.int .i64 ((p : Int) + 1))) nq)
        have hbt := ((But.refl g w).set 2 _).trans (But.of_same (Same.drewN (w.setCell ⟨g, 2, none⟩ (.int .i64 ((p : Int) + 1))) nq))
        have hcp := (Box.far hb (q := ⟨g, 2, none⟩) hne (.int .i64 ((p : Int) + 1)))
        have hcb := (hcp).same (Same.drewN (w.setCell ⟨g, 2, none⟩ (.int .i64 ((p : Int) + 1))) nq)
        generalize ((w.setCell ⟨g, 2, none⟩ (.int .i64 ((p : Int) + 1)))).drewN nq = W2 at hbx hbt hcb ⊢
        clear cb c2 c3 c4 c5 f2 f3 f4 f5 hcp hb
        have cb : W2.cell? ⟨b, 0, none⟩ = some (.pointer (some ⟨g, 0, none⟩)) := hcb.cell 0
        have c3 : W2.cell? ⟨g, 3, none⟩ = some (.int .u64 coef) := hbx.cell 3
        have c4 : W2.cell? ⟨g, 4, none⟩ = some (.int .i64 zeros) := hbx.cell 4
        have c5 : W2.cell? ⟨g, 5, none⟩ = some (.bool false) := hbx.cell 5
        have f3 := hbx.frozen 3
        have f4 := hbx.frozen 4
        have f5 := hbx.frozen 5
        rw [← HX.out] at c3
        have HB := Lib.hid (And.intro hbx hbt)
        clear hbx hbt hcb HL
        go_wp2_with fail
        cases f
        · go_region
          refine bodyPost_end (v := .tuple #[]) (by simp [results, Tryd.results58, go_sem]) rfl ⟨rfl, ?_, ?_⟩
          · refine ⟨(r + d) % Two64, 0, true, ?_, ?_⟩
            · rw [← HS.out.1]
              rw [show (((p + 1 : Nat)) : Int) = (p : Int) + 1 by omega]
              exact (((HB.out.1.set 3 _).set 4 _).set 5 _).same (Same.drewN _ 1)
            · have := HK.out (p + 1) (by omega)
              exact this
          · exact (((HB.out.2.set 3 _).set 4 _).set 5 _).drew
        · by_cases hcz : cy = 0
          · subst hcz
            go_region
            refine bodyPost_end (v := .tuple #[]) (by simp [results, Tryd.results58, go_sem]) rfl ⟨rfl, ?_, ?_⟩
            · refine ⟨(r + d) % Two64, 0, false, ?_, ?_⟩
              · rw [← HS.out.1]
                rw [show (((p + 1 : Nat)) : Int) = (p : Int) + 1 by omega]
                exact (((HB.out.1.set 3 _).set 4 _).set 5 _).same (Same.drewN _ 1)
              · have := HK.out (p + 1) (by omega)
                rw [← HS.out.2] at this; exact this
            · exact (((HB.out.2.set 3 _).set 4 _).set 5 _).drew
          · have hcz2 : (cy == 0) = false := by simp [hcz]
            have hcn : (cy != 0) = true := by simp [hcz]
            have HCN := Lib.hid hcn
            clear hcn
            go_region
            rw [HCN.out]
            refine bodyPost_end (v := .tuple #[]) (by simp [results, Tryd.results58, go_sem]) rfl ⟨rfl, ?_, ?_⟩
            · refine ⟨(r + d) % Two64, 0, true, ?_, ?_⟩
              · rw [← HS.out.1]
                rw [show (((p + 1 : Nat)) : Int) = (p : Int) + 1 by omega]
                exact (((HB.out.1.set 3 _).set 4 _).set 5 _).same (Same.drewN _ 1)
              · have := HK.out (p + 1) (by omega)
                rw [← HS.out.2, hcz2] at this; exact this
            · exact (((HB.out.2.set 3 _).set 4 _).set 5 _).drew
    · clear hb
      cases point
      · go_enter Tryd.func58, Tryd.ntmps58
        go_wp2_with fail
        refine bodyPost_ret (v := .tuple #[]) (by simp [results, Tryd.results58, go_sem]) rfl ⟨rfl, ?_, ?_⟩
        · exact ⟨coef, zeros, true, HH.out.1, known_beyond HH.out.2 d (by omega) p (by omega)⟩
        · exact But.refl g w
      · go_enter Tryd.func58, Tryd.ntmps58
        go_wp2_with fail
        refine bodyPost_ret (v := .tuple #[]) (by simp [results, Tryd.results58, go_sem]) rfl ⟨rfl, ?_, ?_⟩
        · refine ⟨coef, zeros, true, ?_, known_beyond HH.out.2 d (by omega) (p + 1) (by omega)⟩
          rw [show (((p + 1 : Nat)) : Int) = (p : Int) + 1 by omega]
          exact HH.out.1.set 2 _
        · exact (But.refl g w).set 2 _
end Go.Proofs.YtmaiggoinjldpaaDoor.Dc
