/-
  The walk through CurNests: whatever bytes and numbers it is handed, it returns true, and changes nothing that was there. The statement itself is proved in the last text.
-/
import Derived.Test.YtiipkmfkelbpiaaAwake
import Derived.Test.YtiipkmfkelbpiaaNestsOuter
namespace Go.Proofs.Ytiipkmfkelbpiaa
open Go.RowKit

/-- How the outer Try ends, held against the world in which it began. -/
def ORel' (w5 : World) (p1 g8 g9 g10 g11 g12 : Nat) (b0 b1 : List Int) (k0 k1 : Nat) (whose : Int) (q1 : Nat) (r : Option Nat) (s : St) (w2 : World) : Prop :=
  s = pulls b0 k0 ∧ Keeps [g8, g9, g10, g11, g12] w5 w2 ∧ Box w2 g8 25 [.pointer (some ⟨p1, 0, none⟩)] ∧
  ((r = none ∧ ¬ (whose = 1 ∧ b0.length < k0) ∧ Box w2 g9 3 [.int .i64 (pulls b1 k1).t] ∧ Box w2 g10 30 [.int .i64 (pulls b1 k1).c, .int .i64 (pulls b1 k1).a] ∧ Box w2 g11 4 [.bool (decide (¬ (whose = 0 ∧ b1.length < k1)))] ∧ Box w2 g12 4 [.bool true]) ∨
   (r = some q1 ∧ whose = 1 ∧ b0.length < k0 ∧ Box w2 g9 3 [.int .i64 (-1)] ∧ Box w2 g11 4 [.bool false] ∧ Box w2 g12 4 [.bool false]))

theorem ptr_nil_eq (a : Addr) (w : World) : (binOp .eql 25 (.pointer (some a)) (.pointer none)).run Try.prog w = .ok (.bool false) w := by
  have h : ∀ d : Nat, (Op.equalIn (d + 1) 25 (.pointer (some a)) (.pointer none)).run Try.prog w = .ok false w := fun d => by
    simp [Op.equalIn, run_underlying Try.underlying25]
  simp only [binOp]
  simp [Op.equal, Op.maxDepth, h 9999]

theorem five_new (wd : World) :
    Box (((((wd.alloc (.cells #[.pointer none] 25)).alloc (.cells #[.int .i64 (-1)] 3)).alloc (.cells #[.int .i64 0, .int .i64 0] 30)).alloc (.cells #[.bool false] 4)).alloc (.cells #[.bool false] 4)) wd.heap.size 25 [.pointer none] ∧ Box (((((wd.alloc (.cells #[.pointer none] 25)).alloc (.cells #[.int .i64 (-1)] 3)).alloc (.cells #[.int .i64 0, .int .i64 0] 30)).alloc (.cells #[.bool false] 4)).alloc (.cells #[.bool false] 4)) (wd.heap.size + 1) 3 [.int .i64 (-1)] ∧ Box (((((wd.alloc (.cells #[.pointer none] 25)).alloc (.cells #[.int .i64 (-1)] 3)).alloc (.cells #[.int .i64 0, .int .i64 0] 30)).alloc (.cells #[.bool false] 4)).alloc (.cells #[.bool false] 4)) (wd.heap.size + 1 + 1) 30 [.int .i64 0, .int .i64 0] ∧ Box (((((wd.alloc (.cells #[.pointer none] 25)).alloc (.cells #[.int .i64 (-1)] 3)).alloc (.cells #[.int .i64 0, .int .i64 0] 30)).alloc (.cells #[.bool false] 4)).alloc (.cells #[.bool false] 4)) (wd.heap.size + 1 + 1 + 1) 4 [.bool false] ∧ Box (((((wd.alloc (.cells #[.pointer none] 25)).alloc (.cells #[.int .i64 (-1)] 3)).alloc (.cells #[.int .i64 0, .int .i64 0] 30)).alloc (.cells #[.bool false] 4)).alloc (.cells #[.bool false] 4)) (wd.heap.size + 1 + 1 + 1 + 1) 4 [.bool false] ∧
    Below wd.heap.size wd (((((wd.alloc (.cells #[.pointer none] 25)).alloc (.cells #[.int .i64 (-1)] 3)).alloc (.cells #[.int .i64 0, .int .i64 0] 30)).alloc (.cells #[.bool false] 4)).alloc (.cells #[.bool false] 4)) ∧ ((((((wd.alloc (.cells #[.pointer none] 25)).alloc (.cells #[.int .i64 (-1)] 3)).alloc (.cells #[.int .i64 0, .int .i64 0] 30)).alloc (.cells #[.bool false] 4)).alloc (.cells #[.bool false] 4))).heap.size = wd.heap.size + 1 + 1 + 1 + 1 + 1 := by
  have b1 := Box.new wd 25 [.pointer none]
  have b2 := Box.new (wd.alloc (.cells #[.pointer none] 25)) 3 [.int .i64 (-1)]
  have b3 := Box.new ((wd.alloc (.cells #[.pointer none] 25)).alloc (.cells #[.int .i64 (-1)] 3)) 30 [.int .i64 0, .int .i64 0]
  have b4 := Box.new (((wd.alloc (.cells #[.pointer none] 25)).alloc (.cells #[.int .i64 (-1)] 3)).alloc (.cells #[.int .i64 0, .int .i64 0] 30)) 4 [.bool false]
  have b5 := Box.new ((((wd.alloc (.cells #[.pointer none] 25)).alloc (.cells #[.int .i64 (-1)] 3)).alloc (.cells #[.int .i64 0, .int .i64 0] 30)).alloc (.cells #[.bool false] 4)) 4 [.bool false]
  rw [size_alloc] at b2
  rw [size_alloc, size_alloc] at b3
  rw [size_alloc, size_alloc, size_alloc] at b4
  rw [size_alloc, size_alloc, size_alloc, size_alloc] at b5
  refine ⟨(((b1.alloc _).alloc _).alloc _).alloc _, ((b2.alloc _).alloc _).alloc _, (b3.alloc _).alloc _, b4.alloc _, b5, ?_, by rw [size_alloc, size_alloc, size_alloc, size_alloc, size_alloc]⟩
  exact (((((Below.refl _ _).alloc (Nat.le_refl _) _).alloc (by rw [size_alloc]; omega) _).alloc (by rw [size_alloc, size_alloc]; omega) _).alloc (by rw [size_alloc, size_alloc, size_alloc]; omega) _).alloc (by rw [size_alloc, size_alloc, size_alloc, size_alloc]; omega) _

set_option maxRecDepth 100000 in
set_option maxHeartbeats 8000000 in
theorem nests_walk (A0 A1 : Option Addr) (n0 c0 n1 c1 : Nat) (b0 b1 : List Int) (t0 t1 whose : Int) (w : World)
    (hl0 : b0.length = n0) (hv0 : Lies w A0 (by8 b0)) (hs0 : ∀ z ∈ b0, 0 ≤ z ∧ z < 256) (hn0 : A0 = none → c0 = 0) (hl1 : b1.length = n1) (hv1 : Lies w A1 (by8 b1)) (hs1 : ∀ z ∈ b1, 0 ≤ z ∧ z < 256) (hn1 : A1 = none → c1 = 0) :
    Calls Try.prog 7 #[.agg #[.slice A0 n0 c0, .slice A1 n1 c1], .agg #[.int .i64 t0, .int .i64 t1], .int .i64 whose] w fun e w' => e = .returned (.bool true) ∧ Below w.heap.size w w' := by
  have HL0 := Lib.hid hl0
  have HV0 := Lib.hid hv0
  have HS0 := Lib.hid hs0
  have HN0 := Lib.hid hn0
  have HL1 := Lib.hid hl1
  have HV1 := Lib.hid hv1
  have HS1 := Lib.hid hs1
  have HN1 := Lib.hid hn1
  clear hl0 hv0 hs0 hn0 hl1 hv1 hs1 hn1
  have B3 := Lib.hid (((Box.new w 58 [.slice A0 n0 c0, .slice A1 n1 c1]).alloc (.cells #[.int .i64 t0, .int .i64 t1] 59)).alloc (.cells #[.int .i64 whose] 3))
  have b4 := (Box.new (w.alloc (.cells #[.slice A0 n0 c0, .slice A1 n1 c1] 58)) 59 [.int .i64 t0, .int .i64 t1]).alloc (.cells #[.int .i64 whose] 3)
  have b5 := Box.new ((w.alloc (.cells #[.slice A0 n0 c0, .slice A1 n1 c1] 58)).alloc (.cells #[.int .i64 t0, .int .i64 t1] 59)) 3 [.int .i64 whose]
  rw [size_alloc] at b4
  rw [size_alloc, size_alloc] at b5
  have hb0 : Below w.heap.size w (((w.alloc (.cells #[.slice A0 n0 c0, .slice A1 n1 c1] 58)).alloc (.cells #[.int .i64 t0, .int .i64 t1] 59)).alloc (.cells #[.int .i64 whose] 3)) := (((Below.refl _ _).alloc (Nat.le_refl _) _).alloc (by rw [size_alloc]; omega) _).alloc (by rw [size_alloc, size_alloc]; omega) _
  have B4 := Lib.hid b4
  have B5 := Lib.hid b5
  have HB0 := Lib.hid hb0
  clear b4 b5 hb0
  by_cases q1 : 100 < n0
  · have y1 : (100 : Int) < (n0 : Int) := by omega
    go_enter Try.func7, Try.ntmps7
    go_wp2_with fail
    refine (awake_calls _).mono ?_
    rintro e w9 ⟨rfl, hb9⟩
    go_wp2
    go_ret
    exact ⟨rfl, below_then HB0.out hb9⟩
  have y1 : ¬ (100 : Int) < (n0 : Int) := by omega
  by_cases q2 : 100 < n1
  · have y2 : (100 : Int) < (n1 : Int) := by omega
    go_enter Try.func7, Try.ntmps7
    go_wp2_with fail
    refine (awake_calls _).mono ?_
    rintro e w9 ⟨rfl, hb9⟩
    go_wp2
    go_ret
    exact ⟨rfl, below_then HB0.out hb9⟩
  have y2 : ¬ (100 : Int) < (n1 : Int) := by omega
  by_cases y3 : t0 < 0
  · go_enter Try.func7, Try.ntmps7
    go_wp2_with fail
    refine (awake_calls _).mono ?_
    rintro e w9 ⟨rfl, hb9⟩
    go_wp2
    go_ret
    exact ⟨rfl, below_then HB0.out hb9⟩
  by_cases y4 : 120 < t0
  · go_enter Try.func7, Try.ntmps7
    go_wp2_with fail
    refine (awake_calls _).mono ?_
    rintro e w9 ⟨rfl, hb9⟩
    go_wp2
    go_ret
    exact ⟨rfl, below_then HB0.out hb9⟩
  by_cases y5 : t1 < 0
  · go_enter Try.func7, Try.ntmps7
    go_wp2_with fail
    refine (awake_calls _).mono ?_
    rintro e w9 ⟨rfl, hb9⟩
    go_wp2
    go_ret
    exact ⟨rfl, below_then HB0.out hb9⟩
  by_cases y6 : 120 < t1
  · go_enter Try.func7, Try.ntmps7
    go_wp2_with fail
    refine (awake_calls _).mono ?_
    rintro e w9 ⟨rfl, hb9⟩
    go_wp2
    go_ret
    exact ⟨rfl, below_then HB0.out hb9⟩
  obtain ⟨k0, rfl⟩ := Int.eq_ofNat_of_zero_le (show 0 ≤ t0 by omega)
  obtain ⟨k1, rfl⟩ := Int.eq_ofNat_of_zero_le (show 0 ≤ t1 by omega)
  have hmf : ∀ (fn : Fn) (first cap : Array Value) (w : World), (Instr.makeFunc fn first cap).run Try.prog w = .ok (.func fn first cap) w := fun _ _ _ _ => rfl
  go_enter Try.func7, Try.ntmps7
  go_wp2_with fail
  have hsz : (((w.alloc (.cells #[.slice A0 n0 c0, .slice A1 n1 c1] 58)).alloc (.cells #[.int .i64 (k0 : Int), .int .i64 (k1 : Int)] 59)).alloc (.cells #[.int .i64 whose] 3)).heap.size = w.heap.size + 1 + 1 + 1 := by rw [size_alloc, size_alloc, size_alloc]
  have HSZ := Lib.hid hsz
  clear hsz
  generalize ((w.alloc (.cells #[.slice A0 n0 c0, .slice A1 n1 c1] 58)).alloc (.cells #[.int .i64 (k0 : Int), .int .i64 (k1 : Int)] 59)).alloc (.cells #[.int .i64 whose] 3) = wa at B3 B4 B5 HB0 HSZ ⊢
  refine (new_calls wa none 0 0 [] rfl .nil (by simp) (by omega) (fun _ => rfl)).mono ?_
  rintro e wb ⟨po, Ro, hpo, _, rfl, hcb, hbb⟩
  have hpob := hcb.lt
  have B7 := Lib.hid (Box.new wb 25 [.pointer (some ⟨po, 0, none⟩)])
  have hkc : Below wb.heap.size wb (wb.alloc (.cells #[.pointer (some ⟨po, 0, none⟩)] 25)) := (Below.refl _ _).alloc (Nat.le_refl _) _
  have hcc := hcb.keep hkc
  have HKC := Lib.hid (below_then hbb hkc)
  clear hcb hbb hkc
  go_wp2_with fail
  generalize hg7 : wb.heap.size = g7 at B7 hpob ⊢
  generalize wb.alloc (.cells #[.pointer (some ⟨po, 0, none⟩)] 25) = wc at B7 hcc HKC ⊢
  clear hg7
  refine (byte_calls hcc).mono ?_
  rintro e wd ⟨rfl, hcd, hbd⟩
  have eso : (St.start []).byte.2 = ⟨[], 0, 13, 0⟩ := rfl
  rw [eso] at hcd
  have h3a : wa.heap.size = w.heap.size + 1 + 1 + 1 := HSZ.out
  have v7 : Box wd g7 25 [.pointer (some ⟨po, 0, none⟩)] := B7.out.but hbd (by omega)
  have w7c : wd.cell? ⟨g7, 0, none⟩ = some (.pointer (some ⟨po, 0, none⟩)) := v7.cell 0
  have d3 := (B3.out.keep HKC.out).but hbd (by omega)
  have d4 := (B4.out.keep HKC.out).but hbd (by omega)
  have d5 := (B5.out.keep HKC.out).but hbd (by omega)
  have bd : Below w.heap.size w wd := (below_then HB0.out HKC.out).trans (hbd.below (by omega) (by have := HKC.out.size; omega))
  have hg7d : g7 < wd.heap.size := v7.lt
  have x3 : wd.cell? ⟨w.heap.size, 0, none⟩ = some (.slice A0 n0 c0) := d3.cell 0
  have hwd : w.heap.size < wd.heap.size := d3.lt
  have HD := Lib.hid (And.intro d3 (And.intro d4 (And.intro d5 (And.intro v7 bd))))
  have hog : w.heap.size + 1 + 1 < po := by omega
  clear hbd v7 d3 d4 d5 bd eso hcc B7 HKC h3a hpo B3 B4 B5 HB0 HSZ
  go_wp2_with fail
  refine (must_free hcd).mono ?_
  rintro e wx ⟨rfl, rfl⟩
  have HCD := Lib.hid hcd
  clear hcd
  obtain ⟨p8, p9, p10, p11, p12, bw5, hz5⟩ := five_new wd
  have x3' := (HD.out.1.keep bw5).cell 0
  have HP := Lib.hid (And.intro p8 (And.intro p9 (And.intro p10 (And.intro p11 (And.intro p12 (And.intro bw5 hz5))))))
  clear p8 p9 p10 p11 p12 bw5 hz5 x3
  go_wp2_with fail
  obtain ⟨p8, p9, p10, p11, p12, bw5, hz5⟩ := HP.out
  have z5 : wd.heap.size + 1 + 1 + 1 + 1 < (((((wd.alloc (.cells #[.pointer none] 25)).alloc (.cells #[.int .i64 (-1)] 3)).alloc (.cells #[.int .i64 0, .int .i64 0] 30)).alloc (.cells #[.bool false] 4)).alloc (.cells #[.bool false] 4)).heap.size := by omega
  generalize hw5 : (((((wd.alloc (.cells #[.pointer none] 25)).alloc (.cells #[.int .i64 (-1)] 3)).alloc (.cells #[.int .i64 0, .int .i64 0] 30)).alloc (.cells #[.bool false] 4)).alloc (.cells #[.bool false] 4)) = w5 at p8 p9 p10 p11 p12 bw5 z5 ⊢
  clear hw5 hz5 w7c x3' HP
  have nv5 : NVars w5 w.heap.size (w.heap.size + 1) (w.heap.size + 1 + 1) g7 po Ro A0 A1 n0 c0 n1 c1 k0 k1 whose ⟨[], 0, 13, 0⟩ :=
    ⟨HD.out.1.keep bw5, HD.out.2.1.keep bw5, HD.out.2.2.1.keep bw5, HD.out.2.2.2.1.keep bw5, HCD.out.keep bw5⟩
  have b5 : Below w.heap.size w w5 := HD.out.2.2.2.2.trans (bw5.mono (by omega))
  have o8 : g7 < wd.heap.size := hg7d
  generalize hg8 : wd.heap.size = g8 at p8 p9 p10 p11 p12 z5 o8 ⊢
  clear hg8 bw5 hg7d
  refine (try_calls w5 A0 n0 c0 b0 HL0.out (HV0.out.keep b5) HS0.out (by omega) HN0.out 25 #[.pointer (some ⟨g8, 0, none⟩), .pointer (some ⟨w.heap.size + 1, 0, none⟩), .pointer (some ⟨w.heap.size, 0, none⟩), .pointer (some ⟨w.heap.size + 1 + 1, 0, none⟩), .pointer (some ⟨g7, 0, none⟩), .pointer (some ⟨g8 + 1 + 1 + 1, 0, none⟩), .pointer (some ⟨g8 + 1, 0, none⟩), .pointer (some ⟨g8 + 1 + 1, 0, none⟩), .pointer (some ⟨g8 + 1 + 1 + 1 + 1, 0, none⟩)] (fun _ _ => by kernel_rfl)
    (fun p q r s2 w2 => ORel' w5 p g8 (g8 + 1) (g8 + 1 + 1) (g8 + 1 + 1 + 1) (g8 + 1 + 1 + 1 + 1) b0 b1 k0 k1 whose q r s2 w2) (by
      intro R1 wi p1 q1 hp1 hpq1 hbi hci hbq1
      refine (outer_read w wi R1 Ro A0 A1 w5.heap.size p1 q1 po w.heap.size (w.heap.size + 1) (w.heap.size + 1 + 1) g7 g8 (g8 + 1) (g8 + 1 + 1) (g8 + 1 + 1 + 1) (g8 + 1 + 1 + 1 + 1) b0 b1 n0 c0 n1 c1 k0 k1 whose ⟨[], 0, 13, 0⟩ hp1 (Nat.le_refl _) (by omega) (by omega) (by omega) o8 (by omega) (by omega) (by omega) (by omega) z5 hci hbq1
        ⟨nv5.two.keep hbi, nv5.takes.keep hbi, nv5.whose_.keep hbi, nv5.other.keep hbi, nv5.cur.keep hbi⟩ (p8.keep hbi) (p9.keep hbi) (p10.keep hbi) (p11.keep hbi) (p12.keep hbi) (b5.trans (hbi.mono b5.size)) HL1.out HV1.out HS1.out HN1.out (by omega) (by omega) (by omega)).mono ?_
      rintro e w2 ⟨hsz, hmid, hres⟩
      have conv : ∀ r s2, ORel wi p1 g8 (g8 + 1) (g8 + 1 + 1) (g8 + 1 + 1 + 1) (g8 + 1 + 1 + 1 + 1) b0 b1 k0 k1 whose q1 r s2 w2 → ORel' w5 p1 g8 (g8 + 1) (g8 + 1 + 1) (g8 + 1 + 1 + 1) (g8 + 1 + 1 + 1 + 1) b0 b1 k0 k1 whose q1 r s2 w2 := by
        intro r s2 ⟨x1, x2, x3, x4⟩
        refine ⟨x1, ⟨x2.os.trans hbi.os, x2.tape.trans hbi.tape, x2.output.trans hbi.output, Nat.le_trans hbi.size x2.size, fun j hj hn => ?_⟩, x3, x4⟩
        rw [x2.block j (Nat.lt_of_lt_of_le hj hbi.size) (by simp only [List.mem_cons, List.not_mem_nil, or_false] at hn ⊢; omega)]
        exact hbi.block j hj
      refine ⟨hsz, hmid, ?_⟩
      rcases hres with ⟨rfl, s2, y1, y2⟩ | ⟨r, chain, rfl, y0, y3, s2, y1, y2⟩
      · exact .inl ⟨rfl, s2, y1, conv _ _ y2⟩
      · exact .inr ⟨r, chain, rfl, y0, y3, s2, y1, conv _ _ y2⟩)).mono ?_
  rintro e w6 ⟨R1, p1, q1, s2, w2, hp1, hpq1, hc6, hq6, hb6, _, hres⟩
  rcases hres with ⟨rfl, hrel⟩ | ⟨r, chain, hne, rfl, _, _, _, _, _, ⟨h1, _⟩ | ⟨h1, _⟩⟩
  · obtain ⟨hs2, hk2, e8, hcase⟩ : s2 = pulls b0 k0 ∧ Keeps [g8, g8 + 1, g8 + 1 + 1, g8 + 1 + 1 + 1, g8 + 1 + 1 + 1 + 1] w5 w2 ∧ Box w2 g8 25 [.pointer (some ⟨p1, 0, none⟩)] ∧
        ((¬ (whose = 1 ∧ b0.length < k0) ∧ Box w2 (g8 + 1) 3 [.int .i64 (pulls b1 k1).t] ∧ Box w2 (g8 + 1 + 1) 30 [.int .i64 (pulls b1 k1).c, .int .i64 (pulls b1 k1).a] ∧ Box w2 (g8 + 1 + 1 + 1) 4 [.bool (decide (¬ (whose = 0 ∧ b1.length < k1)))] ∧ Box w2 (g8 + 1 + 1 + 1 + 1) 4 [.bool true]) ∨
         (whose = 1 ∧ b0.length < k0 ∧ Box w2 (g8 + 1) 3 [.int .i64 (-1)] ∧ Box w2 (g8 + 1 + 1 + 1) 4 [.bool false] ∧ Box w2 (g8 + 1 + 1 + 1 + 1) 4 [.bool false])) := by
      rcases hrel with ⟨x1, x2, x3, ⟨_, x4⟩ | ⟨x4, _⟩⟩ | ⟨x1, x2, x3, ⟨x4, _⟩ | ⟨_, x4⟩⟩
      · exact ⟨x1, x2, x3, .inl x4⟩
      · cases x4
      · cases x4
      · exact ⟨x1, x2, x3, .inr x4⟩
    have hk6 : Keeps [g8, g8 + 1, g8 + 1 + 1, g8 + 1 + 1 + 1, g8 + 1 + 1 + 1 + 1] w5 w6 := ⟨hb6.os.trans hk2.os, hb6.tape.trans hk2.tape, hb6.output.trans hk2.output, Nat.le_trans hk2.size hb6.size, fun j hj hn => (hb6.block j hj).trans (hk2.block j hj hn)⟩
    have b6 : Below w.heap.size w w6 := b5.trans (hk6.below (by intro j hj; simp only [List.mem_cons, List.not_mem_nil, or_false] at hj; omega) b5.size)
    have hk7 : Below w6.heap.size w6 (w6.alloc (.cells #[.int .i64 s2.c, .int .i64 s2.a] 30)) := (Below.refl _ _).alloc (Nat.le_refl _) _
    have b7 := below_then b6 hk7
    have a3 := (nv5.two.keeps hk6 (by simp only [List.mem_cons, List.not_mem_nil, or_false]; omega)).keep hk7
    have a4 := (nv5.takes.keeps hk6 (by simp only [List.mem_cons, List.not_mem_nil, or_false]; omega)).keep hk7
    have a5 := (nv5.whose_.keeps hk6 (by simp only [List.mem_cons, List.not_mem_nil, or_false]; omega)).keep hk7
    have a8 := (e8.below hb6 (by omega)).keep hk7
    have a14 := Box.new w6 30 [.int .i64 s2.c, .int .i64 s2.a]
    have c7 := hc6.keep hk7
    have q7 := hq6.keep hk7
    have hcase7 : (¬ (whose = 1 ∧ n0 < k0) ∧ Box (w6.alloc (.cells #[.int .i64 s2.c, .int .i64 s2.a] 30)) (g8 + 1) 3 [.int .i64 (pulls b1 k1).t] ∧ Box (w6.alloc (.cells #[.int .i64 s2.c, .int .i64 s2.a] 30)) (g8 + 1 + 1) 30 [.int .i64 (pulls b1 k1).c, .int .i64 (pulls b1 k1).a] ∧ Box (w6.alloc (.cells #[.int .i64 s2.c, .int .i64 s2.a] 30)) (g8 + 1 + 1 + 1) 4 [.bool (decide (¬ (whose = 0 ∧ n1 < k1)))] ∧ Box (w6.alloc (.cells #[.int .i64 s2.c, .int .i64 s2.a] 30)) (g8 + 1 + 1 + 1 + 1) 4 [.bool true]) ∨
         (whose = 1 ∧ n0 < k0 ∧ Box (w6.alloc (.cells #[.int .i64 s2.c, .int .i64 s2.a] 30)) (g8 + 1) 3 [.int .i64 (-1)] ∧ Box (w6.alloc (.cells #[.int .i64 s2.c, .int .i64 s2.a] 30)) (g8 + 1 + 1 + 1) 4 [.bool false] ∧ Box (w6.alloc (.cells #[.int .i64 s2.c, .int .i64 s2.a] 30)) (g8 + 1 + 1 + 1 + 1) 4 [.bool false]) := by
      rw [HL0.out, HL1.out] at hcase
      rcases hcase with ⟨x1, x2, x3, x4, x5⟩ | ⟨x1, x2, x3, x4, x5⟩
      · exact .inl ⟨x1, (x2.below hb6 (by omega)).keep hk7, (x3.below hb6 (by omega)).keep hk7, (x4.below hb6 (by omega)).keep hk7, (x5.below hb6 (by omega)).keep hk7⟩
      · exact .inr ⟨x1, x2, (x3.below hb6 (by omega)).keep hk7, (x4.below hb6 (by omega)).keep hk7, (x5.below hb6 (by omega)).keep hk7⟩
    have v8 : (w6.alloc (.cells #[.int .i64 s2.c, .int .i64 s2.a] 30)).cell? ⟨g8, 0, none⟩ = some (.pointer (some ⟨p1, 0, none⟩)) := a8.cell 0
    have HA := Lib.hid (And.intro a3 (And.intro a4 (And.intro a5 (And.intro a14 (And.intro c7 (And.intro q7 (And.intro b7 hcase7)))))))
    have HS2 := Lib.hid hs2
    clear hrel hk2 e8 hcase hk6 b6 hk7 b7 a3 a4 a5 a8 a14 c7 q7 hcase7 hs2 hb6 hc6 hq6 nv5 p8 p9 p10 p11 p12 HD HCD hmf b5
    go_wp2_with fail
    generalize hg14 : w6.heap.size = g14 at HA ⊢
    generalize w6.alloc (.cells #[.int .i64 s2.c, .int .i64 s2.a] 30) = w7 at HA v8 ⊢
    refine (must_over HA.out.2.2.2.2.1 HA.out.2.2.2.2.2.1).mono ?_
    rintro e wx ⟨rfl, rfl⟩
    obtain ⟨a3, a4, a5, a14, _, _, b7, hcase⟩ := HA.out
    have l14 : g14 < w7.heap.size := a14.lt
    have i30 : w7.cell? ⟨w.heap.size, 0, none⟩ = some (.slice A0 n0 c0) := a3.cell 0
    have i31 : w7.cell? ⟨w.heap.size, 1, none⟩ = some (.slice A1 n1 c1) := a3.cell 1
    have i40 : w7.cell? ⟨w.heap.size + 1, 0, none⟩ = some (.int .i64 k0) := a4.cell 0
    have i41 : w7.cell? ⟨w.heap.size + 1, 1, none⟩ = some (.int .i64 k1) := a4.cell 1
    have j30 : ∀ o, (w7.alloc o).cell? ⟨w.heap.size, 0, none⟩ = some (.slice A0 n0 c0) := fun o => (a3.alloc o).cell 0
    have j31 : ∀ o, (w7.alloc o).cell? ⟨w.heap.size, 1, none⟩ = some (.slice A1 n1 c1) := fun o => (a3.alloc o).cell 1
    have j41 : ∀ o, (w7.alloc o).cell? ⟨w.heap.size + 1, 1, none⟩ = some (.int .i64 k1) := fun o => (a4.alloc o).cell 1
    have j50 : ∀ o, (w7.alloc o).cell? ⟨w.heap.size + 1 + 1, 0, none⟩ = some (.int .i64 whose) := fun o => (a5.alloc o).cell 0
    have HB7 := Lib.hid b7
    clear HA v8 hg14 a3 a4 a5 b7
    rcases hcase with ⟨hns, x9, x10, x11, x12⟩ | ⟨hw1, hsh, x9, x11, x12⟩
    · by_cases hw0 : whose = 0
      · by_cases hsh : n0 < k0
        · by_cases hfe : n1 < k1
          · have u0 : (whose == 0) = true := by simp [hw0]
            have u1 : (whose == 1) = false := by simp; omega
            have u2 : (n0 : Int) < (k0 : Int) := by omega
            have u3 : (n1 : Int) < (k1 : Int) := by omega
            have u2' : n0 < k0 := by omega
            have u3' : n1 < k1 := by omega
            have ed : decide (¬ (whose = 0 ∧ n1 < k1)) = false := by simp [hw0, hfe]
            rw [ed] at x11
            have ei : pulls b1 k1 = ⟨b1, n1, 13, n1⟩ := by unfold pulls; rw [HL1.out]; rw [if_neg (by omega)]
            rw [ei] at x9 x10
            have k9 : ∀ o, (w7.alloc o).cell? ⟨g8 + 1, 0, none⟩ = some (.int .i64 (n1 : Nat)) := fun o => (x9.alloc o).cell 0
            have k10 : ∀ o, (w7.alloc o).cell? ⟨g8 + 1 + 1, 0, none⟩ = some (.int .i64 13) := fun o => (x10.alloc o).cell 0
            have k10' : ∀ o, (w7.alloc o).cell? ⟨g8 + 1 + 1, 1, none⟩ = some (.int .i64 (n1 : Nat)) := fun o => (x10.alloc o).cell 1
            have k11 : ∀ o, (w7.alloc o).cell? ⟨g8 + 1 + 1 + 1, 0, none⟩ = some (.bool false) := fun o => (x11.alloc o).cell 0
            have k12 : ∀ o, (w7.alloc o).cell? ⟨g8 + 1 + 1 + 1 + 1, 0, none⟩ = some (.bool true) := fun o => (x12.alloc o).cell 0
            have r1 : (((n1 : Nat) : Int) == ((n1 : Nat) : Int)) = true := by simp
            have r2 : (((n0 : Nat) : Int) != ((n0 : Nat) : Int)) = false := by simp
            clear x9 x10 x11 x12 ed ei hns hw0 hsh hfe
            have k14 : ∀ o, (w7.alloc o).cell? ⟨g14, 0, none⟩ = some (.int .i64 s2.c) := fun o => (a14.alloc o).cell 0
            have k15 : ∀ o, (w7.alloc o).cell? ⟨g14, 1, none⟩ = some (.int .i64 s2.a) := fun o => (a14.alloc o).cell 1
            have es : s2 = pulls b0 k0 := HS2.out
            have ep : pulls b0 k0 = ⟨b0, n0, 13, n0⟩ := by unfold pulls; rw [HL0.out]; rw [if_neg (by omega)]
            rw [ep] at es
            subst es
            simp only [] at k14 k15
            clear a14 ep HS2
            go_wp2_with fail
            refine (awake_calls _).mono ?_
            rintro e wz ⟨rfl, hbz⟩
            go_wp2
            go_ret
            exact ⟨rfl, below_then (below_then HB7.out ((Below.refl _ _).alloc (Nat.le_refl _) _)) hbz⟩
          · have u0 : (whose == 0) = true := by simp [hw0]
            have u1 : (whose == 1) = false := by simp; omega
            have u2 : (n0 : Int) < (k0 : Int) := by omega
            have u3 : ¬ (n1 : Int) < (k1 : Int) := by omega
            have u2' : n0 < k0 := by omega
            have u3' : ¬ n1 < k1 := by omega
            have ed : decide (¬ (whose = 0 ∧ n1 < k1)) = true := by simp; omega
            rw [ed] at x11
            have ei : pulls b1 k1 = ⟨b1, k1, 0, 0⟩ := by unfold pulls; rw [HL1.out]; rw [if_pos (by omega)]
            rw [ei] at x9 x10
            have k9 : ∀ o, (w7.alloc o).cell? ⟨g8 + 1, 0, none⟩ = some (.int .i64 (k1 : Nat)) := fun o => (x9.alloc o).cell 0
            have k10 : ∀ o, (w7.alloc o).cell? ⟨g8 + 1 + 1, 0, none⟩ = some (.int .i64 0) := fun o => (x10.alloc o).cell 0
            have k10' : ∀ o, (w7.alloc o).cell? ⟨g8 + 1 + 1, 1, none⟩ = some (.int .i64 0) := fun o => (x10.alloc o).cell 1
            have k11 : ∀ o, (w7.alloc o).cell? ⟨g8 + 1 + 1 + 1, 0, none⟩ = some (.bool true) := fun o => (x11.alloc o).cell 0
            have k12 : ∀ o, (w7.alloc o).cell? ⟨g8 + 1 + 1 + 1 + 1, 0, none⟩ = some (.bool true) := fun o => (x12.alloc o).cell 0
            have r1 : (((k1 : Nat) : Int) == ((k1 : Nat) : Int)) = true := by simp
            have r2 : (((n0 : Nat) : Int) != ((n0 : Nat) : Int)) = false := by simp
            clear x9 x10 x11 x12 ed ei hns hw0 hsh hfe
            have k14 : ∀ o, (w7.alloc o).cell? ⟨g14, 0, none⟩ = some (.int .i64 s2.c) := fun o => (a14.alloc o).cell 0
            have k15 : ∀ o, (w7.alloc o).cell? ⟨g14, 1, none⟩ = some (.int .i64 s2.a) := fun o => (a14.alloc o).cell 1
            have es : s2 = pulls b0 k0 := HS2.out
            have ep : pulls b0 k0 = ⟨b0, n0, 13, n0⟩ := by unfold pulls; rw [HL0.out]; rw [if_neg (by omega)]
            rw [ep] at es
            subst es
            simp only [] at k14 k15
            clear a14 ep HS2
            go_wp2_with fail
            refine (awake_calls _).mono ?_
            rintro e wz ⟨rfl, hbz⟩
            go_wp2
            go_ret
            exact ⟨rfl, below_then (below_then HB7.out ((Below.refl _ _).alloc (Nat.le_refl _) _)) hbz⟩
        · by_cases hfe : n1 < k1
          · have u0 : (whose == 0) = true := by simp [hw0]
            have u1 : (whose == 1) = false := by simp; omega
            have u2 : ¬ (n0 : Int) < (k0 : Int) := by omega
            have u3 : (n1 : Int) < (k1 : Int) := by omega
            have u2' : ¬ n0 < k0 := by omega
            have u3' : n1 < k1 := by omega
            have ed : decide (¬ (whose = 0 ∧ n1 < k1)) = false := by simp [hw0, hfe]
            rw [ed] at x11
            have ei : pulls b1 k1 = ⟨b1, n1, 13, n1⟩ := by unfold pulls; rw [HL1.out]; rw [if_neg (by omega)]
            rw [ei] at x9 x10
            have k9 : ∀ o, (w7.alloc o).cell? ⟨g8 + 1, 0, none⟩ = some (.int .i64 (n1 : Nat)) := fun o => (x9.alloc o).cell 0
            have k10 : ∀ o, (w7.alloc o).cell? ⟨g8 + 1 + 1, 0, none⟩ = some (.int .i64 13) := fun o => (x10.alloc o).cell 0
            have k10' : ∀ o, (w7.alloc o).cell? ⟨g8 + 1 + 1, 1, none⟩ = some (.int .i64 (n1 : Nat)) := fun o => (x10.alloc o).cell 1
            have k11 : ∀ o, (w7.alloc o).cell? ⟨g8 + 1 + 1 + 1, 0, none⟩ = some (.bool false) := fun o => (x11.alloc o).cell 0
            have k12 : ∀ o, (w7.alloc o).cell? ⟨g8 + 1 + 1 + 1 + 1, 0, none⟩ = some (.bool true) := fun o => (x12.alloc o).cell 0
            have r1 : (((n1 : Nat) : Int) == ((n1 : Nat) : Int)) = true := by simp
            have r2 : (((k0 : Nat) : Int) != ((k0 : Nat) : Int)) = false := by simp
            clear x9 x10 x11 x12 ed ei hns hw0 hsh hfe
            have k14 : ∀ o, (w7.alloc o).cell? ⟨g14, 0, none⟩ = some (.int .i64 s2.c) := fun o => (a14.alloc o).cell 0
            have k15 : ∀ o, (w7.alloc o).cell? ⟨g14, 1, none⟩ = some (.int .i64 s2.a) := fun o => (a14.alloc o).cell 1
            have es : s2 = pulls b0 k0 := HS2.out
            have ep : pulls b0 k0 = ⟨b0, k0, 0, 0⟩ := by unfold pulls; rw [HL0.out]; rw [if_pos (by omega)]
            rw [ep] at es
            subst es
            simp only [] at k14 k15
            clear a14 ep HS2
            go_wp2_with fail
            refine (awake_calls _).mono ?_
            rintro e wz ⟨rfl, hbz⟩
            go_wp2
            go_ret
            exact ⟨rfl, below_then (below_then HB7.out ((Below.refl _ _).alloc (Nat.le_refl _) _)) hbz⟩
          · have u0 : (whose == 0) = true := by simp [hw0]
            have u1 : (whose == 1) = false := by simp; omega
            have u2 : ¬ (n0 : Int) < (k0 : Int) := by omega
            have u3 : ¬ (n1 : Int) < (k1 : Int) := by omega
            have u2' : ¬ n0 < k0 := by omega
            have u3' : ¬ n1 < k1 := by omega
            have ed : decide (¬ (whose = 0 ∧ n1 < k1)) = true := by simp; omega
            rw [ed] at x11
            have ei : pulls b1 k1 = ⟨b1, k1, 0, 0⟩ := by unfold pulls; rw [HL1.out]; rw [if_pos (by omega)]
            rw [ei] at x9 x10
            have k9 : ∀ o, (w7.alloc o).cell? ⟨g8 + 1, 0, none⟩ = some (.int .i64 (k1 : Nat)) := fun o => (x9.alloc o).cell 0
            have k10 : ∀ o, (w7.alloc o).cell? ⟨g8 + 1 + 1, 0, none⟩ = some (.int .i64 0) := fun o => (x10.alloc o).cell 0
            have k10' : ∀ o, (w7.alloc o).cell? ⟨g8 + 1 + 1, 1, none⟩ = some (.int .i64 0) := fun o => (x10.alloc o).cell 1
            have k11 : ∀ o, (w7.alloc o).cell? ⟨g8 + 1 + 1 + 1, 0, none⟩ = some (.bool true) := fun o => (x11.alloc o).cell 0
            have k12 : ∀ o, (w7.alloc o).cell? ⟨g8 + 1 + 1 + 1 + 1, 0, none⟩ = some (.bool true) := fun o => (x12.alloc o).cell 0
            have r1 : (((k1 : Nat) : Int) == ((k1 : Nat) : Int)) = true := by simp
            have r2 : (((k0 : Nat) : Int) != ((k0 : Nat) : Int)) = false := by simp
            clear x9 x10 x11 x12 ed ei hns hw0 hsh hfe
            have k14 : ∀ o, (w7.alloc o).cell? ⟨g14, 0, none⟩ = some (.int .i64 s2.c) := fun o => (a14.alloc o).cell 0
            have k15 : ∀ o, (w7.alloc o).cell? ⟨g14, 1, none⟩ = some (.int .i64 s2.a) := fun o => (a14.alloc o).cell 1
            have es : s2 = pulls b0 k0 := HS2.out
            have ep : pulls b0 k0 = ⟨b0, k0, 0, 0⟩ := by unfold pulls; rw [HL0.out]; rw [if_pos (by omega)]
            rw [ep] at es
            subst es
            simp only [] at k14 k15
            clear a14 ep HS2
            go_wp2_with fail
            refine (awake_calls _).mono ?_
            rintro e wz ⟨rfl, hbz⟩
            go_wp2
            go_ret
            exact ⟨rfl, below_then (below_then HB7.out ((Below.refl _ _).alloc (Nat.le_refl _) _)) hbz⟩
      · by_cases hw1 : whose = 1
        · by_cases hsh : n0 < k0
          · exact absurd ⟨hw1, hsh⟩ hns
          · by_cases hfe : n1 < k1
            · have u0 : (whose == 0) = false := by simp; omega
              have u1 : (whose == 1) = true := by simp [hw1]
              have u2 : ¬ (n0 : Int) < (k0 : Int) := by omega
              have u3 : (n1 : Int) < (k1 : Int) := by omega
              have u2' : ¬ n0 < k0 := by omega
              have u3' : n1 < k1 := by omega
              have ed : decide (¬ (whose = 0 ∧ n1 < k1)) = true := by simp; omega
              rw [ed] at x11
              have ei : pulls b1 k1 = ⟨b1, n1, 13, n1⟩ := by unfold pulls; rw [HL1.out]; rw [if_neg (by omega)]
              rw [ei] at x9 x10
              have k9 : ∀ o, (w7.alloc o).cell? ⟨g8 + 1, 0, none⟩ = some (.int .i64 (n1 : Nat)) := fun o => (x9.alloc o).cell 0
              have k10 : ∀ o, (w7.alloc o).cell? ⟨g8 + 1 + 1, 0, none⟩ = some (.int .i64 13) := fun o => (x10.alloc o).cell 0
              have k10' : ∀ o, (w7.alloc o).cell? ⟨g8 + 1 + 1, 1, none⟩ = some (.int .i64 (n1 : Nat)) := fun o => (x10.alloc o).cell 1
              have k11 : ∀ o, (w7.alloc o).cell? ⟨g8 + 1 + 1 + 1, 0, none⟩ = some (.bool true) := fun o => (x11.alloc o).cell 0
              have k12 : ∀ o, (w7.alloc o).cell? ⟨g8 + 1 + 1 + 1 + 1, 0, none⟩ = some (.bool true) := fun o => (x12.alloc o).cell 0
              have r1 : (((n1 : Nat) : Int) == ((n1 : Nat) : Int)) = true := by simp
              have r2 : (((k0 : Nat) : Int) != ((k0 : Nat) : Int)) = false := by simp
              clear x9 x10 x11 x12 ed ei hns hw0 hsh hfe hw1
              have k14 : ∀ o, (w7.alloc o).cell? ⟨g14, 0, none⟩ = some (.int .i64 s2.c) := fun o => (a14.alloc o).cell 0
              have k15 : ∀ o, (w7.alloc o).cell? ⟨g14, 1, none⟩ = some (.int .i64 s2.a) := fun o => (a14.alloc o).cell 1
              have es : s2 = pulls b0 k0 := HS2.out
              have ep : pulls b0 k0 = ⟨b0, k0, 0, 0⟩ := by unfold pulls; rw [HL0.out]; rw [if_pos (by omega)]
              rw [ep] at es
              subst es
              simp only [] at k14 k15
              clear a14 ep HS2
              go_wp2_with fail
              refine (awake_calls _).mono ?_
              rintro e wz ⟨rfl, hbz⟩
              go_wp2
              go_ret
              exact ⟨rfl, below_then (below_then HB7.out ((Below.refl _ _).alloc (Nat.le_refl _) _)) hbz⟩
            · have u0 : (whose == 0) = false := by simp; omega
              have u1 : (whose == 1) = true := by simp [hw1]
              have u2 : ¬ (n0 : Int) < (k0 : Int) := by omega
              have u3 : ¬ (n1 : Int) < (k1 : Int) := by omega
              have u2' : ¬ n0 < k0 := by omega
              have u3' : ¬ n1 < k1 := by omega
              have ed : decide (¬ (whose = 0 ∧ n1 < k1)) = true := by simp; omega
              rw [ed] at x11
              have ei : pulls b1 k1 = ⟨b1, k1, 0, 0⟩ := by unfold pulls; rw [HL1.out]; rw [if_pos (by omega)]
              rw [ei] at x9 x10
              have k9 : ∀ o, (w7.alloc o).cell? ⟨g8 + 1, 0, none⟩ = some (.int .i64 (k1 : Nat)) := fun o => (x9.alloc o).cell 0
              have k10 : ∀ o, (w7.alloc o).cell? ⟨g8 + 1 + 1, 0, none⟩ = some (.int .i64 0) := fun o => (x10.alloc o).cell 0
              have k10' : ∀ o, (w7.alloc o).cell? ⟨g8 + 1 + 1, 1, none⟩ = some (.int .i64 0) := fun o => (x10.alloc o).cell 1
              have k11 : ∀ o, (w7.alloc o).cell? ⟨g8 + 1 + 1 + 1, 0, none⟩ = some (.bool true) := fun o => (x11.alloc o).cell 0
              have k12 : ∀ o, (w7.alloc o).cell? ⟨g8 + 1 + 1 + 1 + 1, 0, none⟩ = some (.bool true) := fun o => (x12.alloc o).cell 0
              have r1 : (((k1 : Nat) : Int) == ((k1 : Nat) : Int)) = true := by simp
              have r2 : (((k0 : Nat) : Int) != ((k0 : Nat) : Int)) = false := by simp
              clear x9 x10 x11 x12 ed ei hns hw0 hsh hfe hw1
              have k14 : ∀ o, (w7.alloc o).cell? ⟨g14, 0, none⟩ = some (.int .i64 s2.c) := fun o => (a14.alloc o).cell 0
              have k15 : ∀ o, (w7.alloc o).cell? ⟨g14, 1, none⟩ = some (.int .i64 s2.a) := fun o => (a14.alloc o).cell 1
              have es : s2 = pulls b0 k0 := HS2.out
              have ep : pulls b0 k0 = ⟨b0, k0, 0, 0⟩ := by unfold pulls; rw [HL0.out]; rw [if_pos (by omega)]
              rw [ep] at es
              subst es
              simp only [] at k14 k15
              clear a14 ep HS2
              go_wp2_with fail
              refine (awake_calls _).mono ?_
              rintro e wz ⟨rfl, hbz⟩
              go_wp2
              go_ret
              exact ⟨rfl, below_then (below_then HB7.out ((Below.refl _ _).alloc (Nat.le_refl _) _)) hbz⟩
        · by_cases hsh : n0 < k0
          · by_cases hfe : n1 < k1
            · have u0 : (whose == 0) = false := by simp [hw0]
              have u1 : (whose == 1) = false := by simp [hw1]
              have u2 : (n0 : Int) < (k0 : Int) := by omega
              have u3 : (n1 : Int) < (k1 : Int) := by omega
              have u2' : n0 < k0 := by omega
              have u3' : n1 < k1 := by omega
              have ed : decide (¬ (whose = 0 ∧ n1 < k1)) = true := by simp; omega
              rw [ed] at x11
              have ei : pulls b1 k1 = ⟨b1, n1, 13, n1⟩ := by unfold pulls; rw [HL1.out]; rw [if_neg (by omega)]
              rw [ei] at x9 x10
              have k9 : ∀ o, (w7.alloc o).cell? ⟨g8 + 1, 0, none⟩ = some (.int .i64 (n1 : Nat)) := fun o => (x9.alloc o).cell 0
              have k10 : ∀ o, (w7.alloc o).cell? ⟨g8 + 1 + 1, 0, none⟩ = some (.int .i64 13) := fun o => (x10.alloc o).cell 0
              have k10' : ∀ o, (w7.alloc o).cell? ⟨g8 + 1 + 1, 1, none⟩ = some (.int .i64 (n1 : Nat)) := fun o => (x10.alloc o).cell 1
              have k11 : ∀ o, (w7.alloc o).cell? ⟨g8 + 1 + 1 + 1, 0, none⟩ = some (.bool true) := fun o => (x11.alloc o).cell 0
              have k12 : ∀ o, (w7.alloc o).cell? ⟨g8 + 1 + 1 + 1 + 1, 0, none⟩ = some (.bool true) := fun o => (x12.alloc o).cell 0
              have r1 : (((n1 : Nat) : Int) == ((n1 : Nat) : Int)) = true := by simp
              have r2 : (((n0 : Nat) : Int) != ((n0 : Nat) : Int)) = false := by simp
              clear x9 x10 x11 x12 ed ei hns hw0 hsh hfe hw1
              have k14 : ∀ o, (w7.alloc o).cell? ⟨g14, 0, none⟩ = some (.int .i64 s2.c) := fun o => (a14.alloc o).cell 0
              have k15 : ∀ o, (w7.alloc o).cell? ⟨g14, 1, none⟩ = some (.int .i64 s2.a) := fun o => (a14.alloc o).cell 1
              have es : s2 = pulls b0 k0 := HS2.out
              have ep : pulls b0 k0 = ⟨b0, n0, 13, n0⟩ := by unfold pulls; rw [HL0.out]; rw [if_neg (by omega)]
              rw [ep] at es
              subst es
              simp only [] at k14 k15
              clear a14 ep HS2
              go_wp2_with fail
              refine (awake_calls _).mono ?_
              rintro e wz ⟨rfl, hbz⟩
              go_wp2
              go_ret
              exact ⟨rfl, below_then (below_then HB7.out ((Below.refl _ _).alloc (Nat.le_refl _) _)) hbz⟩
            · have u0 : (whose == 0) = false := by simp [hw0]
              have u1 : (whose == 1) = false := by simp [hw1]
              have u2 : (n0 : Int) < (k0 : Int) := by omega
              have u3 : ¬ (n1 : Int) < (k1 : Int) := by omega
              have u2' : n0 < k0 := by omega
              have u3' : ¬ n1 < k1 := by omega
              have ed : decide (¬ (whose = 0 ∧ n1 < k1)) = true := by simp; omega
              rw [ed] at x11
              have ei : pulls b1 k1 = ⟨b1, k1, 0, 0⟩ := by unfold pulls; rw [HL1.out]; rw [if_pos (by omega)]
              rw [ei] at x9 x10
              have k9 : ∀ o, (w7.alloc o).cell? ⟨g8 + 1, 0, none⟩ = some (.int .i64 (k1 : Nat)) := fun o => (x9.alloc o).cell 0
              have k10 : ∀ o, (w7.alloc o).cell? ⟨g8 + 1 + 1, 0, none⟩ = some (.int .i64 0) := fun o => (x10.alloc o).cell 0
              have k10' : ∀ o, (w7.alloc o).cell? ⟨g8 + 1 + 1, 1, none⟩ = some (.int .i64 0) := fun o => (x10.alloc o).cell 1
              have k11 : ∀ o, (w7.alloc o).cell? ⟨g8 + 1 + 1 + 1, 0, none⟩ = some (.bool true) := fun o => (x11.alloc o).cell 0
              have k12 : ∀ o, (w7.alloc o).cell? ⟨g8 + 1 + 1 + 1 + 1, 0, none⟩ = some (.bool true) := fun o => (x12.alloc o).cell 0
              have r1 : (((k1 : Nat) : Int) == ((k1 : Nat) : Int)) = true := by simp
              have r2 : (((n0 : Nat) : Int) != ((n0 : Nat) : Int)) = false := by simp
              clear x9 x10 x11 x12 ed ei hns hw0 hsh hfe hw1
              have k14 : ∀ o, (w7.alloc o).cell? ⟨g14, 0, none⟩ = some (.int .i64 s2.c) := fun o => (a14.alloc o).cell 0
              have k15 : ∀ o, (w7.alloc o).cell? ⟨g14, 1, none⟩ = some (.int .i64 s2.a) := fun o => (a14.alloc o).cell 1
              have es : s2 = pulls b0 k0 := HS2.out
              have ep : pulls b0 k0 = ⟨b0, n0, 13, n0⟩ := by unfold pulls; rw [HL0.out]; rw [if_neg (by omega)]
              rw [ep] at es
              subst es
              simp only [] at k14 k15
              clear a14 ep HS2
              go_wp2_with fail
              refine (awake_calls _).mono ?_
              rintro e wz ⟨rfl, hbz⟩
              go_wp2
              go_ret
              exact ⟨rfl, below_then (below_then HB7.out ((Below.refl _ _).alloc (Nat.le_refl _) _)) hbz⟩
          · by_cases hfe : n1 < k1
            · have u0 : (whose == 0) = false := by simp [hw0]
              have u1 : (whose == 1) = false := by simp [hw1]
              have u2 : ¬ (n0 : Int) < (k0 : Int) := by omega
              have u3 : (n1 : Int) < (k1 : Int) := by omega
              have u2' : ¬ n0 < k0 := by omega
              have u3' : n1 < k1 := by omega
              have ed : decide (¬ (whose = 0 ∧ n1 < k1)) = true := by simp; omega
              rw [ed] at x11
              have ei : pulls b1 k1 = ⟨b1, n1, 13, n1⟩ := by unfold pulls; rw [HL1.out]; rw [if_neg (by omega)]
              rw [ei] at x9 x10
              have k9 : ∀ o, (w7.alloc o).cell? ⟨g8 + 1, 0, none⟩ = some (.int .i64 (n1 : Nat)) := fun o => (x9.alloc o).cell 0
              have k10 : ∀ o, (w7.alloc o).cell? ⟨g8 + 1 + 1, 0, none⟩ = some (.int .i64 13) := fun o => (x10.alloc o).cell 0
              have k10' : ∀ o, (w7.alloc o).cell? ⟨g8 + 1 + 1, 1, none⟩ = some (.int .i64 (n1 : Nat)) := fun o => (x10.alloc o).cell 1
              have k11 : ∀ o, (w7.alloc o).cell? ⟨g8 + 1 + 1 + 1, 0, none⟩ = some (.bool true) := fun o => (x11.alloc o).cell 0
              have k12 : ∀ o, (w7.alloc o).cell? ⟨g8 + 1 + 1 + 1 + 1, 0, none⟩ = some (.bool true) := fun o => (x12.alloc o).cell 0
              have r1 : (((n1 : Nat) : Int) == ((n1 : Nat) : Int)) = true := by simp
              have r2 : (((k0 : Nat) : Int) != ((k0 : Nat) : Int)) = false := by simp
              clear x9 x10 x11 x12 ed ei hns hw0 hsh hfe hw1
              have k14 : ∀ o, (w7.alloc o).cell? ⟨g14, 0, none⟩ = some (.int .i64 s2.c) := fun o => (a14.alloc o).cell 0
              have k15 : ∀ o, (w7.alloc o).cell? ⟨g14, 1, none⟩ = some (.int .i64 s2.a) := fun o => (a14.alloc o).cell 1
              have es : s2 = pulls b0 k0 := HS2.out
              have ep : pulls b0 k0 = ⟨b0, k0, 0, 0⟩ := by unfold pulls; rw [HL0.out]; rw [if_pos (by omega)]
              rw [ep] at es
              subst es
              simp only [] at k14 k15
              clear a14 ep HS2
              go_wp2_with fail
              refine (awake_calls _).mono ?_
              rintro e wz ⟨rfl, hbz⟩
              go_wp2
              go_ret
              exact ⟨rfl, below_then (below_then HB7.out ((Below.refl _ _).alloc (Nat.le_refl _) _)) hbz⟩
            · have u0 : (whose == 0) = false := by simp [hw0]
              have u1 : (whose == 1) = false := by simp [hw1]
              have u2 : ¬ (n0 : Int) < (k0 : Int) := by omega
              have u3 : ¬ (n1 : Int) < (k1 : Int) := by omega
              have u2' : ¬ n0 < k0 := by omega
              have u3' : ¬ n1 < k1 := by omega
              have ed : decide (¬ (whose = 0 ∧ n1 < k1)) = true := by simp; omega
              rw [ed] at x11
              have ei : pulls b1 k1 = ⟨b1, k1, 0, 0⟩ := by unfold pulls; rw [HL1.out]; rw [if_pos (by omega)]
              rw [ei] at x9 x10
              have k9 : ∀ o, (w7.alloc o).cell? ⟨g8 + 1, 0, none⟩ = some (.int .i64 (k1 : Nat)) := fun o => (x9.alloc o).cell 0
              have k10 : ∀ o, (w7.alloc o).cell? ⟨g8 + 1 + 1, 0, none⟩ = some (.int .i64 0) := fun o => (x10.alloc o).cell 0
              have k10' : ∀ o, (w7.alloc o).cell? ⟨g8 + 1 + 1, 1, none⟩ = some (.int .i64 0) := fun o => (x10.alloc o).cell 1
              have k11 : ∀ o, (w7.alloc o).cell? ⟨g8 + 1 + 1 + 1, 0, none⟩ = some (.bool true) := fun o => (x11.alloc o).cell 0
              have k12 : ∀ o, (w7.alloc o).cell? ⟨g8 + 1 + 1 + 1 + 1, 0, none⟩ = some (.bool true) := fun o => (x12.alloc o).cell 0
              have r1 : (((k1 : Nat) : Int) == ((k1 : Nat) : Int)) = true := by simp
              have r2 : (((k0 : Nat) : Int) != ((k0 : Nat) : Int)) = false := by simp
              clear x9 x10 x11 x12 ed ei hns hw0 hsh hfe hw1
              have k14 : ∀ o, (w7.alloc o).cell? ⟨g14, 0, none⟩ = some (.int .i64 s2.c) := fun o => (a14.alloc o).cell 0
              have k15 : ∀ o, (w7.alloc o).cell? ⟨g14, 1, none⟩ = some (.int .i64 s2.a) := fun o => (a14.alloc o).cell 1
              have es : s2 = pulls b0 k0 := HS2.out
              have ep : pulls b0 k0 = ⟨b0, k0, 0, 0⟩ := by unfold pulls; rw [HL0.out]; rw [if_pos (by omega)]
              rw [ep] at es
              subst es
              simp only [] at k14 k15
              clear a14 ep HS2
              go_wp2_with fail
              refine (awake_calls _).mono ?_
              rintro e wz ⟨rfl, hbz⟩
              go_wp2
              go_ret
              exact ⟨rfl, below_then (below_then HB7.out ((Below.refl _ _).alloc (Nat.le_refl _) _)) hbz⟩
    · by_cases hfe : n1 < k1
      · have u0 : (whose == 0) = false := by simp; omega
        have u1 : (whose == 1) = true := by simp [hw1]
        have u2 : (n0 : Int) < (k0 : Int) := by omega
        have u2' : n0 < k0 := by omega
        have u3 : (n1 : Int) < (k1 : Int) := by omega
        have u3' : n1 < k1 := by omega
        have k9 : ∀ o, (w7.alloc o).cell? ⟨g8 + 1, 0, none⟩ = some (.int .i64 (-1)) := fun o => (x9.alloc o).cell 0
        have k11 : ∀ o, (w7.alloc o).cell? ⟨g8 + 1 + 1 + 1, 0, none⟩ = some (.bool false) := fun o => (x11.alloc o).cell 0
        have k12 : ∀ o, (w7.alloc o).cell? ⟨g8 + 1 + 1 + 1 + 1, 0, none⟩ = some (.bool false) := fun o => (x12.alloc o).cell 0
        have r2 : ((n0 : Int) != (n0 : Int)) = false := by simp
        clear x9 x11 x12 hw1 hsh hfe
        have k14 : ∀ o, (w7.alloc o).cell? ⟨g14, 0, none⟩ = some (.int .i64 s2.c) := fun o => (a14.alloc o).cell 0
        have k15 : ∀ o, (w7.alloc o).cell? ⟨g14, 1, none⟩ = some (.int .i64 s2.a) := fun o => (a14.alloc o).cell 1
        have es : s2 = pulls b0 k0 := HS2.out
        have ep : pulls b0 k0 = ⟨b0, n0, 13, n0⟩ := by unfold pulls; rw [HL0.out]; rw [if_neg (by omega)]
        rw [ep] at es
        subst es
        simp only [] at k14 k15
        clear a14 ep HS2
        go_wp2_with fail
        refine (awake_calls _).mono ?_
        rintro e wz ⟨rfl, hbz⟩
        go_wp2
        go_ret
        exact ⟨rfl, below_then (below_then HB7.out ((Below.refl _ _).alloc (Nat.le_refl _) _)) hbz⟩
      · have u0 : (whose == 0) = false := by simp; omega
        have u1 : (whose == 1) = true := by simp [hw1]
        have u2 : (n0 : Int) < (k0 : Int) := by omega
        have u2' : n0 < k0 := by omega
        have u3 : ¬ (n1 : Int) < (k1 : Int) := by omega
        have u3' : ¬ n1 < k1 := by omega
        have k9 : ∀ o, (w7.alloc o).cell? ⟨g8 + 1, 0, none⟩ = some (.int .i64 (-1)) := fun o => (x9.alloc o).cell 0
        have k11 : ∀ o, (w7.alloc o).cell? ⟨g8 + 1 + 1 + 1, 0, none⟩ = some (.bool false) := fun o => (x11.alloc o).cell 0
        have k12 : ∀ o, (w7.alloc o).cell? ⟨g8 + 1 + 1 + 1 + 1, 0, none⟩ = some (.bool false) := fun o => (x12.alloc o).cell 0
        have r2 : ((n0 : Int) != (n0 : Int)) = false := by simp
        clear x9 x11 x12 hw1 hsh hfe
        have k14 : ∀ o, (w7.alloc o).cell? ⟨g14, 0, none⟩ = some (.int .i64 s2.c) := fun o => (a14.alloc o).cell 0
        have k15 : ∀ o, (w7.alloc o).cell? ⟨g14, 1, none⟩ = some (.int .i64 s2.a) := fun o => (a14.alloc o).cell 1
        have es : s2 = pulls b0 k0 := HS2.out
        have ep : pulls b0 k0 = ⟨b0, n0, 13, n0⟩ := by unfold pulls; rw [HL0.out]; rw [if_neg (by omega)]
        rw [ep] at es
        subst es
        simp only [] at k14 k15
        clear a14 ep HS2
        go_wp2_with fail
        refine (awake_calls _).mono ?_
        rintro e wz ⟨rfl, hbz⟩
        go_wp2
        go_ret
        exact ⟨rfl, below_then (below_then HB7.out ((Below.refl _ _).alloc (Nat.le_refl _) _)) hbz⟩
  · cases h1
  · injection h1 with h1
    exact absurd h1 hne
end Go.Proofs.Ytiipkmfkelbpiaa
