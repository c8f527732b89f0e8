/-
  The contract of the outer read of CurNests. No statement of the seat is proved here.
-/
import Derived.Test.YtiipkmfkelbpiaaNestsInner
namespace Go.Proofs.Ytiipkmfkelbpiaa
open Go.RowKit

/-- How the inner Try ends, held against the world in which it began. -/
def IRel' (wB : World) (q1 g11 : Nat) (b1 : List Int) (k1 : Nat) (whose : Int) (s1 : St) (q2 : Nat) (r : Option Nat) (s2 : St) (w2 : World) : Prop :=
  s2 = pulls b1 k1 ∧ Keeps [g11] wB w2 ∧
  ((r = none ∧ Box w2 g11 4 [.bool true] ∧ ¬ (whose = 1 ∧ s1.c ≠ 0) ∧ ¬ (whose = 0 ∧ b1.length < k1)) ∨
   (r = some q2 ∧ Box w2 g11 4 [.bool false] ∧ whose = 0 ∧ b1.length < k1) ∨
   (r = some q1 ∧ Box w2 g11 4 [.bool false] ∧ whose = 1 ∧ s1.c ≠ 0))

/-- The variables that the reads only look at. -/
structure NVars (w : World) (g3 g4 g5 g7 po : Nat) (Ro A0 A1 : Option Addr) (n0 c0 n1 c1 k0 k1 : Nat) (whose : Int) (so : St) : Prop where
  two : Box w g3 58 [.slice A0 n0 c0, .slice A1 n1 c1]
  takes : Box w g4 59 [.int .i64 k0, .int .i64 k1]
  whose_ : Box w g5 3 [.int .i64 whose]
  other : Box w g7 25 [.pointer (some ⟨po, 0, none⟩)]
  cur : CurOk Ro w po so none

/-- How the outer read ends. -/
def ORel (w1 : World) (p1 g8 g9 g10 g11 g12 : Nat) (b0 b1 : List Int) (k0 k1 : Nat) (whose : Int) (q1 : Nat) (r : Option Nat) (s : St) (w2 : World) : Prop :=
  s = pulls b0 k0 ∧ Keeps [p1, g8, g9, g10, g11, g12] w1 w2 ∧ Box w2 g8 25 [.pointer (some ⟨p1, 0, none⟩)] ∧
  ((r = none ∧ ¬ (whose = 1 ∧ b0.length < k0) ∧ Box w2 g9 3 [.int .i64 (pulls b1 k1).t] ∧ Box w2 g10 30 [.int .i64 (pulls b1 k1).c, .int .i64 (pulls b1 k1).a] ∧ Box w2 g11 4 [.bool (decide (¬ (whose = 0 ∧ b1.length < k1)))] ∧ Box w2 g12 4 [.bool true]) ∨
   (r = some q1 ∧ whose = 1 ∧ b0.length < k0 ∧ Box w2 g9 3 [.int .i64 (-1)] ∧ Box w2 g11 4 [.bool false] ∧ Box w2 g12 4 [.bool false]))

set_option maxRecDepth 100000 in
set_option maxHeartbeats 4000000 in
theorem outer_read (W w1 : World) (R1 Ro A0 A1 : Option Addr) (lo p1 q1 po g3 g4 g5 g7 g8 g9 g10 g11 g12 : Nat) (b0 b1 : List Int) (n0 c0 n1 c1 k0 k1 : Nat) (whose : Int) (so : St)
    (hlo : lo ≤ p1) (hB : W.heap.size ≤ g3) (o34 : g3 < g4) (o45 : g4 < g5) (o57 : g5 < po ∧ po < g7) (o78 : g7 < g8) (o89 : g8 < g9) (o90 : g9 < g10) (o01 : g10 < g11) (o12 : g11 < g12) (o2l : g12 < lo)
    (h1 : CurOk R1 w1 p1 (.start b0) (some ⟨q1, 0, none⟩)) (hq1 : Box w1 q1 68 [.pointer (some ⟨p1, 0, none⟩)])
    (hv : NVars w1 g3 g4 g5 g7 po Ro A0 A1 n0 c0 n1 c1 k0 k1 whose so)
    (b8 : Box w1 g8 25 [.pointer none]) (b9 : Box w1 g9 3 [.int .i64 (-1)]) (b10 : Box w1 g10 30 [.int .i64 0, .int .i64 0]) (b11 : Box w1 g11 4 [.bool false]) (b12 : Box w1 g12 4 [.bool false])
    (hbw : Below W.heap.size W w1) (hl1 : b1.length = n1) (hv1 : Lies W A1 (by8 b1)) (hs1 : ∀ z ∈ b1, 0 ≤ z ∧ z < 256) (hn1 : A1 = none → c1 = 0) (hf1 : n1 ≤ 100) (hk0 : k0 ≤ 120) (hk1 : k1 ≤ 120) :
    Calls Try.prog 25 #[.pointer (some ⟨p1, 0, none⟩), .pointer (some ⟨g8, 0, none⟩), .pointer (some ⟨g4, 0, none⟩), .pointer (some ⟨g3, 0, none⟩), .pointer (some ⟨g5, 0, none⟩), .pointer (some ⟨g7, 0, none⟩), .pointer (some ⟨g11, 0, none⟩), .pointer (some ⟨g9, 0, none⟩), .pointer (some ⟨g10, 0, none⟩), .pointer (some ⟨g12, 0, none⟩)] w1
      (ReadOk lo p1 w1 (fun r w2 => ∃ s2, CurOk R1 w2 p1 s2 (some ⟨q1, 0, none⟩) ∧ ORel w1 p1 g8 g9 g10 g11 g12 b0 b1 k0 k1 whose q1 r s2 w2)) := by
  have hplt := h1.lt
  have hqp : q1 ≠ p1 := by
    obtain ⟨A', cap', g1, _⟩ := h1.is_
    exact hq1.ne g1 (by decide)
  have hq8 : q1 ≠ g8 := hq1.ne b8 (by decide)
  have z8 : w1.cell? ⟨g8, 0, none⟩ = some (.pointer none) := b8.cell 0
  have f8 := b8.frozen 0
  have hb8 : But g8 w1 (w1.setCell ⟨g8, 0, none⟩ (.pointer (some ⟨p1, 0, none⟩))) := (But.refl _ _).set 0 _
  have hsz8 : (w1.setCell ⟨g8, 0, none⟩ (.pointer (some ⟨p1, 0, none⟩))).heap.size = w1.heap.size := by simp [World.setCell]
  have hbk : Below (w1.setCell ⟨g8, 0, none⟩ (.pointer (some ⟨p1, 0, none⟩))).heap.size (w1.setCell ⟨g8, 0, none⟩ (.pointer (some ⟨p1, 0, none⟩))) ((w1.setCell ⟨g8, 0, none⟩ (.pointer (some ⟨p1, 0, none⟩))).alloc (.cells #[.pointer (some ⟨p1, 0, none⟩)] 25)) := (Below.refl _ _).alloc (Nat.le_refl _) _
  have bc := Box.new (w1.setCell ⟨g8, 0, none⟩ (.pointer (some ⟨p1, 0, none⟩))) 25 [.pointer (some ⟨p1, 0, none⟩)]
  rw [hsz8] at bc
  have hcA := (h1.elsewhere b8 (by decide) (by simp) hb8).keep hbk
  have hKA : Keeps [p1, g8] w1 ((w1.setCell ⟨g8, 0, none⟩ (.pointer (some ⟨p1, 0, none⟩))).alloc (.cells #[.pointer (some ⟨p1, 0, none⟩)] 25)) := (Keeps.of_but hb8 (by simp)).trans (.of_below hbk)
  have b8A := (b8.set 0 (.pointer (some ⟨p1, 0, none⟩))).keep hbk
  have hg8l : g8 < w1.heap.size := b8.lt
  have hg8 : g8 ≠ w1.heap.size := by omega
  have HCA := Lib.hid hcA
  have HKA := Lib.hid hKA
  have HB8A := Lib.hid b8A
  have HBC := Lib.hid bc
  have H1 := Lib.hid h1
  have HQ1 := Lib.hid hq1
  have HVV := Lib.hid hv
  have HBS := Lib.hid (And.intro b8 (And.intro b9 (And.intro b10 (And.intro b11 b12))))
  have HL1 := Lib.hid hl1
  have HV1 := Lib.hid hv1
  have HS1 := Lib.hid hs1
  have HN1 := Lib.hid hn1
  have HBW := Lib.hid hbw
  clear hcA hKA b8A bc h1 hq1 hv b8 b9 b10 b11 b12 hl1 hv1 hs1 hn1 hbw hsz8 hbk hb8
  go_enter Try.func25, Try.ntmps25
  go_wp2_with fail
  go_loopw [11] (fun i wr => ∃ k : Nat, k ≤ k0 ∧ i = .int .i64 k ∧ CurOk R1 wr p1 (pulls b0 k) (some ⟨q1, 0, none⟩) ∧ Keeps [p1, g8] w1 wr ∧ Box wr g8 25 [.pointer (some ⟨p1, 0, none⟩)] ∧ Box wr w1.heap.size 25 [.pointer (some ⟨p1, 0, none⟩)]) (fun i _ => k0 - (intOf i).toNat)
  case atStart => exact ⟨0, Nat.zero_le _, rfl, by rw [pulls_zero]; exact HCA.out, HKA.out, HB8A.out, HBC.out⟩
  case round =>
    obtain ⟨k, hk, rfl, hc, hkp, e8, ec⟩ := hrel
    clear z8 f8
    have vc : wr.cell? ⟨w1.heap.size, 0, none⟩ = some (.pointer (some ⟨p1, 0, none⟩)) := ec.cell 0
    have d4 : Box wr g4 59 [.int .i64 k0, .int .i64 k1] := HVV.out.takes.keeps hkp (by simp only [List.mem_cons, List.not_mem_nil, or_false]; omega)
    have v4 : wr.cell? ⟨g4, 0, none⟩ = some (.int .i64 k0) := d4.cell 0
    by_cases hlt : k < k0
    · have hlt' : (k : Int) < (k0 : Int) := by omega
      have HH := Lib.hid (And.intro hc (And.intro hkp (And.intro e8 ec)))
      clear hc hkp e8 ec d4
      go_wp2_with fail
      refine (byte_calls HH.out.1).mono ?_
      rintro e wa ⟨rfl, ha, hba⟩
      rw [pulls_succ] at ha
      have HA := Lib.hid (show CurOk R1 wa p1 (pulls b0 (k + 1)) (some ⟨q1, 0, none⟩) ∧ Keeps [p1, g8] w1 wa ∧ Box wa g8 25 [.pointer (some ⟨p1, 0, none⟩)] ∧ Box wa w1.heap.size 25 [.pointer (some ⟨p1, 0, none⟩)] from
        ⟨ha, HH.out.2.1.trans (.of_but hba (by simp)), HH.out.2.2.1.but hba (by omega), HH.out.2.2.2.but hba (by omega)⟩)
      clear ha hba vc v4 HH
      go_wp2_with fail
      exact ⟨⟨k + 1, by omega, by go_num, HA.out⟩, by simp [intOf]; omega⟩
    · obtain rfl : k = k0 := by omega
      have hlt' : ¬ (k : Int) < (k : Int) := by omega
      have hmf : ∀ (fn : Fn) (first cap : Array Value) (w : World), (Instr.makeFunc fn first cap).run Try.prog w = .ok (.func fn first cap) w := fun _ _ _ _ => rfl
      have nb : ∀ g ∈ [p1, g8], g < w1.heap.size → NoBytes w1 g := by
        intro g hg _
        simp only [List.mem_cons, List.not_mem_nil, or_false] at hg
        rcases hg with rfl | rfl
        · exact H1.out.nobytes
        · exact HBS.out.1.nobytes (by simp)
      have hvB : NVars wr g3 g4 g5 g7 po Ro A0 A1 n0 c0 n1 c1 k k1 whose so :=
        ⟨HVV.out.two.keeps hkp (by simp only [List.mem_cons, List.not_mem_nil, or_false]; omega), d4, HVV.out.whose_.keeps hkp (by simp only [List.mem_cons, List.not_mem_nil, or_false]; omega), HVV.out.other.keeps hkp (by simp only [List.mem_cons, List.not_mem_nil, or_false]; omega), HVV.out.cur.keeps hkp (by simp only [List.mem_cons, List.not_mem_nil, or_false]; omega) nb⟩
      have qB : Box wr q1 68 [.pointer (some ⟨p1, 0, none⟩)] := HQ1.out.keeps hkp (by simp only [List.mem_cons, List.not_mem_nil, or_false]; omega)
      have bB : Box wr g9 3 [.int .i64 (-1)] ∧ Box wr g10 30 [.int .i64 0, .int .i64 0] ∧ Box wr g11 4 [.bool false] ∧ Box wr g12 4 [.bool false] :=
        ⟨HBS.out.2.1.keeps hkp (by simp only [List.mem_cons, List.not_mem_nil, or_false]; omega), HBS.out.2.2.1.keeps hkp (by simp only [List.mem_cons, List.not_mem_nil, or_false]; omega), HBS.out.2.2.2.1.keeps hkp (by simp only [List.mem_cons, List.not_mem_nil, or_false]; omega), HBS.out.2.2.2.2.keeps hkp (by simp only [List.mem_cons, List.not_mem_nil, or_false]; omega)⟩
      have bwB : Below W.heap.size W wr := HBW.out.trans (hkp.below (by intro j hj; simp only [List.mem_cons, List.not_mem_nil, or_false] at hj; omega) HBW.out.size)
      have v3 : wr.cell? ⟨g3, 1, none⟩ = some (.slice A1 n1 c1) := hvB.two.cell 1
      have hg12lt : g12 < wr.heap.size := bB.2.2.2.lt
      have hp1lt : p1 < wr.heap.size := hc.lt
      clear vc d4 nb
      go_wp2_with fail
      clear v4 v3
      refine (try_calls wr A1 n1 c1 b1 HL1.out (HV1.out.keep bwB) HS1.out (by omega) HN1.out 26 #[.pointer (some ⟨g4, 0, none⟩), .pointer (some ⟨g5, 0, none⟩), .pointer (some ⟨w1.heap.size, 0, none⟩), .pointer (some ⟨g7, 0, none⟩), .pointer (some ⟨g11, 0, none⟩)] (fun _ _ => by kernel_rfl)
        (fun _ q2 r s2 w2 => IRel' wr q1 g11 b1 k1 whose (pulls b0 k) q2 r s2 w2) (by
          intro R2 wi p2 q2 hp2 hpq2 hbi hci hbq2
          refine (inner_read wi R2 R1 Ro wr.heap.size p2 q2 p1 q1 po g4 g5 w1.heap.size g7 g11 b1 k k1 whose (pulls b0 k) so hp2 (by omega) (by omega) hci hbq2 (hc.keep hbi) (qB.keep hbi) (hvB.cur.keep hbi) (by omega) (hvB.takes.keep hbi) (hvB.whose_.keep hbi) (ec.keep hbi) (hvB.other.keep hbi) (bB.2.2.1.keep hbi) hk1).mono ?_
          rintro e w2 ⟨hsz, hmid, hres⟩
          have conv : ∀ r s2, IRel wi p2 q2 q1 g11 b1 k1 whose (pulls b0 k) r s2 w2 → IRel' wr q1 g11 b1 k1 whose (pulls b0 k) q2 r s2 w2 := by
            intro r s2 ⟨x1, x2, x3⟩
            refine ⟨x1, ⟨x2.os.trans hbi.os, x2.tape.trans hbi.tape, x2.output.trans hbi.output, Nat.le_trans hbi.size x2.size, fun j hj hn => ?_⟩, x3⟩
            rw [x2.block j (Nat.lt_of_lt_of_le hj hbi.size) (by simp only [List.mem_cons, List.not_mem_nil, or_false] at hn ⊢; omega)]
            exact hbi.block j hj
          refine ⟨hsz, hmid, ?_⟩
          rcases hres with ⟨rfl, s2, y1, y2⟩ | ⟨r, chain, rfl, y0, y3, s2, y1, y2⟩
          · exact .inl ⟨rfl, s2, y1, conv _ _ y2⟩
          · exact .inr ⟨r, chain, rfl, y0, y3, s2, y1, conv _ _ y2⟩)).mono ?_
      rintro e w6 ⟨R2, p2, q2, s2, w2, hp2, hpq2, _, _, hb6, _, hres⟩
      have nb11 : ∀ g ∈ [g11], g < wr.heap.size → NoBytes wr g := by
        intro g hg _
        simp only [List.mem_cons, List.not_mem_nil, or_false] at hg
        subst hg
        exact bB.2.2.1.nobytes (by simp)
      have hq1lt : q1 < wr.heap.size := qB.lt
      -- what the world behind the inner Try has
      have after : ∀ {rb : Bool}, Keeps [g11] wr w2 → Box w2 g11 4 [.bool rb] → Keeps [g11] wr w6 ∧ Box w6 g9 3 [.int .i64 (-1)] ∧ Box w6 g10 30 [.int .i64 0, .int .i64 0] ∧ Box w6 g11 4 [.bool rb] ∧ Box w6 g12 4 [.bool false] ∧ CurOk R1 w6 p1 (pulls b0 k) (some ⟨q1, 0, none⟩) ∧ Box w6 g8 25 [.pointer (some ⟨p1, 0, none⟩)] ∧ Box w6 q1 68 [.pointer (some ⟨p1, 0, none⟩)] := by
        intro rb hk2 hbx
        have hk6 : Keeps [g11] wr w6 := ⟨hb6.os.trans hk2.os, hb6.tape.trans hk2.tape, hb6.output.trans hk2.output, Nat.le_trans hk2.size hb6.size, fun j hj hn => (hb6.block j hj).trans (hk2.block j hj hn)⟩
        exact ⟨hk6, bB.1.keeps hk6 (by simp only [List.mem_cons, List.not_mem_nil, or_false]; omega), bB.2.1.keeps hk6 (by simp only [List.mem_cons, List.not_mem_nil, or_false]; omega), hbx.below hb6 (by omega), bB.2.2.2.keeps hk6 (by simp only [List.mem_cons, List.not_mem_nil, or_false]; omega), hc.keeps hk6 (by simp only [List.mem_cons, List.not_mem_nil, or_false]; omega) nb11, e8.keeps hk6 (by simp only [List.mem_cons, List.not_mem_nil, or_false]; omega), qB.keeps hk6 (by simp only [List.mem_cons, List.not_mem_nil, or_false]; exact qB.ne bB.2.2.1 (by decide))⟩
      rcases hres with ⟨rfl, hrel⟩ | ⟨r, chain, hne, rfl, hst, ⟨cr, hcr⟩, hrel⟩
      · obtain ⟨hs2, hk2, hbx, hns⟩ : s2 = pulls b1 k1 ∧ Keeps [g11] wr w2 ∧ Box w2 g11 4 [.bool (decide (¬ (whose = 0 ∧ b1.length < k1)))] ∧ ¬ (whose = 1 ∧ b0.length < k) := by
          rcases hrel with ⟨x1, x2, ⟨_, x3, x4, x5⟩ | ⟨x3, _⟩ | ⟨x3, _⟩⟩ | ⟨x1, x2, ⟨x3, _⟩ | ⟨_, x3, x4, x5⟩ | ⟨x3, _⟩⟩
          · exact ⟨x1, x2, by rw [decide_eq_true x5]; exact x3, fun hh => x4 ⟨hh.1, (pulls_c b0 k).2 hh.2⟩⟩
          · cases x3
          · cases x3
          · cases x3
          · exact ⟨x1, x2, by rw [decide_eq_false (by simp [x4, x5])]; exact x3, fun hh => by omega⟩
          · injection x3 with x3
            omega
        obtain ⟨hk6, a9, a10, a11, a12, ac, a8, aq⟩ := after hk2 hbx
        subst hs2
        generalize hrb : decide (¬ (whose = 0 ∧ b1.length < k1)) = rb at a11
        have HRB := Lib.hid hrb
        generalize hsp : pulls b1 k1 = sp
        have HSP := Lib.hid hsp
        clear hrb hsp hrel after hk2 hbx
        have m9 : w6.cell? ⟨g9, 0, none⟩ = some (.int .i64 (-1)) := a9.cell 0
        have m10 : w6.cell? ⟨g10, 0, none⟩ = some (.int .i64 0) := a10.cell 0
        have m10' : w6.cell? ⟨g10, 1, none⟩ = some (.int .i64 0) := a10.cell 1
        have m12 : w6.cell? ⟨g12, 0, none⟩ = some (.bool false) := a12.cell 0
        have r9 := a9.frozen 0
        have r10 := a10.frozen 0
        have r10' := a10.frozen 1
        have r12 := a12.frozen 0
        have x1 : g10 ≠ g9 := by omega
        have x2 : g12 ≠ g9 := by omega
        have x3 : g12 ≠ g10 := by omega
        have HALL := Lib.hid (And.intro hk6 (And.intro a9 (And.intro a10 (And.intro a11 (And.intro a12 (And.intro ac a8))))))
        have HKP := Lib.hid hkp
        have HNS := Lib.hid hns
        clear hk6 a9 a10 a11 a12 ac a8 aq hc hkp e8 ec hvB qB bB bwB nb11 hb6 hns hmf
        go_wp2_with fail
        go_end0
        obtain ⟨hk6, a9, a10, a11, a12, ac, a8⟩ := HALL.out
        have s9 : But g9 w6 (w6.setCell ⟨g9, 0, none⟩ (.int .i64 sp.t)) := (But.refl _ _).set 0 _
        have p10 := a10.but s9 (by omega)
        have s10 : But g10 (w6.setCell ⟨g9, 0, none⟩ (.int .i64 sp.t)) (((w6.setCell ⟨g9, 0, none⟩ (.int .i64 sp.t)).setCell ⟨g10, 0, none⟩ (.int .i64 sp.c)).setCell ⟨g10, 1, none⟩ (.int .i64 sp.a)) := ((But.refl _ _).set 0 _).set 1 _
        have p12 := (a12.but s9 (by omega)).but s10 (by omega)
        have s12 : But g12 (((w6.setCell ⟨g9, 0, none⟩ (.int .i64 sp.t)).setCell ⟨g10, 0, none⟩ (.int .i64 sp.c)).setCell ⟨g10, 1, none⟩ (.int .i64 sp.a)) ((((w6.setCell ⟨g9, 0, none⟩ (.int .i64 sp.t)).setCell ⟨g10, 0, none⟩ (.int .i64 sp.c)).setCell ⟨g10, 1, none⟩ (.int .i64 sp.a)).setCell ⟨g12, 0, none⟩ (.bool true)) := (But.refl _ _).set 0 _
        have y9 := ((a9.set 0 (.int .i64 sp.t)).but s10 (by omega)).but s12 (by omega)
        have y10 := ((p10.set 0 (.int .i64 sp.c)).set 1 (.int .i64 sp.a)).but s12 (by omega)
        have y11 := ((a11.but s9 (by omega)).but s10 (by omega)).but s12 (by omega)
        have y12 := p12.set 0 (.bool true)
        have y8 := ((a8.but s9 (by omega)).but s10 (by omega)).but s12 (by omega)
        have yc := ((ac.elsewhere a9 (by decide) (by simp) s9).elsewhere p10 (by decide) (by simp) s10).elsewhere p12 (by decide) (by simp) s12
        have hK : Keeps [p1, g8, g9, g10, g11, g12] w1 ((((w6.setCell ⟨g9, 0, none⟩ (.int .i64 sp.t)).setCell ⟨g10, 0, none⟩ (.int .i64 sp.c)).setCell ⟨g10, 1, none⟩ (.int .i64 sp.a)).setCell ⟨g12, 0, none⟩ (.bool true)) :=
          ((((HKP.out.mono (by simp)).trans (hk6.mono (by simp))).trans (.of_but s9 (by simp))).trans (.of_but s10 (by simp))).trans (.of_but s12 (by simp))
        refine ⟨hK.size, fun j hj1 hj2 hj3 => hK.block j hj2 (by simp only [List.mem_cons, List.not_mem_nil, or_false]; omega), .inl ⟨rfl, _, yc, rfl, hK, y8, .inl ⟨rfl, HNS.out, ?_, ?_, ?_, y12⟩⟩⟩
        · rw [HSP.out]; exact y9
        · rw [HSP.out]; exact y10
        · rw [HRB.out]; exact y11
      · obtain ⟨x1, x2, ⟨x3, _⟩ | ⟨x3, _⟩ | ⟨x3, x4, x5, x6⟩⟩ := hrel
        · cases x3
        · injection x3 with x3
          exact absurd x3 hne
        · injection x3 with x3
          subst x3
          obtain ⟨hk6, a9, a10, a11, a12, ac, a8, aq⟩ := after x2 x4
          have hK : Keeps [p1, g8, g9, g10, g11, g12] w1 w6 := (hkp.mono (by simp)).trans (hk6.mono (by simp))
          exact ⟨rfl, hK.size, fun j hj1 hj2 hj3 => hK.block j hj2 (by simp only [List.mem_cons, List.not_mem_nil, or_false]; omega), .inr ⟨r, chain, rfl, hst, ⟨_, aq⟩, _, ac, rfl, hK, a8, .inr ⟨rfl, x5, (pulls_c b0 k).1 x6, a9, a11, a12⟩⟩⟩
end Go.Proofs.Ytiipkmfkelbpiaa
