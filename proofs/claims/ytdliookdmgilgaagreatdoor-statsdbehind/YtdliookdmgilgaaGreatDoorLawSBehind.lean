/-
  The walk of StatsdBehind. No statement of the seat is proved here.
-/
import Derived.Test.YtdliookdmgilgaaGreatDoorLawSBack
namespace Go.Proofs.YtdliookdmgilgaaGreatDoor
open Go.RowKit
open Dc (D D0)

/-- What stands behind a whole line. -/
theorem behind_cases {m : Mt} (h : metricE m 1 = 0) (s : List UInt8) :
    (m.rate ≠ 1000000 → parseS (lineT m ++ 124 :: s) = (M0, 11, ((lineT m).length : Int))) ∧ (m.rate = 1000000 → s.head? ≠ some 64 → parseS (lineT m ++ 124 :: s) = (M0, 11, ((lineT m).length : Int) + 1)) := by
  obtain ⟨name, k, d, r, rfl, hs⟩ := metricE_said h
  unfold lineT
  rw [if_pos h]
  exact hs.behind s
/-- A line that is cut off. -/
theorem off_cases {m : Mt} (h : metricE m 1 = 0) {left : Nat} (hl : left < (lineT m).length) :
    (∃ c a : Int, parseS ((lineT m).take left) = (M0, c, a) ∧ c ≠ 0 ∧ a ≤ (left : Int)) ∨ ∃ m', parseS ((lineT m).take left) = (m', 0, 0) ∧ Small m' ∧ m' ≠ m := by
  have e : lineT m = lineS m := by unfold lineT; rw [if_pos h]
  rw [e] at hl ⊢
  have hlen : ((lineS m).take left).length = left := by rw [List.length_take]; omega
  rcases parseS_cases ((lineS m).take left) with ⟨c, a, hp, h1, h2, h3⟩ | ⟨m', hp, h1, h2, h3⟩
  · rw [hlen] at h3
    exact .inl ⟨c, a, hp, h1, h3⟩
  · refine .inr ⟨m', hp, said_small h1, ?_⟩
    rcases cut_off hl with ⟨k1, _⟩ | k1
    · rw [hp] at k1; exact absurd rfl k1
    · rw [hp] at k1; exact k1

set_option maxRecDepth 100000 in
set_option maxHeartbeats 4000000 in
theorem sbehind_walk {w : World} {s : ByteArray} {A B : Option Addr} {n k ca cb : Nat} {m : Mt} (h : MIs w s A n B k m) (hf : ∀ d ∈ m.vals, d.Fits) (x : ByteArray) (left : Int) (ht : Tab w) :
    Calls Tryz.prog 8 #[mV s m.kind A n ca m.rate B k cb m.time, .string x, .int .i64 left] w fun e w' => e = .returned (.bool true) ∧ Below w.heap.size w w' := by
  obtain ⟨q, hq⟩ : ∃ q, smallM m = q := ⟨_, rfl⟩
  have HZ := Lib.hid (fun (e : q = true) => smallM_small (hq.trans e) hf)
  have HQ := Lib.hid hq
  have HB := Lib.hid (Kb.enter (ca := ca) (cb := cb) h)
  have HT := Lib.hid ht
  obtain ⟨l, hl⟩ : ∃ l, Str x l := ⟨_, Str.self x⟩
  have hsz : (x.size : Int) = (l.length : Int) := by rw [hl.size]
  have HX := Lib.hid hl
  unfold mV
  clear hq h hf ht hl
  obtain ⟨c0, c1, c2, c3, c4, c5⟩ := HB.out.six (.head _)
  go_enter Tryz.func8, Tryz.ntmps8
  go_wp2_with fail
  refine (HB.out.small10_ (.head _) HQ.out _ _).mono ?_
  rintro e w1 ⟨rfl, hb⟩
  have HB1 := Lib.hid hb
  clear hb HB c0 c1 c2 c3 c4 c5
  by_cases hin : q = true ∧ ¬ 100 < (x.size : Int)
  rotate_left
  · rcases (by cases q <;> simp at hin ⊢ <;> omega : q = false ∨ (q = true ∧ 100 < (x.size : Int))) with rfl | ⟨rfl, h2⟩
    all_goals
      clear hin
      go_wp2_with fail
      refine (HB1.out.awake10_ HT.out).mono ?_
      rintro e w2 ⟨rfl, hb⟩
      have HB2 := Lib.hid hb
      clear hb HB1
      go_wp2_with fail
      go_ret
      exact ⟨rfl, HB2.out.kept⟩
  obtain ⟨rfl, h100⟩ := hin
  have HS := Lib.hid (HZ.out rfl)
  clear HZ
  obtain ⟨c, hc⟩ : ∃ c, metricE m 1 = c := ⟨_, rfl⟩
  obtain ⟨t, htt⟩ : ∃ t, lineT m = t := ⟨_, rfl⟩
  have HC := Lib.hid (And.intro hc htt)
  clear hc htt
  obtain ⟨c0, c1, c2, c3, c4, c5⟩ := HB1.out.six (.head _)
  by_cases hc0 : c = 0
  rotate_left
  · have hcb : (c != 0) = true := by simpa using hc0
    have ht0 : t = [] := by rw [← HC.out.2]; unfold lineT; rw [HC.out.1, if_neg hc0]
    subst ht0
    go_wp2_with fail
    refine (HB1.out.line_ (.head _) HS.out HT.out HC.out.2 HC.out.1 _ _).mono ?_
    rintro e w2 ⟨rfl, hb⟩
    have HB2 := Lib.hid hb
    clear hb HB1 c0 c1 c2 c3 c4 c5
    go_wp2_with fail
    refine (HB2.out.awake10_ HT.out).mono ?_
    rintro e w3 ⟨rfl, hb⟩
    have HB3 := Lib.hid hb
    clear hb HB2
    go_wp2_with fail
    go_ret
    exact ⟨rfl, HB3.out.kept⟩
  subst hc0
  have HL := Lib.hid (HB1.out.line_ (.head _) HS.out HT.out HC.out.2 HC.out.1 ca cb)
  obtain ⟨T, hT⟩ : ∃ T : ByteArray, (⟨t.toArray⟩ : ByteArray) = T := ⟨_, rfl⟩
  have hTs : Str T t := by rw [← hT]; exact Str.mk _
  rw [hT] at HL
  have hlen := (lineT_back HC.out.1).1
  rw [HC.out.2] at hlen
  have hTz : (T.size : Int) = (t.length : Int) := by rw [hTs.size]
  have gt : (0 : Int) ≤ (t.length : Int) ∧ (t.length : Int) ≤ 300 := by omega
  have HTS := Lib.hid hTs
  have hls : Str (T ++ (⟨#[124]⟩ : ByteArray) ++ x) (t ++ 124 :: l) := by
    have := (hTs.append (show Str ⟨#[124]⟩ [124] from rfl)).append HX.out
    simpa using this
  obtain ⟨m9, c9, a9, hp⟩ : ∃ m9 c9 a9, parseS (t ++ 124 :: l) = (m9, c9, a9) := ⟨_, _, _, rfl⟩
  have hbc := behind_cases HC.out.1 l
  rw [HC.out.2, hp] at hbc
  have HBC := Lib.hid hbc
  have HP := Lib.hid (And.intro hls hp)
  have z2 : ((⟨#[124]⟩ : ByteArray).size : Int) = 1 := rfl
  have za := size_add
  clear hbc hls hp hT hTs
  go_wp2_with fail
  refine HL.out.mono ?_
  rintro e w2 ⟨rfl, hb⟩
  have HB2 := Lib.hid hb
  clear hb HB1 HL c0 c1 c2 c3 c4 c5
  go_wp2_with fail
  refine (HB2.out.parse_ HP.out.1 (by simp; omega) HP.out.2).mono ?_
  rintro e w3 ⟨s9, A9, n9, ca9, B9, k9, cb9, rfl, hb⟩
  have HB3 := Lib.hid (hb.lay2 (.string s9) (.int .i64 m9.kind) (.slice A9 n9 ca9) (.int .i64 m9.rate) (.slice B9 k9 cb9) (.int .i64 m9.time) (.int .i64 c9) (.int .i64 a9))
  clear hb HB2 HP
  go_upto_region 7 with fail
  generalize World.alloc _ (.cells #[.int .i64 c9, .int .i64 a9] 34) = W5 at HB3 ⊢
  obtain ⟨c0, c1, c2, c3, c4, c5⟩ := HB3.out.six (g := w.heap.size) (.tail _ (.tail _ (.head _)))
  go_upto_if 44 with fail
  clear c0 c1 c2 c3 c4 c5
  go_cut [] from 9 (fun wx => Hid (Kb w [(w.heap.size, 25, [.string s, .int .i64 m.kind, .slice A n ca, .int .i64 m.rate, .slice B k cb, .int .i64 m.time])] [(s, A, n, B, k, m)] wx))
  case first =>
    have hg := fguard
    by_cases hr : m.rate = 1000000
    · by_cases h64 : l.head? = some 64
      · have hr2 : (m.rate != 1000000) = false := by simpa using hr
        have hx0 : 0 < l.length := by
          cases l with
          | nil => cases h64
          | cons a b => simp
        have hix := HX.out.index (i := 0) 0 rfl hx0
        have hy : ((l[0]'hx0).toNat : Int) = 64 := by
          cases l with
          | nil => cases h64
          | cons a b => injection h64 with h64; rw [List.getElem_cons_zero, h64]; rfl
        rw [hy] at hix
        have g1 : ¬ (x.size : Int) < 1 := by omega
        clear hy h64 hr
        go_wp2_with fail
        go_meet
        exact Lib.hid (HB3.out.sub (fun x hx => .tail _ (.tail _ hx)) (fun x hx => .tail _ hx))
      · have hr2 : (m.rate != 1000000) = false := by simpa using hr
        have hh := HBC.out.2 hr h64
        injection hh with hm9 hh
        injection hh with hc9 ha9
        subst hm9 hc9
        simp only [show M0.kind = 0 from rfl, show M0.rate = 0 from rfl, show M0.time = 0 from rfl] at HB3 ⊢
        have HB4 := Lib.hid (HB3.out.mAdd (mis0 _ none none))
        have HE := Lib.hid (HB4.out.equal_ (.tail _ (.head _)) (.head _) small_M0 (decide_eq_true rfl) ca9 cb9 0 0)
        simp only [show M0.kind = 0 from rfl, show M0.rate = 0 from rfl, show M0.time = 0 from rfl] at HE
        obtain ⟨c0, c1, c2, c3, c4, c5⟩ := HB4.out.six (g := w3.heap.size) (.tail _ (.head _))
        have f0 := HB4.out.cell (g := w3.heap.size + 1) (i := 0) (.head _) rfl
        have f1 := HB4.out.cell (g := w3.heap.size + 1) (i := 1) (.head _) rfl
        have q1 := fun w => fne_run (x := 11) (y := a9) (u := 11) (v := (t.length : Int) + 1) (q := true) (by rw [ha9]; exact decide_eq_true rfl) w
        have HQ1 := Lib.hid ha9
        clear hr HB3 ha9 HBC
        have hs1 : (x.size : Int) < 1 ∨ (¬ (x.size : Int) < 1 ∧ ∃ y : Int, (y != 64) = true ∧ ∀ W, (Instr.index 9 (.string x) (.int .i64 0)).run Tryz.prog W = .ok (.int .u8 y) W) := by
          by_cases hx0 : 0 < l.length
          · refine .inr ⟨by omega, ((l[0]'hx0).toNat : Int), ?_, HX.out.index (i := 0) 0 rfl hx0⟩
            simp only [bne_iff_ne, ne_eq]
            intro e
            apply h64
            cases l with
            | nil => cases hx0
            | cons a b =>
              rw [List.getElem_cons_zero] at e
              exact congrArg some (UInt8.toNat_inj.1 (by show a.toNat = 64; omega))
          · exact .inl (by omega)
        rcases hs1 with hs1 | ⟨hs1, y, hy, hix⟩
        all_goals
          clear h64
          go_wp2_with fail
          refine HE.out.mono ?_
          rintro e w4 ⟨rfl, hb⟩
          have HB5 := Lib.hid hb
          clear hb HB4 HE c0 c1 c2 c3 c4 c5 f0 f1
          go_wp2_with fail
          go_meet
          exact Lib.hid (HB5.out.sub (fun x hx => .tail _ (.tail _ hx)) (fun x hx => .tail _ (.tail _ hx)))
    · have hr2 : (m.rate != 1000000) = true := by simpa using hr
      have hh := HBC.out.1 hr
      injection hh with hm9 hh
      injection hh with hc9 ha9
      subst hm9 hc9
      simp only [show M0.kind = 0 from rfl, show M0.rate = 0 from rfl, show M0.time = 0 from rfl] at HB3 ⊢
      have HB4 := Lib.hid (HB3.out.mAdd (mis0 _ none none))
      have HE := Lib.hid (HB4.out.equal_ (.tail _ (.head _)) (.head _) small_M0 (decide_eq_true rfl) ca9 cb9 0 0)
      simp only [show M0.kind = 0 from rfl, show M0.rate = 0 from rfl, show M0.time = 0 from rfl] at HE
      obtain ⟨c0, c1, c2, c3, c4, c5⟩ := HB4.out.six (g := w3.heap.size) (.tail _ (.head _))
      have f0 := HB4.out.cell (g := w3.heap.size + 1) (i := 0) (.head _) rfl
      have f1 := HB4.out.cell (g := w3.heap.size + 1) (i := 1) (.head _) rfl
      have q1 := fun w => fne_run (x := 11) (y := a9) (u := 11) (v := (t.length : Int)) (q := true) (by rw [ha9]; exact decide_eq_true rfl) w
      clear hr HB3 ha9 HBC
      go_wp2_with fail
      refine HE.out.mono ?_
      rintro e w4 ⟨rfl, hb⟩
      have HB5 := Lib.hid hb
      clear hb HB4 HE c0 c1 c2 c3 c4 c5 f0 f1
      go_wp2_with fail
      go_meet
      exact Lib.hid (HB5.out.sub (fun x hx => .tail _ (.tail _ hx)) (fun x hx => .tail _ (.tail _ hx)))
  case rest =>
  have HB4 := Lib.hid hcut.out
  obtain ⟨W4, hW4⟩ : ∃ W, W = wc := ⟨_, rfl⟩
  subst hW4
  clear hcut HB3 HBC
  by_cases hin : (0 : Int) ≤ left ∧ left < (t.length : Int)
  rotate_left
  · have hor : left < 0 ∨ (¬ left < 0 ∧ (t.length : Int) ≤ left) := by omega
    clear hin
    rcases hor with h1 | ⟨h1, h2⟩
    all_goals
      go_wp2_with fail
      refine (HB4.out.awake10_ HT.out).mono ?_
      rintro e w5 ⟨rfl, hb⟩
      have HB5 := Lib.hid hb
      clear hb HB4
      go_wp2_with fail
      go_ret
      exact ⟨rfl, HB5.out.kept⟩
  obtain ⟨h1, h2⟩ := hin
  obtain ⟨lf, hlf⟩ : ∃ lf : Nat, left = (lf : Int) := ⟨left.toNat, by omega⟩
  obtain ⟨S7, hS7, hcut7⟩ := HTS.out.to_ (j := left) lf hlf (by omega)
  have hoc := off_cases (left := lf) HC.out.1 (by rw [HC.out.2]; omega)
  rw [HC.out.2] at hoc
  have g1 : ¬ left < 0 := by omega
  have g2 : ¬ (t.length : Int) ≤ left := by omega
  have hl9 : (t.take lf).length ≤ 900 := by rw [List.length_take]; omega
  have HS7 := Lib.hid hS7
  clear hS7
  rcases hoc with ⟨c7, a7, hp, k1, k2⟩ | ⟨m7, hp, k1, k2⟩
  · have k3 : a7 ≤ left := by omega
    have hg := fguard
    have q1 := fun w => fne_run (x := c7) (y := a7) (u := 0) (v := 0) (q := false) (decide_eq_false fun e => k1 (congrArg Prod.fst e)) w
    clear hlf k1 k2
    go_wp2_with fail
    refine (HB4.out.parse_ HS7.out hl9 hp).mono ?_
    rintro e w5 ⟨s7, A7, n7, ca7, B7, k7, cb7, rfl, hb⟩
    have HB5 := Lib.hid (hb.lay2 (.string s7) (.int .i64 M0.kind) (.slice A7 n7 ca7) (.int .i64 M0.rate) (.slice B7 k7 cb7) (.int .i64 M0.time) (.int .i64 c7) (.int .i64 a7))
    clear hb HB4 hp
    go_upto_region 16 with fail
    have f0 := HB5.out.cell (g := w5.heap.size + 1) (i := 0) (.head _) rfl
    have f1 := HB5.out.cell (g := w5.heap.size + 1) (i := 1) (.head _) rfl
    generalize World.alloc _ (.cells #[.int .i64 c7, .int .i64 a7] 34) = W6 at HB5 f0 f1 ⊢
    go_wp2_with fail
    refine (HB5.out.awake10_ HT.out).mono ?_
    rintro e w6 ⟨rfl, hb⟩
    have HB6 := Lib.hid hb
    clear hb HB5 f0 f1
    go_wp2_with fail
    go_ret
    exact ⟨rfl, HB6.out.kept⟩
  · have hg := fguard
    have q1 := fun w => fne_run (x := 0) (y := 0) (u := 0) (v := 0) (q := true) (by decide) w
    have HK := Lib.hid (And.intro k1 k2)
    clear hlf k1 k2
    go_wp2_with fail
    refine (HB4.out.parse_ HS7.out hl9 hp).mono ?_
    rintro e w5 ⟨s7, A7, n7, ca7, B7, k7, cb7, rfl, hb⟩
    have HB5 := Lib.hid (hb.lay2 (.string s7) (.int .i64 m7.kind) (.slice A7 n7 ca7) (.int .i64 m7.rate) (.slice B7 k7 cb7) (.int .i64 m7.time) (.int .i64 0) (.int .i64 0))
    clear hb HB4 hp
    go_upto_region 16 with fail
    have HE := Lib.hid (HB5.out.equal_ (.head _) (.tail _ (.head _)) HK.out.1 (decide_eq_false HK.out.2) ca7 cb7 ca cb)
    obtain ⟨c0, c1, c2, c3, c4, c5⟩ := HB5.out.six (g := w5.heap.size) (.tail _ (.head _))
    obtain ⟨d0, d1, d2, d3, d4, d5⟩ := HB5.out.six (g := w.heap.size) (.tail _ (.tail _ (.head _)))
    have f0 := HB5.out.cell (g := w5.heap.size + 1) (i := 0) (.head _) rfl
    have f1 := HB5.out.cell (g := w5.heap.size + 1) (i := 1) (.head _) rfl
    generalize World.alloc _ (.cells #[.int .i64 0, .int .i64 0] 34) = W6 at HB5 HE c0 c1 c2 c3 c4 c5 d0 d1 d2 d3 d4 d5 f0 f1 ⊢
    go_wp2_with fail
    refine HE.out.mono ?_
    rintro e w6 ⟨rfl, hb⟩
    have HB6 := Lib.hid hb
    clear hb HB5 HE c0 c1 c2 c3 c4 c5 d0 d1 d2 d3 d4 d5 f0 f1
    go_wp2_with fail
    refine (HB6.out.awake10_ HT.out).mono ?_
    rintro e w7 ⟨rfl, hb⟩
    have HB7 := Lib.hid hb
    clear hb HB6
    go_wp2_with fail
    go_ret
    exact ⟨rfl, HB7.out.kept⟩
end Go.Proofs.YtdliookdmgilgaaGreatDoor
