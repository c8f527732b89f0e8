/-
  SdSLine, SdAwake. No statement of the seat is proved here.
-/
import Derived.Test.YtdliookdmgilgaaGreatDoorGrEMap
import Derived.Test.YtdliookdmgilgaaGreatDoorGrSdMath
import Derived.Test.YtdliookdmgilgaaGreatDoorEMetric
import Derived.Test.YtdliookdmgilgaaGreatDoorDPointed
import Derived.Test.YtdliookdmgilgaaGreatDoorNText
import Derived.Test.YtdliookdmgilgaaGreatDoorSdParse
/-
  Package statsd: Line. No statement of the seat is proved here.
-/
namespace Go.Proofs.YtdliookdmgilgaaGreatDoor
open Go.RowKit
open Dc (D D0)

/-- What Line writes. -/
def lineT (m : Mt) : List UInt8 := if metricE m 1 = 0 then lineS m else []
theorem metricE_said {m : Mt} (h : metricE m 1 = 0) : ∃ name k d r, m = oneS name k d r ∧ Said name k d r := by
  unfold metricE at h
  rw [show known 1 = true from by decide] at h
  simp only [Bool.true_eq_false, if_false] at h
  by_cases hc : checkM m = 0
  · rw [if_neg (by simp [hc])] at h
    by_cases hs : saysM m 1 = false
    · rw [if_pos hs] at h; cases h
    · exact said_of hc (by simpa using hs)
  · rw [if_pos hc] at h
    exact absurd h hc
theorem Said.metricE {name : List UInt8} {k : Int} {d : D} {r : Int} (h : Said name k d r) : metricE (oneS name k d r) 1 = 0 := by
  obtain ⟨h1, h2, _⟩ := h.check
  unfold Go.Proofs.YtdliookdmgilgaaGreatDoor.metricE
  rw [show known 1 = true from by decide, h1, h2]
  rfl
theorem Said.one (name : List UInt8) (k : Int) (d : D) (r : Int) : (oneS name k d r).name = name ∧ (oneS name k d r).kind = k ∧ (oneS name k d r).vals = [d] ∧ (oneS name k d r).rate = r ∧ (oneS name k d r).tags = [] ∧ (oneS name k d r).time = 0 := ⟨rfl, rfl, rfl, rfl, rfl, rfl⟩

/-- The pieces of a line, as they are put together. -/
theorem line_pieces {s v u : ByteArray} {name tv tw : List UInt8} (hs : Str s name) (hv : Str v tv) (hu : Str u tw) :
    Str (s ++ (⟨#[58]⟩ : ByteArray) ++ v ++ (⟨#[124]⟩ : ByteArray) ++ u) (name ++ 58 :: (tv ++ 124 :: tw)) := by
  have := (((hs.append (show Str ⟨#[58]⟩ [58] from rfl)).append hv).append (show Str ⟨#[124]⟩ [124] from rfl)).append hu
  simpa using this
theorem line_rate {s v : ByteArray} {a q : List UInt8} (hs : Str s a) (hv : Str v q) : Str (s ++ ((⟨#[124, 64]⟩ : ByteArray) ++ v)) (a ++ 124 :: 64 :: q) := by
  have := hs.append ((show Str ⟨#[124, 64]⟩ [124, 64] from rfl).append hv)
  simpa using this
theorem size_add (a b : ByteArray) : (a ++ b).size = a.size + b.size := by simp

set_option maxRecDepth 100000 in
set_option maxHeartbeats 4000000 in
theorem sline_calls {w : World} {s : ByteArray} {A B : Option Addr} {n k ca cb : Nat} {m : Mt} (h : MIs w s A n B k m) (z : Small m) (ht : Tab w) :
    Calls Tryz.prog 11 #[.agg #[.string s, .int .i64 m.kind, .slice A n ca, .int .i64 m.rate, .slice B k cb, .int .i64 m.time]] w fun e w' => e = .returned (.tuple #[.string ⟨(lineT m).toArray⟩, .int .i64 (metricE m 1)]) ∧ Below w.heap.size w w' := by
  have HB := Lib.hid (Kb.enter (ca := ca) (cb := cb) h)
  have HE0 := Lib.hid (fun W (hm : MIs W s A n B k m) => emetric_calls (w := W) (ca := ca) (cb := cb) hm z (f := 1) (show (Lit.int .i64 1).wf = true by decide))
  have HT := Lib.hid ht
  by_cases hq : metricE m 1 = 0
  · obtain ⟨name, kd, d, r, rfl, hsd⟩ := metricE_said hq
    have hl : lineT (oneS name kd d r) = lineS (oneS name kd d r) := by unfold lineT; rw [if_pos hq]
    rw [hl, hq]
    simp only [hq] at HE0
    obtain ⟨o1, o2, o3, o4, o5, o6⟩ := Said.one name kd d r
    rw [o2, o4, o6] at HE0 HB ⊢
    have wk : WfI kd := by
      have := hsd.kind
      rcases (by omega : kd = 1 ∨ kd = 2 ∨ kd = 3 ∨ kd = 4) with rfl | rfl | rfl | rfl <;> (show (Lit.int .i64 _).wf = true; decide)
    have h1 : n = 1 := by have := h.vlen; rw [o3] at this; exact this.symm
    subst h1
    have hv : Decs w A [d] := by have := h.vals; rwa [o3] at this
    obtain ⟨b, off, x, y, zz, e1, _, _, _, hdl⟩ := hv.get (i := 0) (by simp)
    subst e1
    obtain ⟨rfl, rfl, rfl⟩ : x = d.neg ∧ y = (d.c : Int) ∧ zz = d.e := ⟨hdl.neg, hdl.c, hdl.e⟩
    have hns := h.name
    rw [o1] at hns
    have hnb := name_bytes hsd.name
    have hnz : (s.size : Int) ≤ 200 := by rw [hns.size]; omega
    have hwl := wordOf_len hsd.kind
    have htl := Dc.text_length hsd.val
    have HSD := Lib.hid (And.intro hsd (And.intro hns (And.intro hwl (And.intro htl (And.intro hv wk)))))
    clear hl hq o1 o2 o3 o4 o5 o6 hv hdl hns hnb hwl htl hsd h z ht wk
    go_enter Tryz.func11, Tryz.ntmps11
    obtain ⟨c0, c1, c2, c3, c4, c5⟩ := HB.out.six (.head _)
    go_wp2_with fail
    refine (HE0.out _ (HB.out.m (.head _))).mono ?_
    rintro e w1 ⟨rfl, hb⟩
    have HB1 := Lib.hid (HB.out.next hb)
    clear hb HB HE0 c0 c1 c2 c3 c4 c5
    obtain ⟨c0, c1, c2, c3, c4, c5⟩ := HB1.out.six (.head _)
    obtain ⟨b', off', x, y, zz, e1, d0, d1, d2, hdl⟩ := (HSD.out.2.2.2.2.1.keep HB1.out.kept).get (i := 0) (by simp)
    obtain ⟨rfl, rfl, rfl⟩ : x = d.neg ∧ y = (d.c : Int) ∧ zz = d.e := ⟨hdl.neg, hdl.c, hdl.e⟩
    injection e1 with e1
    injection e1 with e1 e2
    subst e1 e2
    simp only [Nat.zero_mul, Nat.add_zero] at d0 d1 d2
    have HTX := Lib.hid (Dc.text_calls d HSD.out.1.val.fits w1 (HT.out.keep HB1.out.kept))
    rw [Dc.check_ok.2 HSD.out.1.val] at HTX
    simp only [if_true] at HTX
    unfold Dc.dV at HTX
    clear hdl
    go_wp2_with fail
    refine HTX.out.mono ?_
    rintro e w2 ⟨v, rfl, hv, hb⟩
    have HB2 := Lib.hid (HB1.out.next hb)
    have HV := Lib.hid hv
    have hvz : (v.size : Int) ≤ 39 := by rw [hv.size]; have := HSD.out.2.2.2.1; omega
    clear hb HB1 HTX hv c0 c1 c2 c3 c4 c5 d0 d1 d2
    obtain ⟨c0, c1, c2, c3, c4, c5⟩ := HB2.out.six (.head _)
    have HW := Lib.hid (sword_calls HSD.out.2.2.2.2.2 w2)
    go_wp2_with fail
    refine HW.out.mono ?_
    rintro e w3 ⟨rfl, hb⟩
    have HB3 := Lib.hid (HB2.out.next hb)
    clear hb HB2 HW c0 c1 c2 c3 c4 c5
    obtain ⟨c0, c1, c2, c3, c4, c5⟩ := HB3.out.six (.head _)
    obtain ⟨u, hu⟩ : ∃ u : ByteArray, u = ⟨(wordOf kd).toArray⟩ := ⟨_, rfl⟩
    rw [← hu]
    have hus : Str u (wordOf kd) := by rw [hu]; exact Str.mk _
    have huz : (u.size : Int) ≤ 2 := by rw [hus.size]; have := HSD.out.2.2.1; omega
    have HP := Lib.hid (line_pieces HSD.out.2.1 HV.out hus)
    have z1 : ((⟨#[58]⟩ : ByteArray).size : Int) = 1 := rfl
    have z2 : ((⟨#[124]⟩ : ByteArray).size : Int) = 1 := rfl
    have za := size_add
    clear hu hus
    by_cases hr : r = 1000000
    · have HE := Lib.hid (show (s ++ (⟨#[58]⟩ : ByteArray) ++ v ++ (⟨#[124]⟩ : ByteArray) ++ u) = ⟨(lineS (oneS name kd d r)).toArray⟩ by
        rw [HP.out.eq, lineS_one]
        unfold rateS
        rw [if_pos hr, List.append_nil])
      subst hr
      go_wp2_with fail
      go_ret2
      exact ⟨by rw [← HE.out]; first | done | rfl, HB3.out.kept⟩
    · have hrb : (r != 1000000) = true := by simpa using hr
      have hrt : textR r = rateText r.toNat ∧ errR r = 0 := by
        have := HSD.out.1.rate
        have e0 : isRate r = true := by unfold isRate; exact decide_eq_true this
        exact ⟨by unfold textR; rw [e0]; rfl, by unfold errR; rw [e0]; rfl⟩
      have HR := Lib.hid (ratetext_calls r w3 (HT.out.keep HB3.out.kept))
      unfold Told2 at HR
      rw [hrt.1, hrt.2] at HR
      obtain ⟨q, hq⟩ : ∃ q : ByteArray, q = ⟨(rateText r.toNat).toArray⟩ := ⟨_, rfl⟩
      rw [← hq] at HR
      have hqs : Str q (rateText r.toNat) := by rw [hq]; exact Str.mk _
      have hqz : (q.size : Int) ≤ 8 := by
        rw [hqs.size]
        have := HSD.out.1.rate
        have := (rateText_len (n := r.toNat) (by omega) (by omega)).2
        omega
      have HE := Lib.hid (show (s ++ (⟨#[58]⟩ : ByteArray) ++ v ++ (⟨#[124]⟩ : ByteArray) ++ u ++ ((⟨#[124, 64]⟩ : ByteArray) ++ q)) = ⟨(lineS (oneS name kd d r)).toArray⟩ by
        rw [(line_rate HP.out hqs).eq, lineS_one]
        unfold rateS
        rw [if_neg hr]
        simp)
      have z3 : ((⟨#[124, 64]⟩ : ByteArray).size : Int) = 2 := rfl
      clear hq hqs hrt hr
      go_wp2_with fail
      refine HR.out.mono ?_
      rintro e w4 ⟨rfl, hb⟩
      have HB4 := Lib.hid (HB3.out.next hb)
      clear hb HB3 HR c0 c1 c2 c3 c4 c5
      go_wp2_with fail
      go_ret2
      exact ⟨by rw [← HE.out]; first | done | rfl, HB4.out.kept⟩
  · have hl : lineT m = [] := by unfold lineT; rw [if_neg hq]
    rw [hl]
    obtain ⟨q, hqq⟩ : ∃ q, metricE m 1 = q := ⟨_, rfl⟩
    simp only [hqq] at HE0
    rw [hqq] at hq ⊢
    have hqb : (q != 0) = true := by simpa using hq
    clear hl hqq hq h z ht
    go_enter Tryz.func11, Tryz.ntmps11
    obtain ⟨c0, c1, c2, c3, c4, c5⟩ := HB.out.six (.head _)
    go_wp2_with fail
    refine (HE0.out _ (HB.out.m (.head _))).mono ?_
    rintro e w1 ⟨rfl, hb⟩
    have HB1 := Lib.hid (HB.out.next hb)
    clear hb HB HE0 c0 c1 c2 c3 c4 c5
    go_wp2_with fail
    go_ret2
    exact ⟨rfl, HB1.out.kept⟩
end Go.Proofs.YtdliookdmgilgaaGreatDoor

/-
  Layer 10: what the laws call, with its answer named; Small, many, awake. No statement of the seat is proved here.
-/
namespace Go.Proofs.YtdliookdmgilgaaGreatDoor
open Go.RowKit
open Dc (D D0)

theorem tells_says {w w' : World} {e : Ending} {x : Mt × Int × Int} {m : Mt} {c a : Int} (hx : x = (m, c, a)) (h : TellsM w x e w') :
    ∃ s A n ca B k cb, e = .returned (.tuple #[.agg #[.string s, .int .i64 m.kind, .slice A n ca, .int .i64 m.rate, .slice B k cb, .int .i64 m.time], .agg #[.int .i64 c, .int .i64 a]]) ∧ MIs w' s A n B k m ∧ Below w.heap.size w w' := by
  subst hx
  exact h
section
variable {w W : World} {L : List (Nat × TypeId × List Value)} {M : List (ByteArray × Option Addr × Nat × Option Addr × Nat × Mt)}
/-- What a call of Parse leaves: its metric and its fault are laid in two blocks. -/
def PKb (w : World) (L : List (Nat × TypeId × List Value)) (M : List (ByteArray × Option Addr × Nat × Option Addr × Nat × Mt)) (m : Mt) (c a : Int) (e : Ending) (w' : World) : Prop :=
  ∃ s A n ca B k cb, e = .returned (.tuple #[.agg #[.string s, .int .i64 m.kind, .slice A n ca, .int .i64 m.rate, .slice B k cb, .int .i64 m.time], .agg #[.int .i64 c, .int .i64 a]]) ∧ Kb w L ((s, A, n, B, k, m) :: M) w'
theorem Kb.parse_ {t : ByteArray} {l : List UInt8} {m : Mt} {c a : Int} (h : Kb w L M W) (hs : Str t l) (hl : l.length ≤ 900) (hp : parseS l = (m, c, a)) : Calls Tryz.prog 14 #[.string t] W (PKb w L M m c a) :=
  (sparse_calls hs hl W).mono fun e w' k => by
    obtain ⟨s, A, n, ca, B, k, cb, he, hm, hb⟩ := tells_says hp k
    exact ⟨s, A, n, ca, B, k, cb, he, (h.next hb).mAdd hm⟩
theorem Kb.line_ {s : ByteArray} {A B : Option Addr} {n k : Nat} {m : Mt} {t : List UInt8} {c : Int} (h : Kb w L M W) (hm : (s, A, n, B, k, m) ∈ M) (z : Small m) (ht : Tab w) (hl : lineT m = t) (hc : metricE m 1 = c) (ca cb : Nat) :
    Calls Tryz.prog 11 #[.agg #[.string s, .int .i64 m.kind, .slice A n ca, .int .i64 m.rate, .slice B k cb, .int .i64 m.time]] W fun e w' => e = .returned (.tuple #[.string ⟨t.toArray⟩, .int .i64 c]) ∧ Kb w L M w' := by
  have := sline_calls (ca := ca) (cb := cb) (h.m hm) z (ht.keep h.kept)
  rw [hl, hc] at this
  exact this.mono fun e w' k => ⟨k.1, h.next k.2⟩
/-- The two blocks that a Metric and a Fault are laid in. -/
theorem Kb.lay2 (h : Kb w L M W) (a b c d e f x y : Value) : Kb w ((W.heap.size + 1, 34, [x, y]) :: (W.heap.size, 25, [a, b, c, d, e, f]) :: L) M ((W.alloc (.cells #[a, b, c, d, e, f] 25)).alloc (.cells #[x, y] 34)) :=
  (h.push 25 [a, b, c, d, e, f]).pushAt (by rw [size_alloc]) 34 [x, y]
end

/-- A name of up to 300 bytes, up to 80 values, up to 50 tags of up to 200 bytes each. -/
def smallM (m : Mt) : Bool := decide (m.name.length ≤ 300 ∧ m.vals.length ≤ 80 ∧ m.tags.length ≤ 50 ∧ ∀ t ∈ m.tags, t.1.length ≤ 200 ∧ t.2.length ≤ 200)
theorem smallM_small {m : Mt} (h : smallM m = true) (hf : ∀ d ∈ m.vals, d.Fits) : Small m := by
  obtain ⟨h1, h2, h3, h4⟩ := of_decide_eq_true h
  exact ⟨by omega, by omega, hf, by omega, fun t ht => by have := h4 t ht; omega⟩

section
variable {w : World} {s : ByteArray} {A B : Option Addr} {n k ca cb : Nat} {m : Mt}
set_option maxRecDepth 100000 in
set_option maxHeartbeats 4000000 in
theorem small10_calls (h : MIs w s A n B k m) : Calls Tryz.prog 9 #[.agg #[.string s, .int .i64 m.kind, .slice A n ca, .int .i64 m.rate, .slice B k cb, .int .i64 m.time]] w fun e w' => e = .returned (.bool (smallM m)) ∧ Below w.heap.size w w' := by
  obtain ⟨q, hq⟩ : ∃ q, smallM m = q := ⟨_, rfl⟩
  rw [hq]
  have HQ := Lib.hid hq
  have n1 := h.name.size
  generalize m.kind = kd
  generalize m.rate = rt
  generalize m.time = tm
  have b0 := (Kb.start w).push 25 [.string s, .int .i64 kd, .slice A n ca, .int .i64 rt, .slice B k cb, .int .i64 tm]
  have HB := Lib.hid b0
  have HH := Lib.hid (And.intro h n1)
  clear b0 hq h n1
  go_enter Tryz.func9, Tryz.ntmps9
  go_wp2_with fail
  go_loopw [3] (fun v wr => ∃ i : Nat, v = .int .i64 i ∧ i ≤ k ∧ i ≤ 51 ∧ Hid (Kb w [(w.heap.size, 25, [.string s, .int .i64 kd, .slice A n ca, .int .i64 rt, .slice B k cb, .int .i64 tm])] [] wr ∧ ∀ j (h : j < m.tags.length), j < i → m.tags[j].1.length ≤ 200 ∧ m.tags[j].2.length ≤ 200)) (fun v _ => k - (intOf v).toNat)
  case atStart => exact ⟨0, rfl, by omega, by omega, ⟨HB.out, fun j _ hj => absurd hj (by omega)⟩⟩
  case round =>
    obtain ⟨i, rfl, hin, hi51, hrel⟩ := hrel
    clear HB
    obtain ⟨c0, c1, c2, c3, c4, c5⟩ := hrel.out.1.six (.head _)
    by_cases hgo : i < k ∧ i < 51
    · obtain ⟨hlt, h51⟩ := hgo
      have g1 : (i : Int) < (k : Int) := by omega
      have g2 : (0 : Int) ≤ (i : Int) := by omega
      have g3 : (i : Int) < 51 := by omega
      have hm := HH.out.1
      have l0 : i < m.tags.length := by rw [hm.tlen]; exact hlt
      obtain ⟨b, off, s1, t1, e1, d0, d1, hs, ht⟩ := (hm.tags.keep hrel.out.1.kept).get l0
      subst e1
      have z1 := hs.size
      have z2 := ht.size
      rcases (by omega : 200 < (s1.size : Int) ∨ (¬ 200 < (s1.size : Int) ∧ 200 < (t1.size : Int)) ∨ (¬ 200 < (s1.size : Int) ∧ ¬ 200 < (t1.size : Int))) with k1 | ⟨k1, k2⟩ | ⟨k1, k2⟩
      · have HE := Lib.hid (show q = false by
          rw [← HQ.out]
          exact decide_eq_false fun ⟨_, _, _, h⟩ => by have := (h _ (List.getElem_mem l0)).1; omega)
        clear hm hs ht z1 z2
        go_wp2_with fail
        go_ret
        exact ⟨by rw [HE.out]; first | done | rfl, hrel.out.1.kept⟩
      · have HE := Lib.hid (show q = false by
          rw [← HQ.out]
          exact decide_eq_false fun ⟨_, _, _, h⟩ => by have := (h _ (List.getElem_mem l0)).2; omega)
        clear hm hs ht z1 z2
        go_wp2_with fail
        go_ret
        exact ⟨by rw [HE.out]; first | done | rfl, hrel.out.1.kept⟩
      · have HE := Lib.hid (show m.tags[i].1.length ≤ 200 ∧ m.tags[i].2.length ≤ 200 by omega)
        clear hm hs ht z1 z2
        go_wp2_with fail
        refine ⟨⟨i + 1, by go_num, by omega, by omega, ⟨hrel.out.1, fun j h hj => ?_⟩⟩, by simp [intOf]; omega⟩
        rcases Nat.lt_or_ge j i with h' | h'
        · exact hrel.out.2 j h h'
        · obtain rfl : i = j := by omega
          exact HE.out
    · have hstop : (¬ (i : Int) < (k : Int)) ∨ ((i : Int) < (k : Int) ∧ ¬ (i : Int) < 51) := by omega
      have HE := Lib.hid (show q = decide ((s.size : Int) ≤ 300 ∧ (n : Int) ≤ 80 ∧ (k : Int) ≤ 50) by
        rw [← HQ.out]
        unfold smallM
        have a1 := HH.out.1.vlen
        have a2 := HH.out.1.tlen
        have a3 := HH.out.2
        by_cases h : (s.size : Int) ≤ 300 ∧ (n : Int) ≤ 80 ∧ (k : Int) ≤ 50
        · rw [decide_eq_true h]
          refine decide_eq_true ⟨by omega, by omega, by omega, fun t ht => ?_⟩
          obtain ⟨j, hj, rfl⟩ := List.mem_iff_getElem.1 ht
          exact hrel.out.2 j hj (by omega)
        · rw [decide_eq_false h]
          exact decide_eq_false fun ⟨h1, h2, h3, _⟩ => h ⟨by omega, by omega, by omega⟩)
      rcases hstop with g1 | ⟨g1, g2⟩
      all_goals
        rcases (by omega : ¬ (s.size : Int) ≤ 300 ∨ ((s.size : Int) ≤ 300 ∧ ¬ (n : Int) ≤ 80) ∨ ((s.size : Int) ≤ 300 ∧ (n : Int) ≤ 80 ∧ ¬ (k : Int) ≤ 50) ∨ ((s.size : Int) ≤ 300 ∧ (n : Int) ≤ 80 ∧ (k : Int) ≤ 50)) with h1 | ⟨h1, h2⟩ | ⟨h1, h2, h3⟩ | ⟨h1, h2, h3⟩
        · have HF := Lib.hid (show q = false by rw [HE.out]; exact decide_eq_false fun h => h1 h.1)
          go_wp2_with fail
          go_ret
          exact ⟨by rw [HF.out]; first | done | rfl, hrel.out.1.kept⟩
        · have HF := Lib.hid (show q = false by rw [HE.out]; exact decide_eq_false fun h => h2 h.2.1)
          go_wp2_with fail
          go_ret
          exact ⟨by rw [HF.out]; first | done | rfl, hrel.out.1.kept⟩
        · have HF := Lib.hid (show q = false by rw [HE.out]; exact decide_eq_false fun h => h3 h.2.2)
          go_wp2_with fail
          go_ret
          exact ⟨by rw [HF.out]; first | done | rfl, hrel.out.1.kept⟩
        · first
            | (exfalso; omega)
            | (have HF := Lib.hid (show q = true by rw [HE.out]; exact decide_eq_true ⟨h1, h2, h3⟩)
               go_wp2_with fail
               go_ret
               exact ⟨by rw [HF.out]; first | done | rfl, hrel.out.1.kept⟩)
end

def mQ : Mt := ⟨[97, 46, 98], 3, [⟨false, 15, -1⟩], 100000, [], 0⟩
theorem aq1 : parseS [97, 46, 98, 58, 49, 46, 53, 48, 124, 109, 115, 124, 64, 48, 46, 49] = (mQ, 0, 0) := by decide +kernel
theorem aq2 : parseS [97, 58, 45, 49, 124, 103] = (M0, 26, 2) := by decide +kernel
theorem aq3 : parseS [97, 58, 49, 124, 99, 124, 120] = (M0, 11, 6) := by decide +kernel
theorem aq4 : parseS [97, 58, 49] = (M0, 11, 3) := by decide +kernel
theorem aq5 : lineT mQ = [97, 46, 98, 58, 49, 46, 53, 124, 109, 115, 124, 64, 48, 46, 49] := by decide +kernel
theorem aq6 : metricE mQ 1 = 0 := by decide +kernel
theorem small_mQ : Small mQ := ⟨by decide, by decide, by intro d hd; rcases List.mem_singleton.1 hd with rfl; exact ⟨by decide, by decide, by decide⟩, by decide, by intro t ht; cases ht⟩
set_option maxRecDepth 100000 in
set_option maxHeartbeats 4000000 in
theorem awake10_calls (w : World) (ht : Tab w) : Calls Tryz.prog 10 #[] w fun e w' => e = .returned (.bool true) ∧ Below w.heap.size w w' := by
  have HT := Lib.hid ht
  clear ht
  go_enter Tryz.func10, Tryz.ntmps10
  go_wp2_with fail
  refine ((Kb.start w).parse_ (l := [97, 46, 98, 58, 49, 46, 53, 48, 124, 109, 115, 124, 64, 48, 46, 49]) (Str.mk _) (by decide) aq1).mono ?_
  rintro e w1 ⟨s1, A1, n1, ca1, B1, k1, cb1, rfl, hb⟩
  simp only [show mQ.kind = 3 from rfl, show mQ.rate = 100000 from rfl, show mQ.time = 0 from rfl]
  have hn1 : n1 = 1 := (hb.m (.head _)).vlen.symm
  have hk1 : k1 = 0 := (hb.m (.head _)).tlen.symm
  subst hn1 hk1
  have HB1 := Lib.hid (hb.lay2 (.string s1) (.int .i64 3) (.slice A1 1 ca1) (.int .i64 100000) (.slice B1 0 cb1) (.int .i64 0) (.int .i64 0) (.int .i64 0))
  clear hb
  have HL := Lib.hid (HB1.out.line_ (.head _) small_mQ HT.out aq5 aq6 ca1 cb1)
  simp only [show mQ.kind = 3 from rfl, show mQ.rate = 100000 from rfl, show mQ.time = 0 from rfl] at HL
  go_wp2_with fail
  refine HL.out.mono ?_
  rintro e w2 ⟨rfl, hb⟩
  have HB2 := Lib.hid hb
  clear hb HL HB1
  go_wp2_with fail
  refine (HB2.out.parse_ (l := [97, 58, 45, 49, 124, 103]) (Str.mk _) (by decide) aq2).mono ?_
  rintro e w3 ⟨s3, A3, n3, ca3, B3, k3, cb3, rfl, hb⟩
  simp only [show M0.kind = 0 from rfl, show M0.rate = 0 from rfl, show M0.time = 0 from rfl]
  have HB3 := Lib.hid (hb.lay2 (.string s3) (.int .i64 0) (.slice A3 n3 ca3) (.int .i64 0) (.slice B3 k3 cb3) (.int .i64 0) (.int .i64 26) (.int .i64 2))
  clear hb HB2
  go_wp2_with fail
  refine (HB3.out.parse_ (l := [97, 58, 49, 124, 99, 124, 120]) (Str.mk _) (by decide) aq3).mono ?_
  rintro e w4 ⟨s4, A4, n4, ca4, B4, k4, cb4, rfl, hb⟩
  simp only [show M0.kind = 0 from rfl, show M0.rate = 0 from rfl, show M0.time = 0 from rfl]
  have HB4 := Lib.hid (hb.lay2 (.string s4) (.int .i64 0) (.slice A4 n4 ca4) (.int .i64 0) (.slice B4 k4 cb4) (.int .i64 0) (.int .i64 11) (.int .i64 6))
  clear hb HB3
  go_wp2_with fail
  refine (HB4.out.parse_ (l := [97, 58, 49]) (Str.mk _) (by decide) aq4).mono ?_
  rintro e w5 ⟨s5, A5, n5, ca5, B5, k5, cb5, rfl, hb⟩
  simp only [show M0.kind = 0 from rfl, show M0.rate = 0 from rfl, show M0.time = 0 from rfl]
  have HB5 := Lib.hid (hb.lay2 (.string s5) (.int .i64 0) (.slice A5 n5 ca5) (.int .i64 0) (.slice B5 k5 cb5) (.int .i64 0) (.int .i64 11) (.int .i64 3))
  clear hb HB4
  obtain ⟨c0, c1, c2, c3, c4, c5⟩ := HB5.out.six (g := w1.heap.size) (.tail _ (.tail _ (.tail _ (.tail _ (.tail _ (.tail _ (.tail _ (.head _))))))))
  have f0 := HB5.out.cell (g := w1.heap.size + 1) (i := 0) (.tail _ (.tail _ (.tail _ (.tail _ (.tail _ (.tail _ (.head _))))))) rfl
  have f1 := HB5.out.cell (g := w1.heap.size + 1) (i := 1) (.tail _ (.tail _ (.tail _ (.tail _ (.tail _ (.tail _ (.head _))))))) rfl
  have g0 := HB5.out.cell (g := w3.heap.size + 1) (i := 0) (.tail _ (.tail _ (.tail _ (.tail _ (.head _))))) rfl
  have g1 := HB5.out.cell (g := w3.heap.size + 1) (i := 1) (.tail _ (.tail _ (.tail _ (.tail _ (.head _))))) rfl
  have h0 := HB5.out.cell (g := w4.heap.size + 1) (i := 0) (.tail _ (.tail _ (.head _))) rfl
  have h1 := HB5.out.cell (g := w4.heap.size + 1) (i := 1) (.tail _ (.tail _ (.head _))) rfl
  have i0 := HB5.out.cell (g := w5.heap.size + 1) (i := 0) (.head _) rfl
  have i1 := HB5.out.cell (g := w5.heap.size + 1) (i := 1) (.head _) rfl
  have hm := HB5.out.m (s := s1) (A := A1) (B := B1) (n := 1) (k := 0) (m := mQ) (.tail _ (.tail _ (.tail _ (.head _))))
  have hsn : s1 = ⟨#[97, 46, 98]⟩ := hm.name.eq
  obtain ⟨b, off, x, y, z, e1, d0, d1, d2, hdl⟩ := hm.vals.get (i := 0) (by decide)
  obtain ⟨rfl, rfl, rfl⟩ : x = false ∧ y = 15 ∧ z = -1 := ⟨hdl.neg, hdl.c, hdl.e⟩
  subst e1
  simp only [Nat.zero_mul, Nat.add_zero] at d0 d1 d2
  have HB6 := Lib.hid HB5.out.kept
  have q1 := fun w => fne_run (x := 0) (y := 0) (u := 0) (v := 0) (q := true) (by decide) w
  have q2 := fun w => feq_run (x := 26) (y := 2) (u := 26) (v := 2) (q := true) (by decide) w
  have q3 := fun w => feq_run (x := 11) (y := 6) (u := 11) (v := 6) (q := true) (by decide) w
  have q4 := fun w => feq_run (x := 11) (y := 3) (u := 11) (v := 3) (q := true) (by decide) w
  have q5 := fun w => dne_run (Dl.mk_ ⟨false, 15, -1⟩) (Dl.mk_ ⟨false, 15, -1⟩) (q := true) (by decide) w
  have hg := fguard
  have hg2 := dguard
  go_upto_region 6 with fail
  generalize World.alloc _ (.cells #[.int .i64 11, .int .i64 3] 34) = W5 at *
  subst hsn
  clear HB5 hm hdl
  go_wp2_with fail
  go_ret
  exact ⟨rfl, HB6.out⟩
section
variable {w W : World} {L : List (Nat × TypeId × List Value)} {M : List (ByteArray × Option Addr × Nat × Option Addr × Nat × Mt)}
theorem Kb.small10_ {x : Bool} {s : ByteArray} {A B : Option Addr} {n k : Nat} {m : Mt} (h : Kb w L M W) (hm : (s, A, n, B, k, m) ∈ M) (hx : smallM m = x) (ca cb : Nat) :
    Calls Tryz.prog 9 #[.agg #[.string s, .int .i64 m.kind, .slice A n ca, .int .i64 m.rate, .slice B k cb, .int .i64 m.time]] W fun e w' => e = .returned (.bool x) ∧ Kb w L M w' := by
  have := small10_calls (ca := ca) (cb := cb) (h.m hm)
  rw [hx] at this
  exact this.mono fun e w' k => ⟨k.1, h.next k.2⟩
theorem Kb.awake10_ (h : Kb w L M W) (ht : Tab w) : Calls Tryz.prog 10 #[] W fun e w' => e = .returned (.bool true) ∧ Kb w L M w' :=
  (awake10_calls W (ht.keep h.kept)).mono fun _ _ k => ⟨k.1, h.next k.2⟩
theorem Kb.emetric10_ {s : ByteArray} {A B : Option Addr} {n k : Nat} {m : Mt} {c : Int} (h : Kb w L M W) (hm : (s, A, n, B, k, m) ∈ M) (z : Small m) (hx : metricE m 1 = c) (ca cb : Nat) :
    Calls Tryz.prog 21 #[.agg #[.string s, .int .i64 m.kind, .slice A n ca, .int .i64 m.rate, .slice B k cb, .int .i64 m.time], .int .i64 1] W fun e w' => e = .returned (.int .i64 c) ∧ Kb w L M w' := by
  have := emetric_calls (ca := ca) (cb := cb) (h.m hm) z (f := 1) (show (Lit.int .i64 1).wf = true by decide)
  rw [hx] at this
  exact this.mono fun e w' k => ⟨k.1, h.next k.2⟩
end
end Go.Proofs.YtdliookdmgilgaaGreatDoor
