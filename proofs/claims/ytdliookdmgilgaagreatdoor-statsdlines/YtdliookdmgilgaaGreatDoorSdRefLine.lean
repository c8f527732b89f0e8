/-
  The document's Line of a metric that StatsD can say. No statement of the seat is proved here.
-/
import Derived.Test.YtdliookdmgilgaaGreatDoorGrSdSLine
import Derived.Test.YtdliookdmgilgaaGreatDoorGrSdRef
import Derived.Test.YtdliookdmgilgaaGreatDoorDRefText
import Derived.Test.YtdliookdmgilgaaGreatDoorNRefRate
namespace Go.Proofs.YtdliookdmgilgaaGreatDoor
open Go.RowKit Go.Sort
open Dc (D D0)

set_option maxRecDepth 100000 in
set_option maxHeartbeats 4000000 in
theorem rsline_calls {w : World} {s : ByteArray} {A B : Option Addr} {n k ca cb : Nat} {name : List UInt8} {kd r : Int} {d : D} (h : MIs w s A n B k (oneS name kd d r)) (hsd : Said name kd d r) :
    Calls Tryz.prog 13 #[.agg #[.string s, .int .i64 kd, .slice A n ca, .int .i64 r, .slice B k cb, .int .i64 0]] w fun e w' => e = .returned (.string ⟨(lineS (oneS name kd d r)).toArray⟩) ∧ Below w.heap.size w w' := by
  have HB := Lib.hid (show Kb w [(w.heap.size, 25, [.string s, .int .i64 kd, .slice A n ca, .int .i64 r, .slice B k cb, .int .i64 0])] [(s, A, n, B, k, oneS name kd d r)] (w.alloc (.cells #[.string s, .int .i64 kd, .slice A n ca, .int .i64 r, .slice B k cb, .int .i64 0] 25)) from Kb.enter (ca := ca) (cb := cb) h)
  have h1 : n = 1 := h.vlen.symm
  subst h1
  have hv : Decs w A [d] := h.vals
  obtain ⟨b, off, x, y, zz, e1, _, _, _, hdl⟩ := hv.get (i := 0) (by simp)
  subst e1
  have hns : Str s name := h.name
  have hnb := name_bytes hsd.name
  have hnz : (s.size : Int) ≤ 200 := by rw [hns.size]; omega
  have hwl := wordOf_len hsd.kind
  have htl := Dc.text_length hsd.val
  have hvs := Str.mk (Dc.text d)
  have hus := Str.mk (wordOf kd)
  have hT : ∀ W, Calls Tryz.prog 29 #[.agg #[.bool d.neg, .int .u64 d.c, .int .i64 d.e]] W fun e w' => e = .returned (.string ⟨(Dc.text d).toArray⟩) ∧ Below W.heap.size W w' := fun W =>
    (Dc.rtext_calls d hsd.val W).mono fun e w' ⟨t, e1, ht, hb⟩ => ⟨by rw [e1, ht.eq], hb⟩
  have hW := fun W => rword_calls kd W
  have HQT := Lib.hid (fun x os => Calls.regrown_of (hT (grow (redrawn (w.alloc (.cells #[.string s, .int .i64 kd, .slice (some ⟨b, off, none⟩) 1 ca, .int .i64 r, .slice B k cb, .int .i64 0] 25)) x) os)))
  have HQW := Lib.hid (fun x os => Calls.regrown_of (hW (grow (redrawn (w.alloc (.cells #[.string s, .int .i64 kd, .slice (some ⟨b, off, none⟩) 1 ca, .int .i64 r, .slice B k cb, .int .i64 0] 25)) x) os)))
  generalize (⟨(Dc.text d).toArray⟩ : ByteArray) = v at hvs HQT
  generalize (⟨(wordOf kd).toArray⟩ : ByteArray) = u at hus HQW
  have hvz : (v.size : Int) ≤ 39 := by rw [hvs.size]; omega
  have huz : (u.size : Int) ≤ 2 := by rw [hus.size]; omega
  have HP := Lib.hid (line_pieces hns hvs hus)
  have HS := Lib.hid hsd
  have z1 : ((⟨#[58]⟩ : ByteArray).size : Int) = 1 := rfl
  have z2 : ((⟨#[124]⟩ : ByteArray).size : Int) = 1 := rfl
  have za := size_add
  obtain ⟨b', off', x', y', zz', e1, q0, q1, q2, hdl'⟩ := (hv.keep HB.out.kept).get (i := 0) (by simp)
  injection e1 with e1
  injection e1 with e1 e2
  subst e1 e2
  simp only [Nat.zero_mul, Nat.add_zero] at q0 q1 q2
  obtain ⟨rfl, rfl, rfl⟩ : x' = d.neg ∧ y' = (d.c : Int) ∧ zz' = d.e := ⟨hdl'.neg, hdl'.c, hdl'.e⟩
  have d0 := cell_regrown q0
  have d1 := cell_regrown q1
  have d2 := cell_regrown q2
  obtain ⟨m0, m1, m2, m3, m4, m5⟩ := HB.out.sixq (.head _)
  clear h hv hdl hdl' hns hnb hwl htl hvs hus hsd hT hW
  go_enter Tryz.func13, Tryz.ntmps13
  go_wp2_with fail
  refine wp_region_quiet_below (by kernel_rfl) (by kernel_rfl) ?_
  repeat (go_big_quiet_step (first | with_reducible exact HQT.out _ _ | with_reducible exact HQW.out _ _))
  refine wpQuiet_nil ?_
  rintro _ ⟨⟨dq, osq⟩, rfl⟩
  have hb := HB.out.next (below_regrown _ dq osq)
  clear m0 m1 m2 m3 m4 m5 d0 d1 d2 q0 q1 q2 HQT HQW
  obtain ⟨c0, c1, c2, c3, c4, c5⟩ := hb.six (.head _)
  have HB2 := Lib.hid hb
  clear hb HB
  by_cases hr : r = 1000000
  · have HE := Lib.hid (show (s ++ (⟨#[58]⟩ : ByteArray) ++ v ++ (⟨#[124]⟩ : ByteArray) ++ u) = ⟨(lineS (oneS name kd d r)).toArray⟩ by
      rw [HP.out.eq, lineS_one]
      unfold rateS
      rw [if_pos hr, List.append_nil])
    subst hr
    go_wp2_with fail
    go_ret
    exact ⟨by rw [← HE.out]; first | done | rfl, HB2.out.kept⟩
  · have hrb : (r != 1000000) = true := by simpa using hr
    have HR := Lib.hid (fun W => rratetext_calls r HS.out.rate.1 HS.out.rate.2 W)
    obtain ⟨q, hq⟩ : ∃ q : ByteArray, q = ⟨(rateText r.toNat).toArray⟩ := ⟨_, rfl⟩
    rw [← hq] at HR
    have hqs : Str q (rateText r.toNat) := by rw [hq]; exact Str.mk _
    have hqz : (q.size : Int) ≤ 8 := by
      rw [hqs.size]
      have := HS.out.rate
      have := (rateText_len (n := r.toNat) (by omega) (by omega)).2
      omega
    have HE := Lib.hid (show (s ++ (⟨#[58]⟩ : ByteArray) ++ v ++ (⟨#[124]⟩ : ByteArray) ++ u ++ (⟨#[124, 64]⟩ : ByteArray) ++ q) = ⟨(lineS (oneS name kd d r)).toArray⟩ by
      rw [ByteArray.append_assoc, (line_rate HP.out hqs).eq, lineS_one]
      unfold rateS
      rw [if_neg hr]
      simp)
    have z3 : ((⟨#[124, 64]⟩ : ByteArray).size : Int) = 2 := rfl
    clear hq hqs hr
    go_wp2_with fail
    refine (HR.out _).mono ?_
    rintro e w4 ⟨rfl, hb⟩
    have HB4 := Lib.hid (HB2.out.next hb)
    clear hb HB2 HR c0 c1 c2 c3 c4 c5
    go_wp2_with fail
    go_ret
    exact ⟨by rw [← HE.out]; first | done | rfl, HB4.out.kept⟩
end Go.Proofs.YtdliookdmgilgaaGreatDoor
