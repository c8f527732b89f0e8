/-
  The document's Line of a metric that Graphite can say. No statement of the seat is proved here.
-/
import Derived.Test.YtmaiggoinjldpaaGreatDoorGrLine
import Derived.Test.YtmaiggoinjldpaaGreatDoorOgRefT
import Derived.Test.YtmaiggoinjldpaaGreatDoorDRefText
import Derived.Lib.QuietBelow
namespace Go.Proofs.YtmaiggoinjldpaaGreatDoor
open Go.RowKit Go.Sort
open Dc (D D0)

set_option maxRecDepth 100000 in
set_option maxHeartbeats 4000000 in
theorem rgline_calls {w : World} {s : ByteArray} {A B : Option Addr} {n k ca cb : Nat} {name : List UInt8} {d : D} {t : Int} (h : MIs w s A n B k (oneG name d t)) (hsd : SaidG name d t) :
    Calls Tryz.prog 8 #[.agg #[.string s, .int .i64 2, .slice A n ca, .int .i64 1000000, .slice B k cb, .int .i64 t]] w fun e w' => e = .returned (.string ⟨(lineG (oneG name d t)).toArray⟩) ∧ Below w.heap.size w w' := by
  have HB := Lib.hid (show Kb w [(w.heap.size, 25, [.string s, .int .i64 2, .slice A n ca, .int .i64 1000000, .slice B k cb, .int .i64 t])] [(s, A, n, B, k, oneG name d t)] (w.alloc (.cells #[.string s, .int .i64 2, .slice A n ca, .int .i64 1000000, .slice B k cb, .int .i64 t] 25)) from Kb.enter (ca := ca) (cb := cb) h)
  have h1 : n = 1 := h.vlen.symm
  subst h1
  have hv : Decs w A [d] := h.vals
  obtain ⟨b, off, x, y, zz, e1, _, _, _, hdl⟩ := hv.get (i := 0) (by simp)
  subst e1
  have hns : Str s name := h.name
  have hnb := name_bytes hsd.name
  have hnz : (s.size : Int) ≤ 200 := by rw [hns.size]; omega
  have htm := timeG_len hsd.time
  have htl := Dc.text_length hsd.val
  have hmt : MaxT = 1099511627776 := rfl
  have htime := hsd.time
  have hvs := Str.mk (Dc.text d)
  have hus := Str.mk (Lib.decDigits t.toNat)
  have hT : ∀ W, Calls Tryz.prog 15 #[.agg #[.bool d.neg, .int .u64 d.c, .int .i64 d.e]] W fun e w' => e = .returned (.string ⟨(Dc.text d).toArray⟩) ∧ Below W.heap.size W w' := fun W =>
    (Dc.rtext_calls d hsd.val W).mono fun e w' ⟨t, e1, ht, hb⟩ => ⟨by rw [e1, ht.eq], hb⟩
  have hW := fun W => rtext5_calls t (by omega) (by omega) W
  have HQT := Lib.hid (fun x os => Calls.regrown_of (hT (grow (redrawn (w.alloc (.cells #[.string s, .int .i64 2, .slice (some ⟨b, off, none⟩) 1 ca, .int .i64 1000000, .slice B k cb, .int .i64 t] 25)) x) os)))
  have HQW := Lib.hid (fun x os => Calls.regrown_of (hW (grow (redrawn (w.alloc (.cells #[.string s, .int .i64 2, .slice (some ⟨b, off, none⟩) 1 ca, .int .i64 1000000, .slice B k cb, .int .i64 t] 25)) x) os)))
  generalize (⟨(Dc.text d).toArray⟩ : ByteArray) = v at hvs HQT
  generalize (⟨(Lib.decDigits t.toNat).toArray⟩ : ByteArray) = u at hus HQW
  have hvz : (v.size : Int) ≤ 39 := by rw [hvs.size]; omega
  have huz : (u.size : Int) ≤ 20 := by rw [hus.size]; omega
  have HP := Lib.hid (lineG_pieces hns hvs hus)
  have z1 : ((⟨#[32]⟩ : ByteArray).size : Int) = 1 := rfl
  have za := sizeG_add
  obtain ⟨b', off', x', y', zz', e1, q0, q1, q2, hdl'⟩ := (hv.keep HB.out.kept).get (i := 0) (by simp)
  injection e1 with e1
  injection e1 with e1 e2
  subst e1 e2
  simp only [Nat.zero_mul, Nat.add_zero] at q0 q1 q2
  obtain ⟨rfl, rfl, rfl⟩ : x' = d.neg ∧ y' = (d.c : Int) ∧ zz' = d.e := ⟨hdl'.neg, hdl'.c, hdl'.e⟩
  have d0 := cell_regrown q0
  have d1 := cell_regrown q1
  have d2 := cell_regrown q2
  obtain ⟨m0, m1, m2, m3, m4, m5⟩ := HB.out.sixq (.head _)
  have HE := Lib.hid (show (s ++ (⟨#[32]⟩ : ByteArray) ++ v ++ (⟨#[32]⟩ : ByteArray) ++ u) = ⟨(lineG (oneG name d t)).toArray⟩ by
    rw [HP.out.eq, lineG_one])
  clear h hv hdl hdl' hns hnb htm htl hvs hus hsd hT hW htime hmt
  go_enter Tryz.func8, Tryz.ntmps8
  go_wp2_with fail
  refine wp_region_quiet_below (by kernel_rfl) (by kernel_rfl) ?_
  repeat (go_big_quiet_step (first | with_reducible exact HQT.out _ _ | with_reducible exact HQW.out _ _))
  refine wpQuiet_nil ?_
  rintro _ ⟨⟨dq, osq⟩, rfl⟩
  have hb := HB.out.next (below_regrown _ dq osq)
  have HB2 := Lib.hid hb
  clear hb HB m0 m1 m2 m3 m4 m5 d0 d1 d2 q0 q1 q2 HQT HQW
  go_wp2_with fail
  go_ret
  exact ⟨by rw [← HE.out]; first | done | rfl, HB2.out.kept⟩
end Go.Proofs.YtmaiggoinjldpaaGreatDoor
