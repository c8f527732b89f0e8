/-
  What package varint's Read tells of a nil Cur. No statement of the seat is proved here.
-/
import Derived.Test.YtiodeaoollhcgaaVRead
namespace Go.Proofs.Ytiodeaoollhcgaa
open Go.RowKit

theorem read1_nil (w w1 : World) (g : Nat) (hk : Below w.heap.size w w1) (hb : Box w1 g 34 [.pointer none]) :
    Calls Try.prog 30 #[.pointer (some ⟨g, 0, none⟩)] w1 (Tells 0 false (fun w2 => Below w.heap.size w w2 ∧ Box w2 g 34 [.pointer none])) := by
  have hfd := fault_code
  have c0 : w1.cell? ⟨g, 0, none⟩ = some (.pointer none) := hb.cell 0
  have HB := Lib.hid hb
  have HK := Lib.hid hk
  clear hb hk
  go_enter Try.func30, Try.ntmps30
  go_wp2_with fail
  refine (byte_nil w1).mono ?_
  rintro e w2 ⟨rfl, hb2⟩
  clear c0
  have HB2 := Lib.hid (HB.out.keep hb2)
  have c0 : w2.cell? ⟨g, 0, none⟩ = some (.pointer none) := HB2.out.cell 0
  have HK2 := Lib.hid (below_then HK.out (hb2.mono (Nat.le_refl _)))
  clear hb2
  go_wp2_with fail
  refine (fault_nil w2).mono ?_
  rintro e w3 ⟨rfl, hb3⟩
  have HF := Lib.hid (show Below w.heap.size w w3 ∧ Box w3 g 34 [.pointer none] from ⟨below_then HK2.out hb3, HB2.out.keep hb3⟩)
  clear hb3 c0
  go_wp2_with fail
  go_ret2
  exact ⟨rfl, HF.out⟩

set_option maxRecDepth 100000 in
theorem read_nil (w : World) : Calls Try.prog 17 #[.pointer none] w fun e w' => e = .returned (.int .u64 0) ∧ Below w.heap.size w w' := by
  have hmf : ∀ (fn : Fn) (first cap : Array Value) (w : World), (Instr.makeFunc fn first cap).run Try.prog w = .ok (.func fn first cap) w := fun _ _ _ _ => rfl
  have hk1 : Below w.heap.size w (w.alloc (.cells #[.pointer none] 34)) := (Below.refl _ _).alloc (Nat.le_refl _) _
  have HA := Lib.hid (number_calls (w.alloc (.cells #[.pointer none] 34)) 30 #[.pointer (some ⟨w.heap.size, 0, none⟩)] (fun _ _ => by kernel_rfl) [] (by simp)
    (fun _ w1 => Below w.heap.size w w1 ∧ Box w1 w.heap.size 34 [.pointer none]) (fun w1 => Below w.heap.size w w1 ∧ Box w1 w.heap.size 34 [.pointer none]) (fun k w2 hk => absurd hk (by simp)) (fun w1 h => read1_nil w w1 _ h.1 h.2) ⟨hk1, Box.new w _ _⟩)
  clear hk1
  go_enter Try.func17, Try.ntmps17
  go_wp2_with fail
  refine HA.out.mono ?_
  rintro e w2 ⟨rfl, h2⟩
  have e1 : scan 0 0 [] = (0, 0, 13) := rfl
  rw [e1] at h2 ⊢
  rw [if_pos rfl] at h2
  clear e1
  have c0 : w2.cell? ⟨w.heap.size, 0, none⟩ = some (.pointer none) := h2.2.cell 0
  have HK := Lib.hid (h2.1.trans (⟨rfl, rfl, rfl, Nat.le_refl _, fun _ _ => rfl⟩ : Below w.heap.size w2 w2.drew))
  have HAT := Lib.hid (show Calls Try.prog 21 #[.pointer none] w2.drew fun e w' => e = .returned (.int .i64 0) ∧ w' = w2.drew from (at_nil w2.drew).mono fun _ _ ⟨he, hw⟩ => ⟨he, hw.symm⟩)
  clear h2 HA hmf
  go_wp2_with fail
  go_still_tail 5, (by kernel_rfl)
  still_call HAT.out
  repeat still_step
  refine wpStill_nil ?_
  change wpList _ _ _ _ _ w2.drew
  generalize w2.drew = w3 at HK ⊢
  clear c0 HAT
  go_wp2_with fail
  refine (fail_nil w3 13 (-1)).mono ?_
  rintro e w4 ⟨rfl, hb4⟩
  have HF := Lib.hid (HK.out.trans (hb4.mono HK.out.size))
  clear hb4 HK
  go_wp2_with fail
  go_ret
  exact ⟨rfl, HF.out⟩
end Go.Proofs.Ytiodeaoollhcgaa
