/-
  Layer 8's awake. No statement of the seat is proved here.
-/
import Derived.Test.YtikdolgcdkmmaaaBTxt0
import Derived.Test.YtikdolgcdkmmaaaMAwake
namespace Go.Proofs.Ytikdolgcdkmmaaa
open Go.RowKit
open Dc (D D0)

def eA (A : Option Addr) : En := ⟨⟨#[97]⟩, A, 1, 1, none, 0, 0, ⟨[97], 1, [D0], 1000000, [], 0⟩⟩
def eB : En := ⟨⟨#[97]⟩, none, 0, 0, none, 0, 0, ⟨[97], 1, [], 1000000, [], 0⟩⟩
def eN (b : UInt8) : En := ⟨⟨#[b]⟩, none, 0, 0, none, 0, 0, ⟨[b], 0, [], 0, [], 0⟩⟩
theorem lies_new (w : World) (t : TypeId) (xs : List Value) {n : Nat} (hn : w.heap.size = n) : Lies (w.alloc (.cells xs.toArray t)) (some ⟨n, 0, none⟩) xs := by
  subst hn
  intro i u hu
  exact ⟨w.heap.size, 0, rfl, by rw [Nat.zero_add, (Box.new w t xs).cell i]; exact hu⟩
theorem misN (w : World) (b : UInt8) : MIs w ⟨#[b]⟩ none 0 none 0 ⟨[b], 0, [], 0, [], 0⟩ := ⟨rfl, rfl, Decs.nil, rfl, Tags.nil⟩
theorem misB (w : World) : MIs w ⟨#[97]⟩ none 0 none 0 ⟨[97], 1, [], 1000000, [], 0⟩ := ⟨rfl, rfl, Decs.nil, rfl, Tags.nil⟩
theorem mets_ab (w : World) : Mets ((w.alloc (.cells #[.bool false, .int .u64 0, .int .i64 0] 39)).alloc (.cells #[.string ⟨#[97]⟩, .int .i64 1, .slice (some ⟨w.heap.size, 0, none⟩) 1 1, .int .i64 1000000, .slice none 0 0, .int .i64 0, .string ⟨#[97]⟩, .int .i64 1, .slice none 0 0, .int .i64 1000000, .slice none 0 0, .int .i64 0] 25))
    (some ⟨w.heap.size + 1, 0, none⟩) [eA (some ⟨w.heap.size, 0, none⟩), eB] := by
  refine ⟨lies_new _ 25 (flatM [eA (some ⟨w.heap.size, 0, none⟩), eB]) (size_alloc _ _), fun e he => ?_⟩
  rcases List.mem_cons.1 he with rfl | he
  · exact ⟨rfl, rfl, (decs_at rfl (show Dl false 0 0 D0 from ⟨rfl, rfl, rfl⟩)).alloc _, rfl, Tags.nil⟩
  · rcases List.mem_singleton.1 he with rfl
    exact misB _
theorem mets_bab (w : World) : Mets (w.alloc (.cells #[.string ⟨#[98]⟩, .int .i64 0, .slice none 0 0, .int .i64 0, .slice none 0 0, .int .i64 0, .string ⟨#[97]⟩, .int .i64 0, .slice none 0 0, .int .i64 0, .slice none 0 0, .int .i64 0, .string ⟨#[98]⟩, .int .i64 0, .slice none 0 0, .int .i64 0, .slice none 0 0, .int .i64 0] 25))
    (some ⟨w.heap.size, 0, none⟩) [eN 98, eN 97, eN 98] := by
  refine ⟨lies_new w 25 (flatM [eN 98, eN 97, eN 98]) rfl, fun e he => ?_⟩
  rcases List.mem_cons.1 he with rfl | he
  · exact misN _ 98
  · rcases List.mem_cons.1 he with rfl | he
    · exact misN _ 97
    · rcases List.mem_singleton.1 he with rfl
      exact misN _ 98
theorem fw_ab (A : Option Addr) : fwB checkM (datM [eA A, eB]) = (1, 17) := by
  have : datM [eA A, eB] = [⟨[97], 1, [D0], 1000000, [], 0⟩, ⟨[97], 1, [], 1000000, [], 0⟩] := rfl
  rw [this]
  decide +kernel
theorem small_a1 : Small ⟨[97], 1, [D0], 1000000, [], 0⟩ := ⟨by decide, by decide, by intro d hd; rcases List.mem_singleton.1 hd with rfl; exact ⟨by decide, by decide, by decide⟩, by decide, by decide⟩
theorem small_b1 : Small ⟨[97], 1, [], 1000000, [], 0⟩ := ⟨by decide, by decide, (by intro d hd; cases hd), by decide, by decide⟩
theorem small_ab (A : Option Addr) : Smalls [eA A, eB] := fun e he => by
  rcases List.mem_cons.1 he with rfl | he
  · exact small_a1
  · rcases List.mem_singleton.1 he with rfl
    exact small_b1

set_option maxRecDepth 100000 in
set_option maxHeartbeats 4000000 in
theorem awake8_calls (w : World) : Calls Try.prog 16 #[] w fun e w' => e = .returned (.bool true) ∧ Below w.heap.size w w' := by
  have hC := bcheck_calls (cap := 2) (len := 2) rfl (by omega) (mets_ab w) (small_ab _)
  rw [fw_ab] at hC
  have HC := Lib.hid hC
  have HB := Lib.hid (below_then (m_below w (.cells #[.bool false, .int .u64 0, .int .i64 0] 39)) (m_below _ (.cells #[.string ⟨#[97]⟩, .int .i64 1, .slice (some ⟨w.heap.size, 0, none⟩) 1 1, .int .i64 1000000, .slice none 0 0, .int .i64 0, .string ⟨#[97]⟩, .int .i64 1, .slice none 0 0, .int .i64 1000000, .slice none 0 0, .int .i64 0] 25)))
  clear hC
  go_enter Try.func16, Try.ntmps16
  go_wp2_with fail
  refine HC.out.mono ?_
  rintro e w2 ⟨rfl, hb⟩
  have hN := bnames_calls (cap := 3) (len := 3) rfl (by omega) (mets_bab w2) (fun e he => by
    rcases List.mem_cons.1 he with rfl | he
    · decide
    · rcases List.mem_cons.1 he with rfl | he
      · decide
      · rcases List.mem_singleton.1 he with rfl
        decide)
  rw [show namesOf (datM [eN 98, eN 97, eN 98]) = [[98], [97]] by decide] at hN
  have HN := Lib.hid hN
  have HB2 := Lib.hid (below_then (below_then HB.out hb) (m_below w2 (.cells #[.string ⟨#[98]⟩, .int .i64 0, .slice none 0 0, .int .i64 0, .slice none 0 0, .int .i64 0, .string ⟨#[97]⟩, .int .i64 0, .slice none 0 0, .int .i64 0, .slice none 0 0, .int .i64 0, .string ⟨#[98]⟩, .int .i64 0, .slice none 0 0, .int .i64 0, .slice none 0 0, .int .i64 0] 25)))
  clear hb hN HC HB
  go_wp2_with fail
  refine HN.out.mono ?_
  rintro e w3 ⟨⟨A', c', rfl, hc, hs⟩, hb⟩
  have hT := texts_calls (ca := c') (cb := 2) (n := 2) (m := 2) (ss := [[98], [97]]) (ts := [[98], [97]]) (w := w3.alloc (.cells #[.string ⟨#[98]⟩, .string ⟨#[97]⟩] 9)) rfl rfl (hs.keep (m_below _ _)) (lies_new w3 9 [.string ⟨#[98]⟩, .string ⟨#[97]⟩] rfl) (by omega)
  have HT := Lib.hid hT
  have HB3 := Lib.hid (below_then (below_then HB2.out hb) (m_below w3 (.cells #[.string ⟨#[98]⟩, .string ⟨#[97]⟩] 9)))
  clear hb hT hs hc HN HB2
  go_wp2_with fail
  refine HT.out.mono ?_
  rintro e w4 ⟨rfl, hb⟩
  have HB4 := Lib.hid (below_then HB3.out hb)
  clear hb HT HB3
  go_wp2_with fail
  go_ret
  exact ⟨rfl, HB4.out⟩
end Go.Proofs.Ytikdolgcdkmmaaa
