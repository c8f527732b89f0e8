/-
  The document's Time and Text of numbers, and Text of tags. No statement of the seat is proved here.
-/
import Derived.Test.YtmaiggoinjldpaaGreatDoorGrTOne
import Derived.Test.YtmaiggoinjldpaaGreatDoorNRefDigits
import Derived.Test.YtmaiggoinjldpaaGreatDoorGrTText
import Derived.Test.YtmaiggoinjldpaaGreatDoorGrMem
import Derived.Deep.RegionHeld3
namespace Go.Proofs.YtmaiggoinjldpaaGreatDoor
open Go.RowKit

set_option maxRecDepth 100000 in
theorem rtext5_calls (n : Int) (h0 : 0 ≤ n) (h1 : n ≤ 9223372036854775807) (w : World) : Calls Tryz.prog 16 #[.int .i64 n] w fun e w' => e = .returned (.string ⟨(Lib.decDigits n.toNat).toArray⟩) ∧ Below w.heap.size w w' := by
  have hc := digits5_calls n.toNat (by unfold Two64; omega)
  have hcu : IntKind.u64.wrap n = n := by rw [IntKind.wrap_u64]; omega
  rw [show ((n.toNat : Nat) : Int) = n by omega] at hc
  have HC := Lib.hid hc
  obtain ⟨t, ht⟩ : ∃ t : ByteArray, t = ⟨(Lib.decDigits n.toNat).toArray⟩ := ⟨_, rfl⟩
  rw [← ht] at HC ⊢
  clear hc ht
  go_enter Tryz.func16, Tryz.ntmps16
  go_wp2_with fail
  refine (HC.out _).mono ?_
  rintro e w1 ⟨rfl, k, rfl⟩
  clear HC
  go_wp2_with fail
  go_ret
  exact ⟨rfl, Same.below (Same.drewN _ k)⟩

theorem textT_snoc {ts : List Tg} {i : Nat} (hi : i < ts.length) : textT (ts.take (i + 1)) = if i = 0 then txt ts[i] else textT (ts.take i) ++ 44 :: txt ts[i] := by
  rw [List.take_succ_eq_append_getElem hi]
  unfold textT
  rw [List.map_append, List.map_cons, List.map_nil]
  by_cases h0 : i = 0
  · subst h0
    rw [if_pos rfl, List.take_zero, List.map_nil, List.nil_append, Lib.join_one]
  · rw [if_neg h0]
    have hne : (ts.take i).map txt ≠ [] := by
      intro e
      have := congrArg List.length e
      rw [List.length_map, List.length_take, List.length_nil] at this
      omega
    rcases hx : (ts.take i).map txt with _ | ⟨a, xs⟩
    · exact absurd hx hne
    · rw [List.cons_append, Lib.join_cons, Lib.join_cons]
      unfold Lib.joinTail
      simp
end Go.Proofs.YtmaiggoinjldpaaGreatDoor
