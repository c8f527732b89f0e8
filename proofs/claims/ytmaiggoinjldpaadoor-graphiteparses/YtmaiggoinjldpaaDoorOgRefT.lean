/-
  The document's Time and Text of numbers, and Text of tags. No statement of the seat is proved here.
-/
import Derived.Test.YtmaiggoinjldpaaDoorNRefParse
import Derived.Test.YtmaiggoinjldpaaDoorGrNRefDigits
import Derived.Test.YtmaiggoinjldpaaDoorGrTText
import Derived.Test.YtmaiggoinjldpaaDoorGrDigs
import Derived.Deep.RegionHeld3
namespace Go.Proofs.YtmaiggoinjldpaaDoor
open Go.RowKit

theorem rtime5_calls (s : ByteArray) (l : List UInt8) (h : Str s l) (hz : (s.size : Int) ≤ 9000) (w : World) : Calls Tryd.prog 25 #[.string s] w (Told3 w (parsed l 1 1099511627776)) := by
  have HT := Lib.hid (rparse_calls s l h hz 1 1099511627776)
  clear h hz
  have b0 := Box.new w 29 [.int .i64 0, .int .i64 0]
  generalize parsed l 1 1099511627776 = r at HT
  obtain ⟨n, x, y⟩ := r
  go_enter Tryd.func25, Tryd.ntmps25
  go_wp2_with fail
  refine (HT.out _).mono ?_
  rintro e w1 ⟨rfl, hb⟩
  have b1 := b0.keep hb
  have kk := below_then ((Below.refl w.heap.size w).alloc (Nat.le_refl _) (.cells #[.int .i64 0, .int .i64 0] 29)) (hb.mono (by simp))
  have c0 : w1.cell? ⟨w.heap.size, 0, none⟩ = some (.int .i64 0) := b1.cell 0
  have c1 : w1.cell? ⟨w.heap.size, 1, none⟩ = some (.int .i64 0) := b1.cell 1
  have f0 := b1.frozen 0
  have f1 := b1.frozen 1
  have HF := Lib.hid (fun x y => laidF_is b1 kk x y)
  clear b1 kk hb HT b0
  go_wp2_with fail
  refine ret_nf rfl rfl rfl rfl (HF.out _ _).1 ?_
  exact told3_of rfl (HF.out _ _).2
theorem textT_snoc {ts : List Tg} {i : Nat} (hi : i < ts.length) : textT (ts.take (i + 1)) = if i = 0 then txt ts[i] else textT (ts.take i) ++ 44 :: txt ts[i] := by
  rw [List.take_succ_eq_append_getElem hi]
  unfold textT
  rw [List.map_append, List.map_cons, List.map_nil]
  by_cases h0 : i = 0
  · subst h0
    rw [if_pos rfl, List.take_zero, List.map_nil, List.nil_append, Lib.join_one]
  · rw [if_neg h0]
    have hne : (ts.take i).map txt ≠ [] := by
      intro e
      have := congrArg List.length e
      rw [List.length_map, List.length_take, List.length_nil] at this
      omega
    rcases hx : (ts.take i).map txt with _ | ⟨a, xs⟩
    · exact absurd hx hne
    · rw [List.cons_append, Lib.join_cons, Lib.join_cons]
      unfold Lib.joinTail
      simp
end Go.Proofs.YtmaiggoinjldpaaDoor
