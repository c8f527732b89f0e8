/-
  The walk of NumParses. No statement of the seat is proved here.
-/
import Derived.Test.YtgcacbkoilmofaaDoorNAwake
import Derived.Test.YtgcacbkoilmofaaDoorNRefParse
namespace Go.Proofs.YtgcacbkoilmofaaDoor
open Go.RowKit

theorem rparse_says {s : ByteArray} {l : List UInt8} {lo hi n a b : Int} (h : Str s l) (hz : (s.size : Int) ≤ 1000) (hp : parsed l lo hi = (n, a, b)) (w : World) : Calls Tryd.prog 10 #[.string s, .int .i64 lo, .int .i64 hi] w fun e w' => e = .returned (.tuple #[.int .i64 n, .agg #[.int .i64 a, .int .i64 b]]) ∧ Below w.heap.size w w' := by
  have := rparse_calls s l h hz lo hi w
  rw [hp] at this
  exact this
theorem time_says {s : ByteArray} {l : List UInt8} {n a b : Int} (h : Str s l) (hz : (s.size : Int) ≤ 1000) (hp : parsed l 1 1099511627776 = (n, a, b)) (w : World) : Calls Tryd.prog 11 #[.string s] w fun e w' => e = .returned (.tuple #[.int .i64 n, .agg #[.int .i64 a, .int .i64 b]]) ∧ Below w.heap.size w w' := by
  have := time_calls s l h hz w
  rw [hp] at this
  exact this

set_option maxRecDepth 100000 in
set_option maxHeartbeats 4000000 in
theorem nparses_walk (s : ByteArray) (lo hi : Int) (w : World) (ht : Tab w) (hm : s.size ≤ maxLen) : Calls Tryd.prog 3 #[.string s, .int .i64 lo, .int .i64 hi] w fun e w' => e = .returned (.bool true) ∧ Below w.heap.size w w' := by
  have HT := Lib.hid ht
  clear ht
  unfold maxLen at hm
  by_cases h200 : 200 < (s.size : Int)
  · go_enter Tryd.func3, Tryd.ntmps3
    go_wp2_with fail
    refine (awake5_calls _ HT.out).mono ?_
    rintro e w1 ⟨rfl, hb⟩
    have HB := Lib.hid hb
    clear hb
    go_wp2_with fail
    go_ret
    exact ⟨rfl, HB.out⟩
  · have hs := Str.self s
    have hz : (s.size : Int) ≤ 1000 := by omega
    obtain ⟨n, a, b, h1⟩ : ∃ n a b, parsed s.data.toList lo hi = (n, a, b) := ⟨_, _, _, rfl⟩
    obtain ⟨m, c, d, h2⟩ : ∃ n a b, parsed s.data.toList 1 1099511627776 = (n, a, b) := ⟨_, _, _, rfl⟩
    have H1 := Lib.hid (fun W => parse_says hs hz h1 W)
    have H2 := Lib.hid (fun W => rparse_says hs hz h1 W)
    have H3 := Lib.hid (fun W => time_says hs hz h2 W)
    have H4 := Lib.hid (fun W => rparse_says hs hz h2 W)
    have HW0 := Lib.hid (FAt.start w)
    clear hs h1 h2 hm
    go_enter Tryd.func3, Tryd.ntmps3
    go_wp2_with fail
    refine (H1.out _).mono ?_
    rintro e w1 ⟨rfl, hb⟩
    have HW1 := Lib.hid ((HW0.out.next hb).push (.int .i64 a) (.int .i64 b))
    clear hb HW0 H1
    go_wp2_with fail
    refine (H2.out _).mono ?_
    rintro e w2 ⟨rfl, hb⟩
    have HW2 := Lib.hid ((HW1.out.next hb).push (.int .i64 a) (.int .i64 b))
    clear hb HW1 H2
    go_wp2_with fail
    refine (H3.out _).mono ?_
    rintro e w3 ⟨rfl, hb⟩
    have HW3 := Lib.hid ((HW2.out.next hb).push (.int .i64 c) (.int .i64 d))
    clear hb HW2 H3
    go_wp2_with fail
    refine (H4.out _).mono ?_
    rintro e w4 ⟨rfl, hb⟩
    have HW4 := Lib.hid ((HW3.out.next hb).push (.int .i64 c) (.int .i64 d))
    clear hb HW3 H4
    obtain ⟨k10, k11⟩ := HW4.out.cells (g := w1.heap.size) (a := .int .i64 a) (b := .int .i64 b) (by simp)
    obtain ⟨k20, k21⟩ := HW4.out.cells (g := w2.heap.size) (a := .int .i64 a) (b := .int .i64 b) (by simp)
    obtain ⟨k30, k31⟩ := HW4.out.cells (g := w3.heap.size) (a := .int .i64 c) (b := .int .i64 d) (by simp)
    obtain ⟨k40, k41⟩ := HW4.out.cells (g := w4.heap.size) (a := .int .i64 c) (b := .int .i64 d) (by simp)
    go_wp2_with fail
    refine (awake5_calls _ (HW4.out.tab HT.out)).mono ?_
    rintro e w5 ⟨rfl, hb⟩
    have HB := Lib.hid (below_then HW4.out.kept hb)
    clear hb k10 k11 k20 k21 k30 k31 k40 k41
    go_wp2_with fail
    go_ret
    exact ⟨rfl, HB.out⟩
end Go.Proofs.YtgcacbkoilmofaaDoor
