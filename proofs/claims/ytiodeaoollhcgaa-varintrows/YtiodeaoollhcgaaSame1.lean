/-
  The contract of the laws' own helper same: whether two rows of bytes are the same. No statement of the seat is proved here.
-/
import Derived.Test.YtiodeaoollhcgaaRows1
namespace Go.Proofs.Ytiodeaoollhcgaa
open Go.RowKit

theorem take_same_step {xs ys : List Int} {k : Nat} (h : xs.take k = ys.take k) (hx : k < xs.length) (hy : k < ys.length) (he : xs[k] = ys[k]) : xs.take (k + 1) = ys.take (k + 1) := by
  rw [List.take_succ_eq_append_getElem hx, List.take_succ_eq_append_getElem hy, h, he]

/-- What same hands back. -/
def SaysSame (w : World) (b : Bool) (e : Ending) (w' : World) : Prop := e = .returned (.bool b) ∧ Same w w'

theorem same_calls (w : World) (A B : Option Addr) (n m ca cb : Nat) (xs ys : List Int) (hx : xs.length = n) (hy : ys.length = m) (hA : Lies w A (by8 xs)) (hB : Lies w B (by8 ys)) (hn : n ≤ maxLen) (hm : m ≤ maxLen) :
    Calls Try.prog 11 #[.slice A n ca, .slice B m cb] w (SaysSame w (decide (xs = ys))) := by
  unfold maxLen at hn hm
  by_cases hl : n = m
  · subst hl
    have hne : ((n : Int) != (n : Int)) = false := by simp
    have HX := Lib.hid hx
    have HY := Lib.hid hy
    have HA := Lib.hid hA
    have HB := Lib.hid hB
    clear hx hy hA hB
    go_enter Try.func11, Try.ntmps11
    go_wp2
    go_loopw [5] (fun i wr => ∃ k : Nat, k ≤ n ∧ i = .int .i64 k ∧ Hid (xs.take k = ys.take k) ∧ Same w wr) (fun i _ => n - (intOf i).toNat)
    case atStart => exact ⟨0, Nat.zero_le _, rfl, rfl, .refl _⟩
    case round =>
      obtain ⟨k, hk, rfl, ht, hs⟩ := hrel
      by_cases hlt : k < n
      · have hkx : k < xs.length := by have := HX.out; omega
        have hky : k < ys.length := by have := HY.out; omega
        obtain ⟨b1, o1, e1, c1⟩ := (HA.out.same hs).at_ (i := k) (by rw [by8_length]; exact hkx)
        obtain ⟨b2, o2, e2, c2⟩ := (HB.out.same hs).at_ (i := k) (by rw [by8_length]; exact hky)
        subst e1 e2
        have HS := Lib.hid hs
        have HC1 := Lib.hid c1
        have HC2 := Lib.hid c2
        clear hs c1 c2
        obtain ⟨x, hxk⟩ : ∃ x, xs[k] = x := ⟨_, rfl⟩
        obtain ⟨y, hyk⟩ : ∃ y, ys[k] = y := ⟨_, rfl⟩
        have c1 : wr.cell? ⟨b1, o1 + k, none⟩ = some (.int .u8 x) := by rw [HC1.out]; simp [by8, hxk]
        have c2 : wr.cell? ⟨b2, o2 + k, none⟩ = some (.int .u8 y) := by rw [HC2.out]; simp [by8, hyk]
        have HXK := Lib.hid hxk
        have HYK := Lib.hid hyk
        clear hxk hyk
        have hlt' : (k : Int) < (n : Int) := by omega
        have hge' : (0 : Int) ≤ (k : Int) := by omega
        by_cases hxy : x = y
        · have hb : (x != y) = false := by simp [hxy]
          have HXY := Lib.hid hxy
          clear hxy
          go_wp2_with fail
          go_quiet (fail)
          go_wp2
          go_roundw
          case rel => exact ⟨k + 1, by omega, by go_num, take_same_step ht hkx hky (by rw [HXK.out, HYK.out, HXY.out]), HS.out.trans (.drewN _ _)⟩
          case measure => simp [intOf]; omega
        · have hb : (x != y) = true := by simp [hxy]
          go_wp2_with fail
          go_quiet (fail)
          go_wp2
          go_ret
          have hne : ¬ xs = ys := by
            intro h
            subst h
            exact hxy (by rw [← HXK.out, ← HYK.out])
          exact ⟨by simp [hne], HS.out.trans (.drewN _ _)⟩
      · have HS := Lib.hid hs
        clear hs
        go_wp2
        go_ret
        have he : xs = ys := by
          have := ht.out
          rwa [List.take_of_length_le (by have := HX.out; omega), List.take_of_length_le (by have := HY.out; omega)] at this
        exact ⟨by simp [he], HS.out⟩
  · have hne : ((n : Int) != (m : Int)) = true := by simp; omega
    have hxy : ¬ xs = ys := by rintro rfl; omega
    have HX := Lib.hid hxy
    clear hxy hx hy
    go_enter Try.func11, Try.ntmps11
    go_wp2
    go_ret
    exact ⟨by simp [HX.out], .refl _⟩
end Go.Proofs.Ytiodeaoollhcgaa
