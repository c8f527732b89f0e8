/-
  The contract of the laws' own helper plays: one call of the document's Cur. No statement of the seat is proved here.
-/
import Derived.Test.YtiipkmfkelbpiaaDoes
import Derived.Test.YtiipkmfkelbpiaaRef3
namespace Go.Proofs.Ytiipkmfkelbpiaa
open Go.RowKit

section
variable {A : Option Addr} {cap : Nat} {w w' : World} {p : Nat} {s : St}

theorem RefOk.new (h : RefOk A cap w p s) (o : Obj) : RefOk A cap (w.alloc o) p s := h.keep ((Below.refl _ _).alloc (Nat.le_refl _) o)

theorem plays_calls (h : RefOk A cap w p s) (d n code : Int) :
    Calls Try.prog 15 #[.pointer (some ⟨p, 0, none⟩), .agg #[.int .i64 d, .int .i64 n, .int .i64 code]] w (RHandsRowIs A cap w p (s.does d n code).1 (s.does d n code).2.1 (s.does d n code).2.2) := by
  have hplt := h.lt
  have hb0 : Below w.heap.size w (w.alloc (.cells #[.int .i64 d, .int .i64 n, .int .i64 code] 38)) := (Below.refl _ _).alloc (Nat.le_refl _) _
  have h0 := h.keep hb0
  have bx := Box.new w 38 [.int .i64 d, .int .i64 n, .int .i64 code]
  by_cases d0 : d = 0
  · have e : s.does d n code = ([s.byte.1], true, s.byte.2) := by simp [St.does, d0]
    rw [e]
    have k0 : (d == 0) = true := by simp [d0]
    clear e d0
    go_enter Try.func15, Try.ntmps15
    go_wp2_with fail
    refine (rbyte_calls h0).mono ?_
    rintro e w1 ⟨rfl, h1, hb1⟩
    go_wp2
    go_ret2
    have hsz : w.heap.size ≤ w1.heap.size := Nat.le_trans hb0.size hb1.size
    exact ⟨_, _, rfl, own_one w1 _ hsz _, h1.new _, ((But.of_below hb0).trans hb1).alloc _⟩
  · by_cases d1 : d = 1
    · have e : s.does d n code = ([s.peek.1], s.peek.2, s) := by simp [St.does, d1]
      rw [e]
      have k0 : (d == 0) = false := by simp [d0]
      have k1 : (d == 1) = true := by simp [d1]
      clear e d0 d1
      go_enter Try.func15, Try.ntmps15
      go_wp2_with fail
      refine (rpeek_calls h0).mono ?_
      rintro e w1 ⟨rfl, hb1⟩
      go_wp2
      go_ret2
      have hsz : w.heap.size ≤ w1.heap.size := Nat.le_trans hb0.size hb1.size
      exact ⟨_, _, rfl, own_one w1 _ hsz _, (h0.keep hb1).new _, ((But.of_below hb0).trans (.of_below hb1)).alloc _⟩
    · by_cases d2 : d = 2
      · have e : s.does d n code = ((s.take n).1, true, (s.take n).2) := by simp [St.does, d2]
        rw [e]
        have k0 : (d == 0) = false := by simp [d0]
        have k1 : (d == 1) = false := by simp [d1]
        have k2 : (d == 2) = true := by simp [d2]
        clear e d0 d1 d2
        go_enter Try.func15, Try.ntmps15
        go_wp2_with fail
        refine (rtake_calls h0 n).mono ?_
        rintro e w1 ⟨B, capB, rfl, hown, h1, hb1⟩
        have HO := Lib.hid hown
        clear hown
        go_wp2
        go_ret2
        exact ⟨B, capB, rfl, own_base HO.out hb0.size, h1, (But.of_below hb0).trans hb1⟩
      · by_cases d3 : d = 3
        · have e : s.does d n code = s.until_ (n % 256) := by simp [St.does, d3]
          rw [e]
          have k0 : (d == 0) = false := by simp [d0]
          have k1 : (d == 1) = false := by simp [d1]
          have k2 : (d == 2) = false := by simp [d2]
          have k3 : (d == 3) = true := by simp [d3]
          clear e d0 d1 d2 d3
          go_enter Try.func15, Try.ntmps15
          go_wp2_with fail
          refine (runtil_calls h0 (n % 256)).mono ?_
          rintro e w1 ⟨B, capB, rfl, hown, h1, hb1⟩
          have HO := Lib.hid hown
          clear hown
          go_wp2
          go_ret2
          exact ⟨B, capB, rfl, own_base HO.out hb0.size, h1, (But.of_below hb0).trans hb1⟩
        · by_cases d4 : d = 4
          · have e : s.does d n code = ([], true, s.fail code n) := by simp [St.does, d4]
            rw [e]
            have k0 : (d == 0) = false := by simp [d0]
            have k1 : (d == 1) = false := by simp [d1]
            have k2 : (d == 2) = false := by simp [d2]
            have k3 : (d == 3) = false := by simp [d3]
            have k4 : (d == 4) = true := by simp [d4]
            clear e d0 d1 d2 d3 d4
            go_enter Try.func15, Try.ntmps15
            go_wp2_with fail
            refine (rfail_calls h0 code n).mono ?_
            rintro e w1 ⟨rfl, h1, hb1⟩
            go_wp2
            go_ret2
            exact ⟨none, 0, rfl, ⟨rfl, .inl ⟨rfl, rfl⟩⟩, h1, (But.of_below hb0).trans hb1⟩
          · have e : s.does d n code = ([], true, s) := by simp [St.does, d0, d1, d2, d3, d4]
            rw [e]
            have k0 : (d == 0) = false := by simp [d0]
            have k1 : (d == 1) = false := by simp [d1]
            have k2 : (d == 2) = false := by simp [d2]
            have k3 : (d == 3) = false := by simp [d3]
            have k4 : (d == 4) = false := by simp [d4]
            clear e d0 d1 d2 d3 d4
            go_enter Try.func15, Try.ntmps15
            go_wp2
            go_ret2
            exact ⟨none, 0, rfl, ⟨rfl, .inl ⟨rfl, rfl⟩⟩, h0, .of_below hb0⟩
end
end Go.Proofs.Ytiipkmfkelbpiaa
