/-
  Contract of package cur's New. No statement of the seat is proved here.
-/
import Derived.Test.YtiodeaoollhcgaaCur3
namespace Go.Proofs.Ytiodeaoollhcgaa
open Go.RowKit

theorem Lies.new (w : World) (t : TypeId) (cs : List Value) : Lies (w.alloc (.cells cs.toArray t)) (some ⟨w.heap.size, 0, none⟩) cs := by
  intro i u hu
  refine ⟨w.heap.size, 0, rfl, ?_⟩
  have := (Box.new w t cs).cell i
  rw [Nat.zero_add, this, hu]

/-- What New hands back. -/
def GivesCur (w : World) (bs : List Int) (e : Ending) (w' : World) : Prop :=
  ∃ p R, w.heap.size ≤ p ∧ (∀ x : Addr, R = some x → w.heap.size ≤ x.block ∧ x.block < p) ∧ e = .returned (.pointer (some ⟨p, 0, none⟩)) ∧ CurOk R w' p (.start bs) none ∧ Below w.heap.size w w'

theorem new_calls (w : World) (A : Option Addr) (n cap : Nat) (bs : List Int) (hl : bs.length = n) (hv : Lies w A (by8 bs)) (hs : ∀ z ∈ bs, 0 ≤ z ∧ z < 256) (hfew : n ≤ 1099511627776) (hnil : A = none → cap = 0) :
    Calls Try.prog 18 #[.slice A n cap] w (GivesCur w bs) := by
  subst hl
  have hcl := clone_calls w A bs.length cap (by8 bs) (by rw [by8_length]) hv by8_one (by omega) hnil
  have HC := Lib.hid hcl
  clear hcl
  go_enter Try.func18, Try.ntmps18
  go_wp2_with fail
  refine HC.out.mono ?_
  rintro e w1 ⟨A', cap', rfl, hown, hb⟩
  rw [by8_length] at hown
  rw [by8_length]
  have HO := Lib.hid hown
  have HB := Lib.hid hb
  clear hown hb
  go_wp2
  go_ret
  have hsz : w.heap.size ≤ w1.heap.size := HB.out.size
  refine ⟨w1.heap.size, A', hsz, ?_, rfl, ?_, HB.out.trans ((Below.refl _ _).alloc hsz _)⟩
  · intro x hx
    subst hx
    rcases HO.out.2 with ⟨hq, _⟩ | ⟨g, c, cur, hq, hg, hh, _⟩
    · cases hq
    · injection hq with hq
      injection hq with hq
      subst hq
      exact ⟨hg, own_lt hh⟩
  have hk : Below w1.heap.size w1 (w1.alloc (.cells #[.slice A' bs.length cap', .int .i64 0, .int .i64 0, .int .i64 0, .pointer none] 57)) := (Below.refl _ _).alloc (Nat.le_refl _) _
  have hcap : bs.length ≤ cap' ∧ cap' ≤ maxLen ∧ Based A' A' cap' := by
    rcases HO.out.2 with ⟨hv, hn⟩ | ⟨g, c, cur, hv, _, _, h1, h2, _⟩
    · injection hv with e1 e2 e3
      exact ⟨by omega, by rw [e3]; exact Nat.zero_le _, ⟨(fun _ => e3), rfl⟩⟩
    · injection hv with e1 _ e3
      subst e3
      exact ⟨h1, h2, ⟨(fun h => by rw [h] at e1; cases e1), rfl⟩⟩
  refine ⟨⟨A', cap', Box.new w1 57 [.slice A' bs.length cap', .int .i64 0, .int .i64 0, .int .i64 0, .pointer none], (Lies.of_own HO.out).keep hk, hcap.2.2, hcap.1, hcap.2.1⟩, Nat.zero_le _, hfew, hs⟩
end Go.Proofs.Ytiodeaoollhcgaa
