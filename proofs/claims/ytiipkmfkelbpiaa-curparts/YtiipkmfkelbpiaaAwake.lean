/-
  The laws' own look at the chapter's examples is true. No statement of the seat is proved here.
-/
import Derived.Test.YtiipkmfkelbpiaaTry3
import Derived.Test.YtiipkmfkelbpiaaSame1
namespace Go.Proofs.Ytiipkmfkelbpiaa
open Go.RowKit

theorem awake_read (w1 : World) (R : Option Addr) (lo p q : Nat) (h : CurOk R w1 p (.start [1, 2]) (some ⟨q, 0, none⟩)) (hq : Box w1 q 68 [.pointer (some ⟨p, 0, none⟩)]) :
    Calls Try.prog 27 #[.pointer (some ⟨p, 0, none⟩)] w1 (ReadOk lo p w1 (fun r w2 => ∃ s2, CurOk R w2 p s2 (some ⟨q, 0, none⟩) ∧ (r = some q ∧ s2 = ⟨[1, 2], 1, 11, 0⟩ ∧ But p w1 w2))) := by
  have hpq : q ≠ p := by
    obtain ⟨A, cap, h1, _⟩ := h.is_
    exact hq.ne h1 (by decide)
  go_enter Try.func27, Try.ntmps27
  go_wp2_with fail
  refine (byte_calls h).mono ?_
  rintro e w2 ⟨rfl, h2, hb2⟩
  have e2 : (St.start [1, 2]).byte.2 = ⟨[1, 2], 1, 0, 0⟩ := rfl
  rw [e2] at h2
  clear e2
  go_wp2_with fail
  refine (fail_calls h2 11 0).mono ?_
  rintro e w3 ⟨rfl, h3, hb3⟩
  have e3 : (St.fail ⟨[1, 2], 1, 0, 0⟩ 11 0) = ⟨[1, 2], 1, 11, 0⟩ := rfl
  rw [e3] at h3
  clear e3
  have hb := hb2.trans hb3
  go_wp2_with fail
  refine (must_wrong h3 (hq.but hb hpq) (by decide)).mono ?_
  rintro e w4 ⟨rfl, hb4⟩
  have hbt := hb.trans (But.of_below (p := p) hb4)
  exact ⟨rfl, hbt.size, fun k _ hk hkp => hbt.block k hk hkp, .inr ⟨q, _, rfl, ⟨[], rfl, by simp⟩, ⟨_, hq.but hbt hpq⟩, _, h3.keep hb4, rfl, rfl, hbt⟩⟩

theorem Lies.new (w : World) (t : TypeId) (cs : List Value) : Lies (w.alloc (.cells cs.toArray t)) (some ⟨w.heap.size, 0, none⟩) cs := by
  intro i u hu
  refine ⟨w.heap.size, 0, rfl, ?_⟩
  have := (Box.new w t cs).cell i
  rw [Nat.zero_add, this, hu]

theorem awake_calls (w : World) : Calls Try.prog 9 #[] w fun e w' => e = .returned (.bool true) ∧ Below w.heap.size w w' := by
  go_enter Try.func9, Try.ntmps9
  go_wp2_with fail
  have hk1 : Below w.heap.size w (w.alloc (.cells #[.int .u8 1, .int .u8 2, .int .u8 3] 5)) := (Below.refl _ _).alloc (Nat.le_refl _) _
  have hl1 : Lies (w.alloc (.cells #[.int .u8 1, .int .u8 2, .int .u8 3] 5)) (some ⟨w.heap.size, 0, none⟩) (by8 [1, 2, 3]) := Lies.new w 5 [.int .u8 1, .int .u8 2, .int .u8 3]
  refine (new_calls _ _ 3 3 [1, 2, 3] rfl hl1 (by simp) (by omega) (by simp)).mono ?_
  rintro e w1 ⟨p, R, hp, _, rfl, h1, hb1⟩
  rw [size_alloc] at hp
  have hw1 : Below w.heap.size w w1 := hk1.trans (hb1.mono (by rw [size_alloc]; omega))
  have HW1 := Lib.hid hw1
  clear hk1 hl1 hb1 hw1
  go_wp2_with fail
  refine (byte_calls h1).mono ?_
  rintro e w2 ⟨rfl, h2, hb2⟩
  have e2 : (St.start [1, 2, 3]).byte = (1, ⟨[1, 2, 3], 1, 0, 0⟩) := rfl
  rw [e2] at h2 ⊢
  clear e2
  have HW2 := Lib.hid (HW1.out.trans (hb2.below (by omega) HW1.out.size))
  clear hb2 HW1 h1
  go_wp2_with fail
  refine (until_calls h2 3 (by omega)).mono ?_
  rintro e w3 ⟨A, cap, rfl, hown, h3, hb3⟩
  have e3 : (St.until_ ⟨[1, 2, 3], 1, 0, 0⟩ 3) = ([2], true, ⟨[1, 2, 3], 3, 0, 0⟩) := rfl
  rw [e3] at h3 hown ⊢
  clear e3
  have hlB := Lies.of_own hown
  have HW3 := Lib.hid (HW2.out.trans (hb3.below (by omega) HW2.out.size))
  clear hb3 HW2 h2 hown
  go_wp2_with fail
  refine (byte_calls h3).mono ?_
  rintro e w4 ⟨rfl, h4, hb4⟩
  have e4 : (St.byte ⟨[1, 2, 3], 3, 0, 0⟩) = (0, ⟨[1, 2, 3], 3, 13, 3⟩) := rfl
  rw [e4] at h4 ⊢
  clear e4
  have hlB4 : Lies w4 A (by8 [2]) := by
    obtain ⟨A', cap', g1, _⟩ := h3.is_
    exact hlB.but hb4 g1 by8_not
  have HW4 := Lib.hid (HW3.out.trans (hb4.below (by omega) HW3.out.size))
  clear hb4 HW3 h3 hlB
  go_wp2_with fail
  have hk5 : Below w4.heap.size w4 (w4.alloc (.cells #[.int .u8 1, .int .u8 2] 5)) := (Below.refl _ _).alloc (Nat.le_refl _) _
  have hl5 : Lies (w4.alloc (.cells #[.int .u8 1, .int .u8 2] 5)) (some ⟨w4.heap.size, 0, none⟩) (by8 [1, 2]) := Lies.new w4 5 [.int .u8 1, .int .u8 2]
  have h5 := h4.keep hk5
  have hlB5 := hlB4.keep hk5
  have HW5 := Lib.hid (HW4.out.trans (hk5.mono HW4.out.size))
  clear hk5 h4 hlB4 HW4
  generalize w4.alloc (.cells #[.int .u8 1, .int .u8 2] 5) = w5 at hl5 h5 hlB5 HW5 ⊢
  refine (try_calls w5 _ 2 2 [1, 2] rfl hl5 (by simp) (by omega) (by simp) 27 #[] (fun _ _ => by kernel_rfl) (fun _ q r s2 w2 => r = some q ∧ s2 = ⟨[1, 2], 1, 11, 0⟩ ∧ Below w5.heap.size w5 w2) (by
    intro R' w1 p' q hp' hq' hbw hcw hbq
    refine (awake_read w1 R' w5.heap.size p' q hcw hbq).mono ?_
    rintro e w2 ⟨hsz, hmid, hres⟩
    refine ⟨hsz, hmid, ?_⟩
    rcases hres with ⟨_, s2, _, h, _⟩ | ⟨r, chain, rfl, hst, hbr, s2, hc2, h1, h2, h3⟩
    · cases h
    · exact .inr ⟨r, chain, rfl, hst, hbr, s2, hc2, h1, h2, hbw.trans (h3.below hp' hbw.size)⟩)).mono ?_
  rintro e w6 ⟨R', p', q, s2, w2, hp', hq', hc6, hbq6, hb6, hall, ⟨rfl, hrel⟩ | ⟨r, chain, hne, rfl, _, _, hrel⟩⟩
  · have hb56 : s2 = ⟨[1, 2], 1, 11, 0⟩ ∧ Below w5.heap.size w5 w6 := by
      rcases hrel with ⟨h, _⟩ | ⟨_, h2, h3⟩
      · cases h
      · exact ⟨h2, h3.trans hb6⟩
    obtain ⟨rfl, hb56⟩ := hb56
    have h6 := h5.keep hb56
    have hlB6 := hlB5.keep hb56
    have HW6 := Lib.hid (HW5.out.trans (hb56.mono HW5.out.size))
    clear hrel hc6 hbq6 hb6 hall hb56 h5 hlB5 HW5 hl5 hp'
    go_wp2_with fail
    have bf := (Box.new w6 30 [.int .i64 11, .int .i64 0]).alloc (.cells #[.int .u8 2] 5)
    have hk7 : Below w6.heap.size w6 ((w6.alloc (.cells #[.int .i64 11, .int .i64 0] 30)).alloc (.cells #[.int .u8 2] 5)) := ((Below.refl _ _).alloc (Nat.le_refl _) _).alloc (by rw [size_alloc]; omega) _
    have hl7 := Lies.new (w6.alloc (.cells #[.int .i64 11, .int .i64 0] 30)) 5 [.int .u8 2]
    rw [size_alloc] at hl7
    have h7 := h6.keep hk7
    have hlB7 := hlB6.keep hk7
    have HW7 := Lib.hid (HW6.out.trans (hk7.mono HW6.out.size))
    clear hk7 h6 hlB6 HW6
    generalize (w6.alloc (.cells #[.int .i64 11, .int .i64 0] 30)).alloc (.cells #[.int .u8 2] 5) = w7 at bf hl7 h7 hlB7 HW7 ⊢
    refine (same_calls w7 _ _ 1 1 _ _ [2] [2] rfl rfl hlB7 hl7 (by decide) (by decide)).mono ?_
    rintro e w8 ⟨rfl, hs⟩
    have h8 := h7.same hs
    have bf8 := bf.same hs
    have HW8 := Lib.hid (HW7.out.trans hs.below)
    clear hs h7 hlB7 HW7 hl7 bf
    go_wp2_with fail
    obtain ⟨A8, cap8, g8, _⟩ := h8.is_
    refine (fault_calls g8).mono ?_
    rintro e w9 ⟨rfl, hb9⟩
    have bf9 := bf8.keep hb9
    have d0 : w9.cell? ⟨w6.heap.size, 0, none⟩ = some (.int .i64 11) := bf9.cell 0
    have d1 : w9.cell? ⟨w6.heap.size, 1, none⟩ = some (.int .i64 0) := bf9.cell 1
    have HW9 := Lib.hid (HW8.out.trans (hb9.mono HW8.out.size))
    clear bf9 bf8 hb9 HW8 g8 h8
    go_wp2
    go_ret
    exact ⟨rfl, HW9.out⟩
  · exact absurd hrel.1 (by intro h; injection h with h; exact hne h)
end Go.Proofs.Ytiipkmfkelbpiaa
