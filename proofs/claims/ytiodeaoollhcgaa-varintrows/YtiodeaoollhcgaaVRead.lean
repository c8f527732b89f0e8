/-
  The contract of package varint's Read. No statement of the seat is proved here.
-/
import Derived.Test.YtiodeaoollhcgaaVGet
import Derived.Test.YtiodeaoollhcgaaCurNew
namespace Go.Proofs.Ytiodeaoollhcgaa
open Go.RowKit

/-- What Read makes of a Cur. -/
def St.num (s : St) : Nat × St :=
  if s.c ≠ 0 then (0, s)
  else ((scan 0 0 (s.bs.drop s.t)).1, (⟨s.bs, s.t + (scan 0 0 (s.bs.drop s.t)).2.1, 0, s.a⟩ : St).fail (scan 0 0 (s.bs.drop s.t)).2.2 (if (scan 0 0 (s.bs.drop s.t)).2.2 = 13 then s.bs.length else (s.t : Int) + (scan 0 0 (s.bs.drop s.t)).2.1 - 1))

/-- Where Read stands. -/
structure ReadAt (R : Option Addr) (w : World) (p g : Nat) (s : St) (tr : Option Addr) (w1 : World) : Prop where
  cur : CurOk R w1 p s tr
  box : Box w1 g 34 [.pointer (some ⟨p, 0, none⟩)]
  but : But p w w1

section
variable {R : Option Addr} {w w1 : World} {p g k : Nat} {s : St} {tr : Option Addr}

theorem CurOk.fault' (h : CurOk R w p s tr) :
    Calls Try.prog 22 #[.pointer (some ⟨p, 0, none⟩)] w fun e w' => e = .returned (.agg #[.int .i64 s.c, .int .i64 s.a]) ∧ Below w.heap.size w w' := by
  obtain ⟨A, cap, h1, _⟩ := h.is_
  exact fault_calls h1
theorem CurOk.apart (h : CurOk R w p s tr) (hg : Box w g 34 [.pointer (some ⟨p, 0, none⟩)]) : g ≠ p := by
  obtain ⟨A, cap, h1, _⟩ := h.is_
  exact hg.ne h1 (by decide)

/-- A byte is asked: it comes, or the fault is there. -/
theorem read1_any (h : ReadAt R w p g s tr w1) :
    Calls Try.prog 30 #[.pointer (some ⟨g, 0, none⟩)] w1 (Tells s.byte.1 (s.byte.2.c == 0) (ReadAt R w p g s.byte.2 tr)) := by
  have hfd := fault_code
  have c0 : w1.cell? ⟨g, 0, none⟩ = some (.pointer (some ⟨p, 0, none⟩)) := h.box.cell 0
  have hne := h.cur.apart h.box
  have HH := Lib.hid h
  clear h
  go_enter Try.func30, Try.ntmps30
  go_wp2_with fail
  refine (byte_calls HH.out.cur).mono ?_
  rintro e w2 ⟨rfl, h2, hb2⟩
  have hbx := HH.out.box.but hb2 hne
  clear c0
  have c0 : w2.cell? ⟨g, 0, none⟩ = some (.pointer (some ⟨p, 0, none⟩)) := hbx.cell 0
  have HR := Lib.hid (show ReadAt R w p g s.byte.2 tr w2 from ⟨h2, hbx, HH.out.but.trans hb2⟩)
  clear h2 hb2 hbx
  go_wp2_with fail
  refine HR.out.cur.fault'.mono ?_
  rintro e w3 ⟨rfl, hb3⟩
  have HR3 := Lib.hid (show ReadAt R w p g s.byte.2 tr w3 from ⟨HR.out.cur.keep hb3, HR.out.box.keep hb3, HR.out.but.trans (.of_below hb3)⟩)
  clear HR hb3 c0
  go_wp2_with fail
  go_ret2
  exact ⟨rfl, HR3.out⟩

theorem ReadAt.drew (h : ReadAt R w p g s tr w1) : ReadAt R w p g s tr w1.drew :=
  ⟨h.cur.same ⟨rfl, rfl, rfl, rfl⟩, h.box.same ⟨rfl, rfl, rfl, rfl⟩, h.but.drew⟩

/-- What number leaves of a Cur, ahead of the last Fail. -/
theorem read_number (h : ReadAt R w p g s tr w1) :
    Calls Try.prog 28 #[.func (.func 30) #[] #[.pointer (some ⟨g, 0, none⟩)]] w1
      (fun e w2 => ∃ (n : Nat) (c : Int) (s1 : St), e = .returned (.tuple #[.int .u64 n, .int .i64 c]) ∧ s.num = (n, s1.fail c ((s1.t : Int) - 1)) ∧ ReadAt R w p g s1 tr w2) := by
  have htk := h.cur.taken
  have hsm := h.cur.small
  by_cases hc : s.c = 0
  · refine (number_calls w1 30 #[.pointer (some ⟨g, 0, none⟩)] (fun _ _ => by kernel_rfl) (s.bs.drop s.t) (fun z hz => hsm z (List.mem_of_mem_drop hz))
      (fun k w2 => ReadAt R w p g ⟨s.bs, s.t + k, 0, s.a⟩ tr w2) (fun w2 => ReadAt R w p g ⟨s.bs, s.bs.length, 13, s.bs.length⟩ tr w2) ?_ ?_ ?_).mono ?_
    · intro k w2 hk h2
      rw [List.length_drop] at hk
      have hlt : s.t + k < s.bs.length := by omega
      have e : (St.byte ⟨s.bs, s.t + k, 0, s.a⟩) = ((s.bs.drop s.t).getD k 0, ⟨s.bs, s.t + k + 1, 0, s.a⟩) := by
        unfold St.byte
        rw [if_pos ⟨rfl, hlt⟩]
        simp
      have hr := read1_any h2
      rw [e] at hr
      exact hr
    · intro w2 h2
      rw [List.length_drop] at h2
      have e0 : s.t + (s.bs.length - s.t) = s.bs.length := by omega
      rw [e0] at h2
      have e : (St.byte ⟨s.bs, s.bs.length, 0, s.a⟩) = (0, ⟨s.bs, s.bs.length, 13, s.bs.length⟩) := by
        unfold St.byte St.fail
        rw [if_neg (by simp)]
        simp
      have hr := read1_any h2
      rw [e] at hr
      exact hr
    · have e : (⟨s.bs, s.t + 0, 0, s.a⟩ : St) = s := by
        rw [Nat.add_zero, ← hc]
      show ReadAt R w p g ⟨s.bs, s.t + 0, 0, s.a⟩ tr w1
      rw [e]
      exact h
    · rintro e w2 ⟨rfl, h2⟩
      have hask := scan_asked (s.bs.drop s.t) 0 0
      rw [List.length_drop] at hask
      have hnum : s.num = ((scan 0 0 (s.bs.drop s.t)).1, (⟨s.bs, s.t + (scan 0 0 (s.bs.drop s.t)).2.1, 0, s.a⟩ : St).fail (scan 0 0 (s.bs.drop s.t)).2.2 (if (scan 0 0 (s.bs.drop s.t)).2.2 = 13 then s.bs.length else (s.t : Int) + (scan 0 0 (s.bs.drop s.t)).2.1 - 1)) := by
        unfold St.num
        rw [if_neg (by simpa using hc)]
      by_cases h13 : (scan 0 0 (s.bs.drop s.t)).2.2 = 13
      · rw [if_pos h13] at h2 hnum
        refine ⟨_, _, _, rfl, ?_, h2⟩
        rw [hnum, h13]
        have e1 : s.t + (scan 0 0 (s.bs.drop s.t)).2.1 = s.bs.length := by have := hask.2.2.1 h13; omega
        rw [e1]
        simp [St.fail]
      · rw [if_neg h13] at h2 hnum
        refine ⟨_, _, _, rfl, ?_, h2⟩
        rw [hnum]
        simp
  · refine (number_calls w1 30 #[.pointer (some ⟨g, 0, none⟩)] (fun _ _ => by kernel_rfl) [] (by simp)
      (fun k w2 => ReadAt R w p g s tr w2) (fun w2 => ReadAt R w p g s tr w2) (fun k w2 hk => absurd hk (by simp)) ?_ h).mono ?_
    · intro w2 h2
      have e : s.byte = (0, s) := by
        unfold St.byte St.fail
        rw [if_neg (by omega), if_neg (by omega)]
      have hr := read1_any h2
      rw [e] at hr
      have e2 : (s.c == 0) = false := by simp [hc]
      simp only [e2] at hr
      exact hr
    · rintro e w2 ⟨rfl, h2⟩
      have h2 : ReadAt R w p g s tr w2 := by
        split at h2 <;> exact h2
      refine ⟨_, _, s, rfl, ?_, h2⟩
      unfold St.num St.fail
      rw [if_pos hc, if_neg (by omega)]
      rfl

set_option maxRecDepth 100000 in
theorem read_calls (h : CurOk R w p s tr) :
    Calls Try.prog 17 #[.pointer (some ⟨p, 0, none⟩)] w (Hands R w p (.int .u64 s.num.1) s.num.2 tr) := by
  have hmf : ∀ (fn : Fn) (first cap : Array Value) (w : World), (Instr.makeFunc fn first cap).run Try.prog w = .ok (.func fn first cap) w := fun _ _ _ _ => rfl
  have hk1 : Below w.heap.size w (w.alloc (.cells #[.pointer (some ⟨p, 0, none⟩)] 34)) := (Below.refl _ _).alloc (Nat.le_refl _) _
  have HA := Lib.hid (show ReadAt R w p w.heap.size s tr (w.alloc (.cells #[.pointer (some ⟨p, 0, none⟩)] 34)) from ⟨h.keep hk1, Box.new w _ _, .of_below hk1⟩)
  clear hk1 h
  go_enter Try.func17, Try.ntmps17
  go_wp2_with fail
  refine (read_number HA.out).mono ?_
  rintro e w2 ⟨n, c, s1, rfl, hnum, h2⟩
  have HN := Lib.hid hnum
  have HR := Lib.hid h2.drew
  have c0 : w2.cell? ⟨w.heap.size, 0, none⟩ = some (.pointer (some ⟨p, 0, none⟩)) := h2.box.cell 0
  have htk := h2.cur.taken
  have hfw := h2.cur.few
  have hwr : IntKind.i64.wrap ((s1.t : Int) - 1) = (s1.t : Int) - 1 := IntWalk.i64_in _ (by omega)
  have HAT := Lib.hid (show Calls Try.prog 21 #[.pointer (some ⟨p, 0, none⟩)] w2.drew fun e w' => e = .returned (.int .i64 s1.t) ∧ w' = w2.drew from h2.drew.cur.at_.mono fun _ _ ⟨he, hw⟩ => ⟨he, hw.symm⟩)
  clear hnum h2 HA hmf
  go_wp2_with fail
  go_still_tail 5, (by kernel_rfl)
  still_call HAT.out
  repeat still_step
  refine wpStill_nil ?_
  change wpList _ _ _ _ _ w2.drew
  generalize w2.drew = w3 at HR ⊢
  clear c0 hwr HAT
  go_wp2_with fail
  refine (fail_calls HR.out.cur c ((s1.t : Int) - 1)).mono ?_
  rintro e w4 ⟨rfl, h4, hb4⟩
  have HF := Lib.hid (show Hands R w p (.int .u64 s.num.1) s.num.2 tr (.returned (.int .u64 n)) w4 from ⟨by rw [HN.out], by rw [HN.out]; exact h4, HR.out.but.trans hb4⟩)
  clear h4 hb4 HN HR
  go_wp2_with fail
  go_ret
  exact HF.out
end
end Go.Proofs.Ytiodeaoollhcgaa
