/-
  The walk of TagChecks. No statement of the seat is proved here.
-/
import Derived.Test.YtapkdghghnmhhaaTAwake
namespace Go.Proofs.Ytapkdghghnmhhaa
open Go.RowKit

/-- Two tags lie. -/
structure TwoT (w0 : World) (s t u v : ByteArray) (w : World) : Prop where
  kp : Kp w0 [(⟨w0.heap.size + 1, 0, none⟩, .string u), (⟨w0.heap.size + 1, 1, none⟩, .string v), (⟨w0.heap.size, 0, none⟩, .string s), (⟨w0.heap.size, 1, none⟩, .string t)] [] w
section
variable {w0 w w' : World} {s t u v : ByteArray}
theorem TwoT.start (w : World) (s t u v : ByteArray) : TwoT w s t u v ((w.alloc (.cells #[.string s, .string t] 23)).alloc (.cells #[.string u, .string v] 23)) := by
  have := ((Kp.start w).push 23 (.string s) (.string t)).push 23 (.string u) (.string v)
  rw [size_alloc] at this
  exact ⟨this⟩
theorem TwoT.next (h : TwoT w0 s t u v w) (k : Below w.heap.size w w') : TwoT w0 s t u v w' := ⟨h.kp.next k⟩
theorem TwoT.cells (h : TwoT w0 s t u v w) : w.cell? ⟨w0.heap.size, 0, none⟩ = some (.string s) ∧ w.cell? ⟨w0.heap.size, 1, none⟩ = some (.string t) ∧ w.cell? ⟨w0.heap.size + 1, 0, none⟩ = some (.string u) ∧ w.cell? ⟨w0.heap.size + 1, 1, none⟩ = some (.string v) ∧ TwoT w0 s t u v w :=
  ⟨h.kp.cell (by simp), h.kp.cell (by simp), h.kp.cell (by simp), h.kp.cell (by simp), h⟩
theorem TwoT.of {P1 P2 P3 P4 : Prop} (h : P1 ∧ P2 ∧ P3 ∧ P4 ∧ TwoT w0 s t u v w) : TwoT w0 s t u v w := h.2.2.2.2
end

theorem tags_two {w : World} {n : Nat} {s t u v : ByteArray} {a b : Tg} (hn : w.heap.size = n) (hs : Str s a.1) (ht : Str t a.2) (hu : Str u b.1) (hv : Str v b.2) : Tags (w.alloc (.cells #[.string s, .string t, .string u, .string v] 23)) (some ⟨n, 0, none⟩) [a, b] := by
  rw [hs.eq, ht.eq, hu.eq, hv.eq]
  exact tags_lit hn [a, b]

set_option maxRecDepth 100000 in
set_option maxHeartbeats 4000000 in
theorem checks_walk (s t u v : ByteArray) (w : World) : Calls Try.prog 3 #[.agg #[.string s, .string t], .agg #[.string u, .string v]] w fun e w' => e = .returned (.bool true) ∧ Below w.heap.size w w' := by
  obtain ⟨a, hs, ht⟩ : ∃ a : Tg, Str s a.1 ∧ Str t a.2 := ⟨(s.data.toList, t.data.toList), rfl, rfl⟩
  obtain ⟨b, hu, hv⟩ : ∃ b : Tg, Str u b.1 ∧ Str v b.2 := ⟨(u.data.toList, v.data.toList), rfl, rfl⟩
  have HA := Lib.hid (And.intro hs (And.intro ht (And.intro hu hv)))
  have n1 := hs.size
  have n2 := ht.size
  have n3 := hu.size
  have n4 := hv.size
  have HT := Lib.hid (TwoT.start w s t u v)
  obtain ⟨q, hq⟩ : ∃ q, few [a, b] = q := ⟨_, rfl⟩
  have HF := Lib.hid (fun W n (hn : W.heap.size = n) => few_says (n := 2) (cap := 2) rfl (tags_two (w := W) hn hs ht hu hv) (by unfold maxLen; omega) hq)
  have HQ := Lib.hid hq
  clear hs ht hu hv hq
  go_enter Try.func3, Try.ntmps3
  go_wp2_with fail
  refine (HF.out _ _ (by rw [size_alloc, size_alloc])).mono ?_
  rintro e w1 ⟨rfl, hb⟩
  have HT1 := Lib.hid ((HT.out.next ((Below.refl _ _).alloc (Nat.le_refl _) _)).next hb)
  clear hb HT HF
  cases q
  · go_wp2_with fail
    refine (awake_calls _).mono ?_
    rintro e w2 ⟨rfl, hb⟩
    have HT2 := Lib.hid (HT1.out.next hb)
    clear hb HT1
    go_wp2_with fail
    go_ret
    exact ⟨rfl, HT2.out.kp.kept⟩
  · obtain ⟨_, hf⟩ := few_no HQ.out
    have f0 := hf 0 (by simp)
    have f1 := hf 1 (by simp)
    simp only [List.getElem_cons_zero, List.getElem_cons_succ] at f0 f1
    obtain ⟨hs, ht, hu, hv⟩ := HA.out
    have HRI := Lib.hid (right_calls hs ht (by omega) (by omega))
    have HCK := Lib.hid (fun w' (h : TwoT w s t u v w') => (check_calls hs ht (by omega) (by omega) w').mono fun e w'' (k : _ ∧ _) => And.intro k.1 (h.next k.2))
    have HLE := Lib.hid (fun w' (h : TwoT w s t u v w') => (less_calls hs ht hu hv w').mono fun e w'' (k : _ ∧ _) => And.intro k.1 (h.next k.2.below))
    have HRL := Lib.hid (fun w' (h : TwoT w s t u v w') => (rless_calls hs ht hu hv (by omega) (by omega) (by omega) (by omega) w').mono fun e w'' (k : _ ∧ _) => And.intro k.1 (h.next k.2))
    have HAW := Lib.hid (fun w' (h : TwoT w s t u v w') => (awake_calls w').mono fun e w'' (k : _ ∧ _) => And.intro k.1 (h.next k.2))
    have hchk : chkT a = if rightT a = true then 0 else 19 := rfl
    rw [hchk] at HCK
    obtain ⟨p, hp⟩ : ∃ p, rightT a = p := ⟨_, rfl⟩
    rw [hp] at HRI HCK
    generalize ltT a b = r at HLE HRL
    clear hf f0 f1 hs ht hu hv hchk hp HQ HA
    obtain ⟨c0, c1, d0, d1, _⟩ := HT1.out.cells
    go_wp2_with fail
    refine (HRI.out _).mono ?_
    rintro e w2 ⟨rfl, hb⟩
    have HT3 := Lib.hid (HT1.out.next hb)
    have HT2 := Lib.hid (HT3.out.next (Same.below (Same.drewN _ 1)))
    clear hb HT1 c0 c1 d0 d1
    cases p
    all_goals
      obtain ⟨c0, c1, d0, d1, _⟩ := HT3.out.cells
      go_wp2_with fail
      clear c0 c1 d0 d1
      cases r
    all_goals
      go_region_held3 (fun w' => w'.cell? ⟨w.heap.size, 0, none⟩ = some (.string s) ∧ w'.cell? ⟨w.heap.size, 1, none⟩ = some (.string t) ∧ w'.cell? ⟨w.heap.size + 1, 0, none⟩ = some (.string u) ∧ w'.cell? ⟨w.heap.size + 1, 1, none⟩ = some (.string v) ∧ TwoT w s t u v w')
        (first | exact TwoT.cells HT2.out | exact TwoT.cells HB9.out | exact TwoT.cells HB8.out | exact TwoT.cells HB7.out | exact TwoT.cells HB6.out)
        (first
          | (go_at_call 13; refine (HCK.out _ (TwoT.of (by assumption))).mono ?_; rintro e w6 ⟨rfl, hb6⟩; have HB6 := Lib.hid hb6; clear hb6)
          | (go_at_call 14; refine (HLE.out _ (TwoT.of (by assumption))).mono ?_; rintro e w7 ⟨rfl, hb7⟩; have HB7 := Lib.hid hb7; clear hb7)
          | (go_at_call 15; refine (HRL.out _ (TwoT.of (by assumption))).mono ?_; rintro e w8 ⟨rfl, hb8⟩; have HB8 := Lib.hid hb8; clear hb8)
          | (go_at_call 11; refine (HAW.out _ (TwoT.of (by assumption))).mono ?_; rintro e w9 ⟨rfl, hb9⟩; have HB9 := Lib.hid hb9; clear hb9))
    all_goals
      go_wp2_with fail
      go_ret
      exact ⟨rfl, HB9.out.kp.kept⟩
end Go.Proofs.Ytapkdghghnmhhaa
