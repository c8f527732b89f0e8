/-
  The walk of TagParses. No statement of the seat is proved here.
-/
import Derived.Test.YtapkdghghnmhhaaTRefParse
namespace Go.Proofs.Ytapkdghghnmhhaa
open Go.RowKit

/-- Two faults lie, and two rows. -/
structure TwoF (w0 : World) (F G : Nat) (a b : Int) (A B : Option Addr) (ts : List Tg) (w : World) : Prop where
  kp : Kp w0 [(⟨G, 0, none⟩, .int .i64 a), (⟨G, 1, none⟩, .int .i64 b), (⟨F, 0, none⟩, .int .i64 a), (⟨F, 1, none⟩, .int .i64 b)] [(B, ts), (A, ts)] w
section
variable {w0 w w' : World} {F G : Nat} {a b : Int} {A B : Option Addr} {ts : List Tg}
theorem TwoF.next (h : TwoF w0 F G a b A B ts w) (k : Below w.heap.size w w') : TwoF w0 F G a b A B ts w' := ⟨h.kp.next k⟩
theorem TwoF.cells (h : TwoF w0 F G a b A B ts w) : w.cell? ⟨F, 0, none⟩ = some (.int .i64 a) ∧ w.cell? ⟨F, 1, none⟩ = some (.int .i64 b) ∧ w.cell? ⟨G, 0, none⟩ = some (.int .i64 a) ∧ w.cell? ⟨G, 1, none⟩ = some (.int .i64 b) ∧ TwoF w0 F G a b A B ts w :=
  ⟨h.kp.cell (by simp), h.kp.cell (by simp), h.kp.cell (by simp), h.kp.cell (by simp), h⟩
theorem TwoF.of {P1 P2 P3 P4 : Prop} (h : P1 ∧ P2 ∧ P3 ∧ P4 ∧ TwoF w0 F G a b A B ts w) : TwoF w0 F G a b A B ts w := h.2.2.2.2
end

/-- What Parse tells, one way for both ends. -/
theorem parse_any {l : List UInt8} : ∃ (a b : Int) (ts : List Tg), ts.length ≤ l.length + 1 ∧ ∀ (w w' : World) (e : Ending), ParseP w (parseT l) e w' → (∃ A cap, e = .returned (.tuple #[.slice A ts.length cap, .agg #[.int .i64 a, .int .i64 b]]) ∧ Tags w' A ts) ∧ Below w.heap.size w w' := by
  cases h : parseT l with
  | inl k => exact ⟨19, k, [], by simp, fun w w' e hp => ⟨⟨none, 0, hp.2, Tags.nil⟩, hp.1⟩⟩
  | inr ts =>
    refine ⟨0, 0, ts, ?_, fun w w' e hp => ?_⟩
    · obtain ⟨us, e, hm, _⟩ := pgo_inr _ _ _ h
      rw [List.nil_append] at e
      subst e
      have h1 := congrArg List.length hm
      rw [List.length_map] at h1
      have h2 := sum_pieces l
      have h3 : ∀ ps : List (List UInt8), ps.length ≤ (ps.map fun p => p.length + 1).sum := by
        intro ps
        induction ps with
        | nil => simp
        | cons p ps ih => simp only [List.map_cons, List.sum_cons, List.length_cons]; omega
      have := h3 (pieces l)
      omega
    · obtain ⟨hb, A, cap, he, ht, _⟩ := hp
      exact ⟨⟨A, cap, he, ht⟩, hb⟩

set_option maxRecDepth 100000 in
set_option maxHeartbeats 4000000 in
theorem parses_walk (s : ByteArray) (hm : s.size ≤ maxLen) (w : World) : Calls Try.prog 5 #[.string s] w fun e w' => e = .returned (.bool true) ∧ Below w.heap.size w w' := by
  unfold maxLen at hm
  by_cases hlong : 500 < (s.size : Int)
  · go_enter Try.func5, Try.ntmps5
    go_wp2_with fail
    refine (awake_calls _).mono ?_
    rintro e w1 ⟨rfl, hb⟩
    have HB := Lib.hid hb
    clear hb
    go_wp2_with fail
    go_ret
    exact ⟨rfl, HB.out⟩
  · obtain ⟨l, hs⟩ : ∃ l, Str s l := ⟨s.data.toList, rfl⟩
    have hsz := hs.size
    obtain ⟨a, b, ts, htl, hany⟩ := parse_any (l := l)
    have HP := Lib.hid (fun W => (parse_calls hs (by omega) W).mono fun e w' h => hany W w' e h)
    have HQ := Lib.hid (fun W => (rparse_calls hs (by omega) W).mono fun e w' h => hany W w' e h)
    have q1 := feq_run (x := a) (y := b) (u := a) (v := b) (q := true) (by simp)
    have hg := fguard
    have HK0 := Lib.hid (Kp.start w)
    clear hs hany
    go_enter Try.func5, Try.ntmps5
    go_wp2_with fail
    refine (HP.out _).mono ?_
    rintro e w1 ⟨⟨A, cap, rfl, ht⟩, hb⟩
    have HK1 := Lib.hid (((HK0.out.next hb).row ht).push 34 (.int .i64 a) (.int .i64 b))
    clear hb HK0 ht HP
    go_wp2_with fail
    refine (HQ.out _).mono ?_
    rintro e w2 ⟨⟨B, cap2, rfl, ht⟩, hb⟩
    have HK2 := Lib.hid (show TwoF w w1.heap.size w2.heap.size a b A B ts _ from ⟨((HK1.out.next hb).row ht).push 34 (.int .i64 a) (.int .i64 b)⟩)
    clear hb HK1 ht HQ
    go_wp2_with fail
    refine (same_true (ts := ts) rfl rfl (HK2.out.kp.tags (A := A) (by simp)) (HK2.out.kp.tags (A := B) (by simp)) (by omega)).mono ?_
    rintro e w6 ⟨rfl, hb⟩
    have HB6 := Lib.hid (HK2.out.next hb)
    clear hb HK2
    obtain ⟨c0, c1, d0, d1, _⟩ := HB6.out.cells
    go_wp2_with fail
    refine (awake_calls _).mono ?_
    rintro e w7 ⟨rfl, hb⟩
    have HB7 := Lib.hid (HB6.out.next hb)
    clear hb HB6 c0 c1 d0 d1
    go_wp2_with fail
    go_ret
    exact ⟨rfl, HB7.out.kp.kept⟩
end Go.Proofs.Ytapkdghghnmhhaa
