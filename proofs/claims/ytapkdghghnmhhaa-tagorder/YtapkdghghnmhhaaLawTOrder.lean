/-
  The walk of TagOrder. No statement of the seat is proved here.
-/
import Derived.Test.YtapkdghghnmhhaaTAwake
namespace Go.Proofs.Ytapkdghghnmhhaa
open Go.RowKit

/-- Three tags lie in one array. -/
structure TriT (w0 : World) (s0 u0 s1 u1 s2 u2 : ByteArray) (a b c : Tg) (w : World) : Prop where
  kept : Below w0.heap.size w0 w
  box : Box w w0.heap.size 41 [.string s0, .string u0, .string s1, .string u1, .string s2, .string u2]
  str : (Str s0 a.1 ∧ Str u0 a.2) ∧ (Str s1 b.1 ∧ Str u1 b.2) ∧ (Str s2 c.1 ∧ Str u2 c.2)
section
variable {w0 w w' : World} {s0 u0 s1 u1 s2 u2 : ByteArray} {a b c : Tg}
theorem TriT.next (h : TriT w0 s0 u0 s1 u1 s2 u2 a b c w) (k : Below w.heap.size w w') : TriT w0 s0 u0 s1 u1 s2 u2 a b c w' := ⟨below_then h.kept k, h.box.keep k, h.str⟩
theorem TriT.tags (h : TriT w0 s0 u0 s1 u1 s2 u2 a b c w) : Tags w (some ⟨w0.heap.size, 0, none⟩) [a, b, c] := by
  obtain ⟨⟨e0, e1⟩, ⟨e2, e3⟩, e4, e5⟩ := h.str
  intro i v hv
  refine ⟨w0.heap.size, 0, rfl, ?_⟩
  rw [Nat.zero_add, h.box.cell i, e0.eq, e1.eq, e2.eq, e3.eq, e4.eq, e5.eq]
  exact hv
theorem TriT.cells (h : TriT w0 s0 u0 s1 u1 s2 u2 a b c w) : w.cell? ⟨w0.heap.size, 0, none⟩ = some (.string s0) ∧ w.cell? ⟨w0.heap.size, 1, none⟩ = some (.string u0) ∧ w.cell? ⟨w0.heap.size, 2, none⟩ = some (.string s1) ∧ w.cell? ⟨w0.heap.size, 3, none⟩ = some (.string u1) ∧ w.cell? ⟨w0.heap.size, 4, none⟩ = some (.string s2) ∧ w.cell? ⟨w0.heap.size, 5, none⟩ = some (.string u2) ∧ TriT w0 s0 u0 s1 u1 s2 u2 a b c w :=
  ⟨h.box.cell 0, h.box.cell 1, h.box.cell 2, h.box.cell 3, h.box.cell 4, h.box.cell 5, h⟩
theorem TriT.of {P1 P2 P3 P4 P5 P6 : Prop} (h : P1 ∧ P2 ∧ P3 ∧ P4 ∧ P5 ∧ P6 ∧ TriT w0 s0 u0 s1 u1 s2 u2 a b c w) : TriT w0 s0 u0 s1 u1 s2 u2 a b c w := h.2.2.2.2.2.2
end

theorem less_says {s t u v : ByteArray} {a b : Tg} {q : Bool} (hs : Str s a.1) (ht : Str t a.2) (hu : Str u b.1) (hv : Str v b.2) (hq : ltT a b = q) (w : World) :
    Calls Try.prog 14 #[.agg #[.string s, .string t], .agg #[.string u, .string v]] w fun e w' => e = .returned (.bool q) ∧ Below w.heap.size w w' := by
  subst hq; exact (less_calls hs ht hu hv w).mono fun _ _ ⟨h1, h2⟩ => ⟨h1, h2.below⟩
theorem order_cases (a b : Tg) : (ltT a b = true ∧ ltT b a = false ∧ decide (a = b) = false) ∨ (ltT a b = false ∧ ltT b a = true ∧ decide (a = b) = false) ∨ (ltT a b = false ∧ ltT b a = false ∧ decide (a = b) = true) := by
  cases h1 : ltT a b <;> cases h2 : ltT b a
  · exact .inr (.inr ⟨rfl, rfl, decide_eq_true (ltT_total h1 h2)⟩)
  · exact .inr (.inl ⟨rfl, rfl, decide_eq_false (fun e => ltT_ne h2 e.symm)⟩)
  · exact .inl ⟨rfl, rfl, decide_eq_false (ltT_ne h1)⟩
  · have := ltT_asym h1; rw [h2] at this; cases this
theorem norm_some {ts : List Tg} (h : 0 < ts.length) : 1 ≤ (norm ts).length := by
  have : ts[0] ∈ norm ts := mem_norm.2 (List.getElem_mem h)
  rcases hn : norm ts with _ | ⟨x, r⟩
  · rw [hn] at this; cases this
  · simp

theorem is_says6 {w : World} {A : Option Addr} {n cap : Nat} {ts : List Tg} {q : Bool} (hn : ts.length = n) (hA : Tags w A ts) (hz : n ≤ 1000) (hq : decide (ts = norm ts) = q) :
    Calls Try.prog 19 #[.slice A n cap] w fun e w' => e = .returned (.bool q) ∧ Below w.heap.size w w' := by subst hq; exact is_calls6 hn hA hz

set_option maxRecDepth 100000 in
set_option maxHeartbeats 8000000 in
theorem order_walk (s0 u0 s1 u1 s2 u2 : ByteArray) (w : World) : Calls Try.prog 7 #[.agg #[.string s0, .string u0, .string s1, .string u1, .string s2, .string u2]] w fun e w' => e = .returned (.bool true) ∧ Below w.heap.size w w' := by
  obtain ⟨a, ha⟩ : ∃ a : Tg, Str s0 a.1 ∧ Str u0 a.2 := ⟨(s0.data.toList, u0.data.toList), rfl, rfl⟩
  obtain ⟨b, hb⟩ : ∃ b : Tg, Str s1 b.1 ∧ Str u1 b.2 := ⟨(s1.data.toList, u1.data.toList), rfl, rfl⟩
  obtain ⟨c, hc⟩ : ∃ c : Tg, Str s2 c.1 ∧ Str u2 c.2 := ⟨(s2.data.toList, u2.data.toList), rfl, rfl⟩
  obtain ⟨q, hq⟩ : ∃ q, few [a, b, c] = q := ⟨_, rfl⟩
  have hbox := Box.new w 41 [.string s0, .string u0, .string s1, .string u1, .string s2, .string u2]
  have HT0 := Lib.hid (show TriT w s0 u0 s1 u1 s2 u2 a b c (w.alloc (.cells #[.string s0, .string u0, .string s1, .string u1, .string s2, .string u2] 41)) from ⟨(Below.refl _ _).alloc (Nat.le_refl _) _, hbox, ha, hb, hc⟩)
  have HF := Lib.hid (fun w' (h : TriT w s0 u0 s1 u1 s2 u2 a b c w') => few_says (n := 3) (cap := 3) rfl h.tags (by unfold maxLen; omega) hq)
  have HQ := Lib.hid (And.intro hq (And.intro ha (And.intro hb hc)))
  clear hbox ha hb hc hq
  go_enter Try.func7, Try.ntmps7
  go_wp2_with fail
  refine (HF.out _ HT0.out).mono ?_
  rintro e w1 ⟨rfl, hb⟩
  have HT1 := Lib.hid (HT0.out.next hb)
  clear hb HT0 HF
  cases q
  · go_wp2_with fail
    refine (awake_calls _).mono ?_
    rintro e w2 ⟨rfl, hb⟩
    have HT2 := Lib.hid (HT1.out.next hb)
    clear hb HT1
    go_wp2_with fail
    go_ret
    exact ⟨rfl, HT2.out.kept⟩
  · obtain ⟨_, ha, hb, hc⟩ := HQ.out
    have hcs := order_cases a b
    have k0 := teq_run ha.1 ha.2 hb.1 hb.2 rfl
    have hg := tguard
    obtain ⟨p1, e1⟩ : ∃ p, ltT a b = p := ⟨_, rfl⟩
    obtain ⟨p2, e2⟩ : ∃ p, ltT b a = p := ⟨_, rfl⟩
    obtain ⟨p3, e3⟩ : ∃ p, ltT b c = p := ⟨_, rfl⟩
    obtain ⟨p4, e4⟩ : ∃ p, ltT a c = p := ⟨_, rfl⟩
    have H1 := Lib.hid (less_says ha.1 ha.2 hb.1 hb.2 e1)
    have H2 := Lib.hid (less_says hb.1 hb.2 ha.1 ha.2 e2)
    have H3 := Lib.hid (less_says hb.1 hb.2 hc.1 hc.2 e3)
    have H4 := Lib.hid (less_says ha.1 ha.2 hc.1 hc.2 e4)
    have H0 := Lib.hid (less_says ha.1 ha.2 ha.1 ha.2 (ltT_irrefl a))
    have HTR := Lib.hid (fun (h1 : p1 = true) (h3 : p3 = true) => show p4 = true by rw [← e4]; exact ltT_trans (e1.trans h1) (e3.trans h3))
    rw [e1, e2] at hcs
    generalize decide (a = b) = r at hcs k0
    have HN := Lib.hid (fun w' (h : TriT w s0 u0 s1 u1 s2 u2 a b c w') => normal_calls (n := 3) (cap := 3) rfl h.tags (by omega))
    have hl1 := norm_length [a, b, c]
    have hl2 := norm_some (ts := [a, b, c]) (by simp)
    clear ha hb hc HQ e1 e2 e3 e4
    obtain ⟨x0, x1, x2, x3, x4, x5, _⟩ := HT1.out.cells
    go_wp2_with fail
    refine (H1.out _).mono ?_
    rintro e w2 ⟨rfl, hb⟩
    have HT2 := Lib.hid (HT1.out.next hb)
    clear hb HT1 x0 x1 x2 x3 x4 x5 H1
    obtain ⟨x0, x1, x2, x3, x4, x5, _⟩ := HT2.out.cells
    go_wp2_with fail
    refine (H2.out _).mono ?_
    rintro e w3 ⟨rfl, hb⟩
    have HT3 := Lib.hid (HT2.out.next hb)
    clear hb HT2 x0 x1 x2 x3 x4 x5 H2
    obtain ⟨x0, x1, x2, x3, x4, x5, _⟩ := HT3.out.cells
    rcases hcs with ⟨rfl, rfl, rfl⟩ | ⟨rfl, rfl, rfl⟩ | ⟨rfl, rfl, rfl⟩
    all_goals
      go_wp2_with fail
    all_goals
      refine (H0.out _).mono ?_
      rintro e w4 ⟨rfl, hb⟩
      have HT4 := Lib.hid (HT3.out.next hb)
      clear hb HT3 x0 x1 x2 x3 x4 x5 H0
      obtain ⟨x0, x1, x2, x3, x4, x5, _⟩ := HT4.out.cells
      go_wp2_with fail
    · refine (H3.out _).mono ?_
      rintro e w5 ⟨rfl, hb⟩
      have HT5 := Lib.hid (HT4.out.next hb)
      clear hb HT4 x0 x1 x2 x3 x4 x5 H3
      obtain ⟨x0, x1, x2, x3, x4, x5, _⟩ := HT5.out.cells
      cases p3
      · go_wp2_with fail
        refine (HN.out _ HT5.out).mono ?_
        rintro e w7 ⟨⟨A7, c7, rfl, ht⟩, hb⟩
        have HT7 := Lib.hid (HT5.out.next hb)
        have HTT := Lib.hid ht
        clear hb HT5 ht
        generalize hm : norm [a, b, c] = m at HTT hl1 hl2 ⊢
        have hmm : decide (m = norm m) = true := decide_eq_true (by rw [← hm, norm_norm])
        have hl3 : m.length ≤ 3 := hl1
        have g1 : (1 : Int) ≤ (m.length : Int) := by omega
        have g2 : (m.length : Int) ≤ 3 := by omega
        have HIS := Lib.hid (is_says6 (cap := c7) rfl HTT.out (by omega) hmm)
        clear hm hmm hl1 hl2
        go_wp2_with fail
        refine HIS.out.mono ?_
        rintro e w8 ⟨rfl, hb⟩
        have HT8 := Lib.hid (HT7.out.next hb)
        clear hb HT7 HIS HTT
        go_wp2_with fail
        refine (awake_calls _).mono ?_
        rintro e w9 ⟨rfl, hb⟩
        have HT9 := Lib.hid (HT8.out.next hb)
        clear hb HT8
        go_wp2_with fail
        go_ret
        exact ⟨rfl, HT9.out.kept⟩
      · have h4 : p4 = true := by have h := HTR.out; first | exact h rfl rfl | simpa using h
        subst h4
        go_wp2_with fail
        refine (H4.out _).mono ?_
        rintro e w6 ⟨rfl, hb⟩
        have HT6 := Lib.hid (HT5.out.next hb)
        clear hb HT5 x0 x1 x2 x3 x4 x5 H4 HTR
        go_wp2_with fail
        refine (HN.out _ HT6.out).mono ?_
        rintro e w7 ⟨⟨A7, c7, rfl, ht⟩, hb⟩
        have HT7 := Lib.hid (HT6.out.next hb)
        have HTT := Lib.hid ht
        clear hb HT6 ht
        generalize hm : norm [a, b, c] = m at HTT hl1 hl2 ⊢
        have hmm : decide (m = norm m) = true := decide_eq_true (by rw [← hm, norm_norm])
        have hl3 : m.length ≤ 3 := hl1
        have g1 : (1 : Int) ≤ (m.length : Int) := by omega
        have g2 : (m.length : Int) ≤ 3 := by omega
        have HIS := Lib.hid (is_says6 (cap := c7) rfl HTT.out (by omega) hmm)
        clear hm hmm hl1 hl2
        go_wp2_with fail
        refine HIS.out.mono ?_
        rintro e w8 ⟨rfl, hb⟩
        have HT8 := Lib.hid (HT7.out.next hb)
        clear hb HT7 HIS HTT
        go_wp2_with fail
        refine (awake_calls _).mono ?_
        rintro e w9 ⟨rfl, hb⟩
        have HT9 := Lib.hid (HT8.out.next hb)
        clear hb HT8
        go_wp2_with fail
        go_ret
        exact ⟨rfl, HT9.out.kept⟩
    · skip
      refine (HN.out _ HT4.out).mono ?_
      rintro e w7 ⟨⟨A7, c7, rfl, ht⟩, hb⟩
      have HT7 := Lib.hid (HT4.out.next hb)
      have HTT := Lib.hid ht
      clear hb HT4 ht
      generalize hm : norm [a, b, c] = m at HTT hl1 hl2 ⊢
      have hmm : decide (m = norm m) = true := decide_eq_true (by rw [← hm, norm_norm])
      have hl3 : m.length ≤ 3 := hl1
      have g1 : (1 : Int) ≤ (m.length : Int) := by omega
      have g2 : (m.length : Int) ≤ 3 := by omega
      have HIS := Lib.hid (is_says6 (cap := c7) rfl HTT.out (by omega) hmm)
      clear hm hmm hl1 hl2
      go_wp2_with fail
      refine HIS.out.mono ?_
      rintro e w8 ⟨rfl, hb⟩
      have HT8 := Lib.hid (HT7.out.next hb)
      clear hb HT7 HIS HTT
      go_wp2_with fail
      refine (awake_calls _).mono ?_
      rintro e w9 ⟨rfl, hb⟩
      have HT9 := Lib.hid (HT8.out.next hb)
      clear hb HT8
      go_wp2_with fail
      go_ret
      exact ⟨rfl, HT9.out.kept⟩
    · skip
      refine (HN.out _ HT4.out).mono ?_
      rintro e w7 ⟨⟨A7, c7, rfl, ht⟩, hb⟩
      have HT7 := Lib.hid (HT4.out.next hb)
      have HTT := Lib.hid ht
      clear hb HT4 ht
      generalize hm : norm [a, b, c] = m at HTT hl1 hl2 ⊢
      have hmm : decide (m = norm m) = true := decide_eq_true (by rw [← hm, norm_norm])
      have hl3 : m.length ≤ 3 := hl1
      have g1 : (1 : Int) ≤ (m.length : Int) := by omega
      have g2 : (m.length : Int) ≤ 3 := by omega
      have HIS := Lib.hid (is_says6 (cap := c7) rfl HTT.out (by omega) hmm)
      clear hm hmm hl1 hl2
      go_wp2_with fail
      refine HIS.out.mono ?_
      rintro e w8 ⟨rfl, hb⟩
      have HT8 := Lib.hid (HT7.out.next hb)
      clear hb HT7 HIS HTT
      go_wp2_with fail
      refine (awake_calls _).mono ?_
      rintro e w9 ⟨rfl, hb⟩
      have HT9 := Lib.hid (HT8.out.next hb)
      clear hb HT8
      go_wp2_with fail
      go_ret
      exact ⟨rfl, HT9.out.kept⟩
end Go.Proofs.Ytapkdghghnmhhaa
