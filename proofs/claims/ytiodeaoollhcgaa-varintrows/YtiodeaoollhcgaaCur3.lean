/-
  Contracts of package cur's calls: failShort, Peek, Byte, next, Take, New. No statement of the seat is proved here.
-/
import Derived.Test.YtiodeaoollhcgaaCur2
import Derived.StillTailTactics
namespace Go.Proofs.Ytiodeaoollhcgaa
open Go.RowKit

section
variable {R : Option Addr} {w w' : World} {p : Nat} {s : St} {tr : Option Addr}

theorem CurOk.left (h : CurOk R w p s tr) :
    Calls Try.prog 26 #[.pointer (some ⟨p, 0, none⟩)] w fun e w' => e = .returned (.int .i64 ((s.bs.length : Int) - s.t)) ∧ Same w w' := by
  obtain ⟨A, cap, h1, _⟩ := h.is_
  exact left_calls h1 (by omega) (by have := h.taken; omega) (by have := h.few; unfold maxLen; omega)
theorem CurOk.at_ (h : CurOk R w p s tr) :
    Calls Try.prog 21 #[.pointer (some ⟨p, 0, none⟩)] w fun e w' => e = .returned (.int .i64 s.t) ∧ w = w' := by
  obtain ⟨A, cap, h1, _⟩ := h.is_
  exact at_calls h1

theorem fail_nil (w : World) (code at_ : Int) : Calls Try.prog 20 #[.pointer none, .int .i64 code, .int .i64 at_] w fun e w' => e = .returned (.tuple #[]) ∧ Below w.heap.size w w' := by
  go_enter Try.func20, Try.ntmps20
  go_wp2_with fail
  refine (wrong_nil w).mono ?_
  rintro e w1 ⟨rfl, hb⟩
  go_wp2
  refine bodyPost_ret (results_none rfl _ _ _) rfl ?_
  exact ⟨rfl, hb⟩

theorem failShort_nil (w : World) : Calls Try.prog 34 #[.pointer none] w fun e w' => e = .returned (.tuple #[]) ∧ Below w.heap.size w w' := by
  go_enter Try.func34, Try.ntmps34
  go_wp2_with fail
  refine (at_nil w).mono ?_
  rintro e w' ⟨rfl, rfl⟩
  go_wp2_with fail
  refine (left_nil w).mono ?_
  rintro e w' ⟨rfl, rfl⟩
  go_wp2_with fail
  refine (fail_nil w 13 0).mono ?_
  rintro e w1 ⟨rfl, hb⟩
  go_wp2
  go_end0
  exact ⟨rfl, hb⟩

theorem failShort_calls (h : CurOk R w p s tr) :
    Calls Try.prog 34 #[.pointer (some ⟨p, 0, none⟩)] w (Turns R w p (s.fail 13 s.bs.length) tr) := by
  have htk := h.taken
  have hfw := h.few
  go_enter Try.func34, Try.ntmps34
  go_wp2_with fail
  refine h.at_.mono ?_
  rintro e w' ⟨rfl, rfl⟩
  go_wp2_with fail
  refine h.left.mono ?_
  rintro e w1 ⟨rfl, hs⟩
  go_wp2_with fail
  rw [show (s.t : Int) + ((s.bs.length : Int) - s.t) = s.bs.length by omega]
  refine (fail_calls (h.same hs) 13 s.bs.length).mono ?_
  rintro e w2 ⟨rfl, h2, hb⟩
  go_wp2
  go_end0
  exact ⟨rfl, h2, (But.of_same hs).trans hb⟩

/-- What a look at the next byte hands back; nothing old is changed. -/
def Peeks (w : World) (r : Int × Bool) (e : Ending) (w' : World) : Prop := e = .returned (.tuple #[.int .u8 r.1, .bool r.2]) ∧ Below w.heap.size w w'

theorem peek_calls (h : CurOk R w p s tr) :
    Calls Try.prog 37 #[.pointer (some ⟨p, 0, none⟩)] w (Peeks w s.peek) := by
  have hw := wrong_calls h
  have htk := h.taken
  have hfw := h.few
  by_cases hc : s.c = 0
  · have hc1 : (s.c != 0) = false := by simp [hc]
    rw [hc1] at hw
    have Hw := Lib.hid hw
    clear hw hc1
    by_cases ht : s.t < s.bs.length
    · have hd : ((s.bs.length : Int) - s.t == 0) = false := by simp; omega
      have hf : s.peek = (s.bs.getD s.t 0, true) := by simp [St.peek, hc, ht]
      rw [hf]
      generalize hx : s.bs.getD s.t 0 = x
      have HX := Lib.hid hx
      clear hf hc hx
      go_enter Try.func37, Try.ntmps37
      go_wp2_with fail
      refine Hw.out.mono ?_
      rintro e w1 ⟨rfl, hb⟩
      have h1 := h.keep hb
      go_wp2_with fail
      refine h1.left.mono ?_
      rintro e w2 ⟨rfl, hs⟩
      have h2 := h1.same hs
      obtain ⟨A, cap, g1, g2, g3⟩ := h2.is_
      obtain ⟨b, off, rfl, hcell⟩ := g2.at_ (i := s.t) (by rw [by8_length]; exact ht)
      have hcell' : w2.cell? ⟨b, off + s.t, none⟩ = some (.int .u8 x) := by rw [hcell, ← HX.out]; simp [by8, ht]
      have c0 : w2.cell? ⟨p, 0, none⟩ = some (.slice (some ⟨b, off, none⟩) s.bs.length cap) := g1.cell 0
      have c1 : w2.cell? ⟨p, 1, none⟩ = some (.int .i64 s.t) := g1.cell 1
      have hlt : (s.t : Int) < (s.bs.length : Int) := by omega
      have hge : (0 : Int) ≤ (s.t : Int) := by omega
      clear g1 g2 g3 hcell
      go_wp2_with fail
      go_quiet (fail)
      go_wp2
      go_ret2
      exact ⟨rfl, (hb.trans (hs.below.mono (Nat.le_refl _))).trans (Same.drewN _ _).below⟩
    · have hd : ((s.bs.length : Int) - s.t == 0) = true := by simp; omega
      have hf : s.peek = (0, false) := by simp [St.peek, ht]
      rw [hf]
      clear hf hc ht
      go_enter Try.func37, Try.ntmps37
      go_wp2_with fail
      refine Hw.out.mono ?_
      rintro e w1 ⟨rfl, hb⟩
      have h1 := h.keep hb
      go_wp2_with fail
      refine h1.left.mono ?_
      rintro e w2 ⟨rfl, hs⟩
      go_wp2
      go_ret2
      exact ⟨rfl, hb.trans hs.below⟩
  · have hc1 : (s.c != 0) = true := by simp [hc]
    rw [hc1] at hw
    have Hw := Lib.hid hw
    have hf : s.peek = (0, false) := by simp [St.peek, hc]
    rw [hf]
    clear hw hc1 hc hf
    go_enter Try.func37, Try.ntmps37
    go_wp2_with fail
    refine Hw.out.mono ?_
    rintro e w1 ⟨rfl, hb⟩
    go_wp2
    go_ret2
    exact ⟨rfl, hb⟩

theorem peek_nil (w : World) : Calls Try.prog 37 #[.pointer none] w (Peeks w (0, false)) := by
  go_enter Try.func37, Try.ntmps37
  go_wp2_with fail
  refine (wrong_nil w).mono ?_
  rintro e w1 ⟨rfl, hb⟩
  go_wp2
  go_ret2
  exact ⟨rfl, hb⟩

/-- What a call hands back that turns the Cur. -/
def Hands (R : Option Addr) (w : World) (p : Nat) (v : Value) (s' : St) (tr : Option Addr) (e : Ending) (w' : World) : Prop :=
  e = .returned v ∧ CurOk R w' p s' tr ∧ But p w w'

theorem byte_calls (h : CurOk R w p s tr) :
    Calls Try.prog 31 #[.pointer (some ⟨p, 0, none⟩)] w (Hands R w p (.int .u8 s.byte.1) s.byte.2 tr) := by
  have hp := peek_calls h
  have htk := h.taken
  have hfw := h.few
  by_cases hc : s.c = 0 ∧ s.t < s.bs.length
  · have hf : s.peek = (s.bs.getD s.t 0, true) := by simp only [St.peek, if_pos hc]
    have hg : s.byte = (s.bs.getD s.t 0, { s with t := s.t + 1 }) := by simp only [St.byte, if_pos hc]
    rw [hf] at hp
    rw [hg]
    generalize s.bs.getD s.t 0 = x at hp ⊢
    have Hp := Lib.hid hp
    have hlt := hc.2
    clear hf hg hp hc
    go_enter Try.func31, Try.ntmps31
    go_wp2_with fail
    refine Hp.out.mono ?_
    rintro e w1 ⟨rfl, hb⟩
    have h1 := h.keep hb
    obtain ⟨A, cap, g1, g2⟩ := h1.is_
    have c1 : w1.cell? ⟨p, 1, none⟩ = some (.int .i64 s.t) := g1.cell 1
    have f1 := g1.frozen 1
    clear g1 g2
    go_wp2
    go_ret
    refine ⟨rfl, ?_, (But.of_below hb).set 1 _⟩
    have := h1.set_taken (s.t + 1) (by omega)
    simpa using this
  · have hf : s.peek = (0, false) := by simp only [St.peek, if_neg hc]
    have hg : s.byte = (0, s.fail 13 s.bs.length) := by simp only [St.byte, if_neg hc]
    rw [hf] at hp
    rw [hg]
    have Hp := Lib.hid hp
    clear hf hg hp hc
    go_enter Try.func31, Try.ntmps31
    go_wp2_with fail
    refine Hp.out.mono ?_
    rintro e w1 ⟨rfl, hb⟩
    go_wp2_with fail
    refine (failShort_calls (h.keep hb)).mono ?_
    rintro e w2 ⟨rfl, h2, hb2⟩
    go_wp2
    go_ret
    exact ⟨rfl, h2, (But.of_below hb).trans hb2⟩

theorem byte_nil (w : World) : Calls Try.prog 31 #[.pointer none] w fun e w' => e = .returned (.int .u8 0) ∧ Below w.heap.size w w' := by
  go_enter Try.func31, Try.ntmps31
  go_wp2_with fail
  refine (peek_nil w).mono ?_
  rintro e w1 ⟨rfl, hb⟩
  go_wp2_with fail
  refine (failShort_nil w1).mono ?_
  rintro e w2 ⟨rfl, hb2⟩
  go_wp2
  go_ret
  exact ⟨rfl, below_then hb hb2⟩

/-- What a call hands back that takes bytes: a row of the call's own. -/
def HandsRow (R : Option Addr) (w : World) (p : Nat) (out : List Int) (s' : St) (tr : Option Addr) (e : Ending) (w' : World) : Prop :=
  ∃ A cap, e = .returned (.slice A out.length cap) ∧ w'.ownsRow w.heap.size 5 1 (.slice A out.length cap) out.length (by8 out) ∧ CurOk R w' p s' tr ∧ But p w w'

theorem HandsRow.none (h : CurOk R w' p s tr) (hb : But p w w') : HandsRow R w p [] s tr (.returned (.slice none 0 0)) w' :=
  ⟨.none, 0, rfl, ⟨rfl, .inl ⟨rfl, rfl⟩⟩, h, hb⟩

theorem next_calls (h : CurOk R w p s tr) (n : Nat) (hn : s.t + n ≤ s.bs.length) :
    Calls Try.prog 35 #[.pointer (some ⟨p, 0, none⟩), .int .i64 n] w (HandsRow R w p (s.next n).1 (s.next n).2 tr) := by
  have hfw := h.few
  have hplt := h.lt
  obtain ⟨A, cap, g1, g2, g3, g4, g5⟩ := h.is_
  unfold maxLen at g5
  have c0 : w.cell? ⟨p, 0, none⟩ = some (.slice A s.bs.length cap) := g1.cell 0
  have c1 : w.cell? ⟨p, 1, none⟩ = some (.int .i64 s.t) := g1.cell 1
  have hsl := fun W => run_slice_from_to W A s.bs.length cap s.t n (by omega)
  have hwr : IntKind.i64.wrap ((s.t : Int) + (n : Int)) = (s.t : Int) + (n : Int) := IntWalk.i64_in _ (by omega)
  have hvl : ((by8 s.bs).drop s.t).take n = by8 ((s.bs.drop s.t).take n) := by simp [by8]
  have hlen : ((s.bs.drop s.t).take n).length = n := by rw [List.length_take, List.length_drop]; omega
  have hlies := g2.cut cap s.t n (by rw [by8_length]; exact hn) (by rw [by8_length]; exact g4)
  rw [hvl] at hlies
  have G3 := Lib.hid (cutA_nil (l := s.t) g3.1)
  have HL := Lib.hid hlies
  have HN := Lib.hid hlen
  have HH := Lib.hid h
  clear hvl hlies hlen g1 g2 g3 h
  go_enter Try.func35, Try.ntmps35
  go_wp2_with fail
  go_still_tail 15, (by kernel_rfl)
  have hs : Same w w.drew := ⟨rfl, rfl, rfl, rfl⟩
  change wpList _ _ _ _ _ w.drew
  generalize w.drew = w2 at hs ⊢
  clear hsl hwr c0 c1
  go_wp2_with fail
  refine (clone_calls w2 _ _ _ _ (by rw [by8_length]; exact HN.out) (HL.out.same hs) by8_one (by omega) G3.out).mono ?_
  rintro e w3 ⟨A', cap', rfl, hown, hb⟩
  rw [by8_length, HN.out] at hown
  rw [by8_length, HN.out]
  have h3 := (HH.out.same hs).keep hb
  obtain ⟨B, capB, k1, _⟩ := h3.is_
  have c1 : w3.cell? ⟨p, 1, none⟩ = some (.int .i64 s.t) := k1.cell 1
  have f1 := k1.frozen 1
  have H3 := Lib.hid h3
  clear k1 h3
  have hsz : w2.heap.size = w.heap.size := by rw [hs.heap]
  rw [hsz] at hown
  have HO := Lib.hid hown
  have HB := Lib.hid hb
  have HS := Lib.hid hs
  clear hown hb hs hsz
  go_wp2
  go_ret
  have e1 : (s.next n).1.length = n := HN.out
  refine ⟨A', cap', by rw [e1]; rfl, ?_, ?_, ?_⟩
  · rw [e1]
    exact ownsRow_setCell_below HO.out (by exact hplt) _
  · have := H3.out.set_taken (s.t + n) hn
    simpa [St.next] using this
  · exact ((But.of_same HS.out).trans (But.of_below HB.out)).set 1 _

theorem take_calls (h : CurOk R w p s tr) (n : Int) :
    Calls Try.prog 19 #[.pointer (some ⟨p, 0, none⟩), .int .i64 n] w (HandsRow R w p (s.take n).1 (s.take n).2 tr) := by
  have hw := wrong_calls h
  have htk := h.taken
  have hfw := h.few
  by_cases hc : s.c = 0
  · have hc1 : (s.c != 0) = false := by simp [hc]
    rw [hc1] at hw
    have Hw := Lib.hid hw
    clear hw hc1
    by_cases hneg : n < 0
    · have hf : s.take n = ([], s.fail 1 s.t) := by simp [St.take, hc, hneg]
      rw [hf]
      clear hf hc
      go_enter Try.func19, Try.ntmps19
      go_wp2_with fail
      refine Hw.out.mono ?_
      rintro e w1 ⟨rfl, hb⟩
      have h1 := h.keep hb
      obtain ⟨A, cap, g1, _⟩ := h1.is_
      have c1 : w1.cell? ⟨p, 1, none⟩ = some (.int .i64 s.t) := g1.cell 1
      clear g1
      go_wp2_with fail
      refine (fail_calls h1 1 s.t).mono ?_
      rintro e w2 ⟨rfl, h2, hb2⟩
      clear c1
      go_wp2
      go_ret
      exact .none h2 ((But.of_below hb).trans hb2)
    · by_cases hmany : (s.bs.length : Int) - s.t < n
      · have hf : s.take n = ([], s.fail 13 s.bs.length) := by simp [St.take, hc, hneg, hmany]
        rw [hf]
        clear hf hc
        go_enter Try.func19, Try.ntmps19
        go_wp2_with fail
        refine Hw.out.mono ?_
        rintro e w1 ⟨rfl, hb⟩
        have h1 := h.keep hb
        go_wp2_with fail
        refine h1.left.mono ?_
        rintro e w2 ⟨rfl, hs⟩
        go_wp2_with fail
        refine (failShort_calls (h1.same hs)).mono ?_
        rintro e w3 ⟨rfl, h2, hb2⟩
        go_wp2
        go_ret
        exact .none h2 (((But.of_below hb).trans (.of_same hs)).trans hb2)
      · have hf : s.take n = s.next n.toNat := by simp [St.take, hc, hneg, hmany]
        rw [hf]
        obtain ⟨m, rfl⟩ := Int.eq_ofNat_of_zero_le (show 0 ≤ n by omega)
        rw [Int.toNat_natCast]
        clear hf hc
        go_enter Try.func19, Try.ntmps19
        go_wp2_with fail
        refine Hw.out.mono ?_
        rintro e w1 ⟨rfl, hb⟩
        have h1 := h.keep hb
        go_wp2_with fail
        refine h1.left.mono ?_
        rintro e w2 ⟨rfl, hs⟩
        have h2 := h1.same hs
        go_wp2_with fail
        refine (next_calls h2 m (by omega)).mono ?_
        rintro e w3 ⟨A, cap, rfl, hown, h3, hb3⟩
        have hsz : w.heap.size ≤ w2.heap.size := by rw [hs.heap]; exact hb.size
        go_wp2
        go_ret
        exact ⟨A, cap, rfl, own_base hown hsz, h3, ((But.of_below hb).trans (.of_same hs)).trans hb3⟩
  · have hc1 : (s.c != 0) = true := by simp [hc]
    rw [hc1] at hw
    have Hw := Lib.hid hw
    have hf : s.take n = ([], s) := by simp [St.take, hc]
    rw [hf]
    clear hw hc1 hc hf
    go_enter Try.func19, Try.ntmps19
    go_wp2_with fail
    refine Hw.out.mono ?_
    rintro e w1 ⟨rfl, hb⟩
    go_wp2
    go_ret
    exact .none (h.keep hb) (.of_below hb)

theorem take_nil (w : World) (n : Int) : Calls Try.prog 19 #[.pointer none, .int .i64 n] w fun e w' => e = .returned (.slice none 0 0) ∧ Below w.heap.size w w' := by
  go_enter Try.func19, Try.ntmps19
  go_wp2_with fail
  refine (wrong_nil w).mono ?_
  rintro e w1 ⟨rfl, hb⟩
  go_wp2
  go_ret
  exact ⟨rfl, hb⟩
end
end Go.Proofs.Ytiodeaoollhcgaa
