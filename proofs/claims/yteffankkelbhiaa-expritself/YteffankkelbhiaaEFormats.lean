/-
  expr.Formats. No statement of the seat is proved here.
-/
import Derived.Test.YteffankkelbhiaaEMetric
import Derived.Test.YteffankkelbhiaaMSplit
namespace Go.Proofs.Yteffankkelbhiaa
open Go.RowKit
open Dc (D D0)

/-- The formats that can say a metric, up to one. -/
def fmtsTo (m : Mt) : Nat → List Int
  | 0 => []
  | j + 1 => if metricE m ((j : Int) + 1) = 0 then fmtsTo m j ++ [(j : Int) + 1] else fmtsTo m j
def intV (x : Int) : Value := .int .i64 x
theorem fmtsTo_len (m : Mt) : ∀ j, (fmtsTo m j).length ≤ j
  | 0 => Nat.le_refl _
  | j + 1 => by
    have := fmtsTo_len m j
    unfold fmtsTo
    split
    · rw [List.length_append]; show _ + 1 ≤ _; omega
    · omega
theorem rowInt : RowTy 28 3 (.int .i64 0) 1 8 := ⟨Try.underlying28, by kernel_rfl, rfl, by omega, by omega⟩
theorem ints_cells {xs : List Int} : ∀ u ∈ xs.map intV, u.oneCell' = true := by
  intro u hu
  obtain ⟨x, _, rfl⟩ := List.mem_map.1 hu
  rfl

/-- A row of our own grows beside a metric in a block. -/
theorem kb_grown {w W W' : World} {t el : TypeId} {cs : List Value} {s : ByteArray} {A B : Option Addr} {n k i size : Nat} {m : Mt} {v : Value} {xs : List Value} (hk : Kb w [(w.heap.size, t, cs)] [(s, A, n, B, k, m)] W) (hm : MIs w s A n B k m)
    (ho : W.ownsRow (w.heap.size + 1) el size v i xs) (hg : W.grownBy W' v.ownBlock) : Kb w [(w.heap.size, t, cs)] [(s, A, n, B, k, m)] W' :=
  Kb.of (hk.kept.grown hg hk.kept.size fun k e => by have := (own_block_lt ho k e).1; omega) ((hg.block _ (hk.lt (.head _)) fun hc => by have := (own_block_lt ho _ hc.symm).1; omega).trans (hk.box _ (.head _))) hm
theorem wf_few {f : Int} (h : 0 ≤ f ∧ f ≤ 5) : WfI f := by
  rcases (by omega : f = 0 ∨ f = 1 ∨ f = 2 ∨ f = 3 ∨ f = 4 ∨ f = 5) with rfl | rfl | rfl | rfl | rfl | rfl <;> (unfold WfI; decide)
/-- An empty list that was just laid. -/
theorem lies_empty {w : World} {t : TypeId} {size g : Nat} (hg : w.heap.size = g) : (w.alloc (.cells #[] t)).ownsRow g t size (.slice (some ⟨g, 0, none⟩) 0 0) 0 [] := by
  subst hg
  exact ⟨by rw [Nat.zero_mul]; rfl, .inr ⟨w.heap.size, 0, #[], rfl, Nat.le_refl _, Box.new w t [], by omega, by unfold maxLen; omega, by rw [Nat.zero_mul]; rfl, by rw [Nat.zero_mul]; rfl⟩⟩
theorem lies_one (w : World) (t : TypeId) (v : Value) : Lies (w.alloc (.cells #[v] t)) (some ⟨w.heap.size, 0, none⟩) [v] := by
  intro i u hu
  have := (Box.new w t [v]).cell i
  exact ⟨w.heap.size, 0, rfl, by rw [Nat.zero_add]; exact this.trans hu⟩

section
variable {w : World} {s : ByteArray} {A B : Option Addr} {n k ca cb : Nat} {m : Mt}
set_option maxRecDepth 100000 in
set_option maxHeartbeats 4000000 in
theorem formats_calls (h : MIs w s A n B k m) (z : Small m) : Calls Try.prog 10 #[.agg #[.string s, .int .i64 m.kind, .slice A n ca, .int .i64 m.rate, .slice B k cb, .int .i64 m.time]] w fun e w' => (∃ A' c', e = .returned (.slice A' (fmtsTo m 4).length c') ∧ Lies w' A' ((fmtsTo m 4).map intV)) ∧ Below w.heap.size w w' := by
  have HB := Lib.hid (Kb.enter (ca := ca) (cb := cb) h)
  have HZ := Lib.hid (And.intro z h)
  clear h z
  go_enter Try.func10, Try.ntmps10
  go_wp2_with fail
  go_loopw [3, 4] (fun v3 v4 wr => ∃ j : Nat, v4 = .int .i64 ((j : Int) + 1) ∧ j ≤ 4 ∧ Hid (Kb w [(w.heap.size, 25, [.string s, .int .i64 m.kind, .slice A n ca, .int .i64 m.rate, .slice B k cb, .int .i64 m.time])] [(s, A, n, B, k, m)] wr ∧ wr.ownsRow (w.heap.size + 1) 3 1 v3 (fmtsTo m j).length ((fmtsTo m j).map intV))) (fun _ v4 _ => 5 - (intOf v4).toNat)
  case atStart => exact ⟨0, rfl, by omega, ⟨HB.out.next (m_below _ _), lies_empty (t := 3) (w := w.alloc (.cells #[.string s, .int .i64 m.kind, .slice A n ca, .int .i64 m.rate, .slice B k cb, .int .i64 m.time] 25)) (World.size_alloc _ _)⟩⟩
  case round =>
    obtain ⟨j, rfl, hj, hrel⟩ := hrel
    have HR := Lib.hid hrel.out
    clear hrel
    obtain ⟨c0, c1, c2, c3, c4, c5⟩ := HR.out.1.six (.head _)
    by_cases hlt : j < 4
    · have g1 : (j : Int) + 1 ≤ 4 := by omega
      have HC := Lib.hid (emetric_calls (ca := ca) (cb := cb) (HR.out.1.m (.head _)) HZ.out.1 (f := (j : Int) + 1) (wf_few (by omega)))
      obtain ⟨x, hx⟩ : ∃ x, metricE m ((j : Int) + 1) = x := ⟨_, rfl⟩
      rw [hx] at HC
      have HX := Lib.hid hx
      clear hx
      go_wp2_with fail
      refine HC.out.mono ?_
      rintro e w2 ⟨rfl, hb⟩
      have HB2 := Lib.hid hb
      clear hb HC c0 c1 c2 c3 c4 c5
      by_cases hx0 : x = 0
      · subst hx0
        have HO := Lib.hid (own_keep HR.out.2 (below_then HB2.out (m_below w2 (.cells #[.int .i64 ((j : Int) + 1)] 3))))
        have HL := Lib.hid (show w.heap.size + 1 ≤ w2.heap.size from Nat.lt_of_lt_of_le (HR.out.1.lt (.head _)) HB2.out.size)
        have HN := Lib.hid (fmtsTo_len m j)
        go_wp2_with (first | (at_builtin; refine wpList_append_rows _ rowInt rfl (.tmp 14) (.tmp 16) rfl (w.heap.size + 1) u3 (fmtsTo m j).length _ rfl HO.out (some ⟨w2.heap.size, 0, none⟩) 1 1 [.int .i64 ((j : Int) + 1)] rfl rfl (lies_one w2 3 _) (by simp [Value.oneCell']) (by have := HN.out; omega) (by rw [size_alloc]; have := HL.out; omega) ?_; intro v5 w5 hown5 hgr5 hob5; have HW5 := Lib.hid (And.intro hown5 hgr5); clear hown5 hgr5 hob5))
        refine ⟨⟨j + 1, by go_num, by omega, ⟨?_, ?_⟩⟩, by simp [intOf]; omega⟩
        · exact kb_grown (HR.out.1.next (below_then HB2.out (m_below w2 (.cells #[.int .i64 ((j : Int) + 1)] 3)))) HZ.out.2 HO.out HW5.out.2
        · have e1 : fmtsTo m (j + 1) = fmtsTo m j ++ [(j : Int) + 1] := by show (if _ then _ else _) = _; rw [if_pos HX.out]
          rw [e1, List.length_append, List.map_append]
          exact HW5.out.1
      · have hq : (x == 0) = false := by simpa using hx0
        have HE := Lib.hid hx0
        go_wp2_with fail
        refine ⟨⟨j + 1, by go_num, by omega, ⟨HR.out.1.next HB2.out, ?_⟩⟩, by simp [intOf]; omega⟩
        have e1 : fmtsTo m (j + 1) = fmtsTo m j := by show (if _ then _ else _) = _; rw [if_neg (by rw [HX.out]; exact HE.out)]
        rw [e1]
        exact own_keep HR.out.2 HB2.out
    · obtain rfl : j = 4 := by omega
      obtain ⟨A', c', e1, _⟩ := own_slice HR.out.2
      subst e1
      go_wp2_with fail
      go_ret
      exact ⟨⟨A', c', rfl, Lies.of_own HR.out.2⟩, HR.out.1.kept⟩
end
end Go.Proofs.Yteffankkelbhiaa
