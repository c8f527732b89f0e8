/-
  The contract of the read that CurTries hands to Try. No statement of the seat is proved here.
-/
import Derived.Test.YtiipkmfkelbpiaaKeeps
import Derived.Test.YtiipkmfkelbpiaaTriesMath
import Derived.Test.YtiipkmfkelbpiaaActs
namespace Go.Proofs.Ytiipkmfkelbpiaa
open Go.RowKit

theorem does_taken (s : St) (d n c : Int) (h : s.t ≤ s.bs.length) : (s.does d n c).2.2.t ≤ (s.does d n c).2.2.bs.length := by
  have hf : ∀ c a : Int, (s.fail c a).t ≤ (s.fail c a).bs.length := fun c a => by
    have := fail_bs s c a
    rw [this.1, this.2]
    exact h
  unfold St.does
  split
  · simp only []
    unfold St.byte
    split
    · rename_i hb
      exact hb.2
    · exact hf _ _
  · split
    · exact h
    · split
      · simp only []
        unfold St.take
        split
        · exact h
        · split
          · exact hf _ _
          · split
            · exact hf _ _
            · simp only [St.next]
              omega
      · split
        · unfold St.until_
          split
          · exact h
          · split
            · rename_i hl
              simp only [] at hl ⊢
              rw [List.length_drop] at hl
              omega
            · exact Nat.le_refl _
        · split
          · exact hf _ _
          · exact h

/-- What the read finds in its variables. -/
structure TVars (w : World) (g4 g5 g7 g8 : Nat) (L T : Option Addr) (m capL tl capT : Nat) (done calls : Int) : Prop where
  acts : Box w g4 23 [.slice L m capL]
  turns : Box w g5 42 [.slice T tl capT]
  done_ : Box w g7 3 [.int .i64 done]
  calls_ : Box w g8 3 [.int .i64 calls]

section
variable {W w w' : World} {g4 g5 g7 g8 p : Nat} {L T : Option Addr} {m capL tl capT : Nat} {done calls : Int}
theorem TVars.but (h : TVars w g4 g5 g7 g8 L T m capL tl capT done calls) (hb : But p w w') (h4 : g4 ≠ p) (h5 : g5 ≠ p) (h7 : g7 ≠ p) (h8 : g8 ≠ p) : TVars w' g4 g5 g7 g8 L T m capL tl capT done calls :=
  ⟨h.acts.but hb h4, h.turns.but hb h5, h.done_.but hb h7, h.calls_.but hb h8⟩
theorem TVars.keep (h : TVars w g4 g5 g7 g8 L T m capL tl capT done calls) (hb : Below w.heap.size w w') : TVars w' g4 g5 g7 g8 L T m capL tl capT done calls :=
  ⟨h.acts.keep hb, h.turns.keep hb, h.done_.keep hb, h.calls_.keep hb⟩
theorem TVars.set_done (h : TVars w g4 g5 g7 g8 L T m capL tl capT done calls) (h4 : g4 ≠ g7) (h5 : g5 ≠ g7) (h8 : g8 ≠ g7) (x : Int) : TVars (w.setCell ⟨g7, 0, none⟩ (.int .i64 x)) g4 g5 g7 g8 L T m capL tl capT x calls :=
  ⟨h.acts.far (q := ⟨g7, 0, none⟩) h4 _, h.turns.far (q := ⟨g7, 0, none⟩) h5 _, h.done_.set 0 _, h.calls_.far (q := ⟨g7, 0, none⟩) h8 _⟩
theorem TVars.set_calls (h : TVars w g4 g5 g7 g8 L T m capL tl capT done calls) (h4 : g4 ≠ g8) (h5 : g5 ≠ g8) (h7 : g7 ≠ g8) (x : Int) : TVars (w.setCell ⟨g8, 0, none⟩ (.int .i64 x)) g4 g5 g7 g8 L T m capL tl capT done x :=
  ⟨h.acts.far (q := ⟨g8, 0, none⟩) h4 _, h.turns.far (q := ⟨g8, 0, none⟩) h5 _, h.done_.far (q := ⟨g8, 0, none⟩) h7 _, h.calls_.set 0 _⟩
end

/-- What holds at each round's head of the read. -/
structure TInv (W w1 : World) (R : Option Addr) (p q g4 g5 g7 g8 : Nat) (L T : Option Addr) (m capL tl capT : Nat) (bs : List Int) (l : List (Int × Int × Int)) (zs : List Bool) (k : Nat) (wr : World) : Prop where
  cur : CurOk R wr p ((St.start bs).steps l k) (some ⟨q, 0, none⟩)
  trial : Box wr q 68 [.pointer (some ⟨p, 0, none⟩)]
  vars : TVars wr g4 g5 g7 g8 L T m capL tl capT k 1
  kept : Keeps [p, g7, g8] w1 wr
  below : Below W.heap.size W wr
  nostop : NoStop (.start bs) l zs k

/-- How the read ends. -/
def TRel (W : World) (g4 g5 g7 g8 : Nat) (L T : Option Addr) (m capL tl capT : Nat) (bs : List Int) (l : List (Int × Int × Int)) (zs : List Bool) (q : Nat) (r : Option Nat) (s2 : St) (w2 : World) : Prop :=
  ∃ j : Nat, Ends (.start bs) l zs j ∧ s2 = (St.start bs).steps l j ∧ (r = none ∨ r = some q) ∧ TVars w2 g4 g5 g7 g8 L T m capL tl capT j 1 ∧ Below W.heap.size W w2

theorem turn_get (zs : List Bool) (k : Nat) (h : 0 < zs.length) : turnAt zs k = zs[k % zs.length]'(Nat.mod_lt _ h) := by
  unfold turnAt
  simp [h, Nat.mod_lt k h]
theorem turn_none (zs : List Bool) (k : Nat) (h : zs.length = 0) : turnAt zs k = false := by simp [turnAt, h]

set_option maxRecDepth 100000 in
set_option maxHeartbeats 4000000 in
theorem tries_read (W w1 : World) (R : Option Addr) (lo p q g4 g5 g7 g8 : Nat) (L T : Option Addr) (m capL tl capT : Nat) (bs : List Int) (l : List (Int × Int × Int)) (zs : List Bool)
    (hW : Below W.heap.size W w1) (h0 : W.heap.size ≤ g4) (h45 : g4 < g5) (h57 : g5 < g7) (h78 : g7 < g8) (h8l : g8 < lo) (hlp : lo ≤ p) (h : CurOk R w1 p (.start bs) (some ⟨q, 0, none⟩)) (hq : Box w1 q 68 [.pointer (some ⟨p, 0, none⟩)])
    (hv : TVars w1 g4 g5 g7 g8 L T m capL tl capT 0 0) (hm : l.length = m) (hL : LiesActs W L l) (ht : zs.length = tl) (hT : Lies W T (zs.map .bool)) (hm1 : m ≤ 100) (ht1 : tl ≤ 100) :
    Calls Try.prog 18 #[.pointer (some ⟨p, 0, none⟩), .pointer (some ⟨g8, 0, none⟩), .pointer (some ⟨g4, 0, none⟩), .pointer (some ⟨g7, 0, none⟩), .pointer (some ⟨g5, 0, none⟩)] w1
      (ReadOk lo p w1 (fun r w2 => ∃ s2, CurOk R w2 p s2 (some ⟨q, 0, none⟩) ∧ TRel W g4 g5 g7 g8 L T m capL tl capT bs l zs q r s2 w2)) := by
  have HM := Lib.hid hm
  have HLA := Lib.hid hL
  have HT := Lib.hid ht
  have HTA := Lib.hid hT
  have c8 : w1.cell? ⟨g8, 0, none⟩ = some (.int .i64 0) := hv.calls_.cell 0
  have f8 := hv.calls_.frozen 0
  have hq8 : q ≠ g8 := hq.ne hv.calls_ (by decide)
  have hq7 : q ≠ g7 := hq.ne hv.done_ (by decide)
  have hqp : q ≠ p := by
    obtain ⟨A', cap', g1, _⟩ := h.is_
    exact hq.ne g1 (by decide)
  have hb8 : But g8 w1 (w1.setCell ⟨g8, 0, none⟩ (.int .i64 1)) := (But.refl _ _).set 0 _
  have I0 : TInv W w1 R p q g4 g5 g7 g8 L T m capL tl capT bs l zs 0 (w1.setCell ⟨g8, 0, none⟩ (.int .i64 1)) :=
    ⟨by rw [steps_zero]; exact h.elsewhere hv.calls_ (by decide) (by simp) hb8, hq.but hb8 hq8, hv.set_calls (by omega) (by omega) (by omega) 1, .of_but hb8 (by simp), hW.trans (hb8.below (by omega) hW.size), .zero _ _ _⟩
  clear h hq hv hb8 hm hL ht hT hW
  go_enter Try.func18, Try.ntmps18
  go_wp2_with fail
  go_loopw [6] (fun i wr => ∃ k : Nat, k ≤ m ∧ i = .int .i64 k ∧ TInv W w1 R p q g4 g5 g7 g8 L T m capL tl capT bs l zs k wr) (fun i _ => m - (intOf i).toNat)
  case atStart => exact ⟨0, Nat.zero_le _, rfl, I0⟩
  case round =>
    obtain ⟨k, hk, rfl, hI⟩ := hrel
    clear I0 c8 f8
    have v4 : wr.cell? ⟨g4, 0, none⟩ = some (.slice L m capL) := hI.vars.acts.cell 0
    by_cases hlt : k < m
    · obtain ⟨⟨d, nn, cc⟩, hx⟩ : ∃ x, l[k]? = some x := ⟨_, List.getElem?_eq_getElem (by rw [HM.out]; exact hlt)⟩
      have hlt' : (k : Int) < (m : Int) := by omega
      have hge' : (0 : Int) ≤ (k : Int) := by omega
      obtain ⟨lb, lo', rfl, y0, y1, y2⟩ := HLA.out.keep hI.below k _ hx
      simp only [] at y0 y1 y2
      have hst := steps_succ (.start bs) l k _ hx
      simp only [] at hst
      have HST := Lib.hid hst
      have HI := Lib.hid hI
      clear hI hst hx
      go_wp2_with fail
      refine (does_calls HI.out.cur d nn cc).mono ?_
      rintro e wa ⟨B, capB, rfl, _, ha, hba⟩
      rw [← HST.out] at ha
      have hva := HI.out.vars.but hba (by omega) (by omega) (by omega) (by omega)
      have v7 : wa.cell? ⟨g7, 0, none⟩ = some (.int .i64 k) := hva.done_.cell 0
      have f7 := hva.done_.frozen 0
      have hb7 : But g7 wa (wa.setCell ⟨g7, 0, none⟩ (.int .i64 ((k : Int) + 1))) := (But.refl _ _).set 0 _
      have hvb : TVars (wa.setCell ⟨g7, 0, none⟩ (.int .i64 ((k : Int) + 1))) g4 g5 g7 g8 (some ⟨lb, lo', none⟩) T m capL tl capT ((k + 1 : Nat) : Int) 1 := by
        have := hva.set_done (by omega) (by omega) (by omega) ((k : Int) + 1)
        exact this
      have hcb : CurOk R (wa.setCell ⟨g7, 0, none⟩ (.int .i64 ((k : Int) + 1))) p ((St.start bs).steps l (k + 1)) (some ⟨q, 0, none⟩) := ha.elsewhere hva.done_ (by decide) (by simp) hb7
      have hqb := (HI.out.trial.but hba hqp).but hb7 hq7
      have hkb : Keeps [p, g7, g8] w1 (wa.setCell ⟨g7, 0, none⟩ (.int .i64 ((k : Int) + 1))) := (HI.out.kept.trans (.of_but hba (by simp))).trans (.of_but hb7 (by simp))
      have hbb : Below W.heap.size W (wa.setCell ⟨g7, 0, none⟩ (.int .i64 ((k : Int) + 1))) := (HI.out.below.trans (hba.below (by omega) HI.out.below.size)).trans (hb7.below (by omega) (by have := hba.size; have := HI.out.below.size; omega))
      have v5 : (wa.setCell ⟨g7, 0, none⟩ (.int .i64 ((k : Int) + 1))).cell? ⟨g5, 0, none⟩ = some (.slice T tl capT) := hvb.turns.cell 0
      have HNS := Lib.hid HI.out.nostop
      have HCB := Lib.hid hcb
      have HQB := Lib.hid hqb
      have HVB := Lib.hid hvb
      have HKB := Lib.hid hkb
      have HBB := Lib.hid hbb
      clear ha hba hva hb7 hcb hqb hvb hkb hbb HI y0 y1 y2 v4
      go_wp2_with fail
      generalize wa.setCell ⟨g7, 0, none⟩ (.int .i64 ((k : Int) + 1)) = wb at HCB HQB HVB HKB HBB v5 ⊢
      clear v7 f7
      by_cases htl : tl = 0
      · subst htl
        go_quiet (fail)
        have hs1 : Same wb (wb.drewN nq) := .drewN _ _
        have HI1 := Lib.hid (show TInv W w1 R p q g4 g5 g7 g8 (some ⟨lb, lo', none⟩) T m capL 0 capT bs l zs (k + 1) (wb.drewN nq) from
          ⟨HCB.out.same hs1, HQB.out.same hs1, HVB.out.keep hs1.below, HKB.out.trans (.of_same hs1), HBB.out.trans hs1.below, HNS.out.succ (by rw [turn_none zs k HT.out]; simp)⟩)
        generalize wb.drewN nq = wc at HI1 ⊢
        clear hs1 v5 HCB HQB HVB HKB HBB
        go_wp2_with fail
        exact ⟨⟨k + 1, by omega, by go_num, HI1.out⟩, by simp [intOf]; omega⟩
      · have hmlt : k % tl < tl := Nat.mod_lt _ (by omega)
        have hzl : k % tl < zs.length := by rw [HT.out]; exact hmlt
        obtain ⟨tb, to, rfl, hcell⟩ := (HTA.out.keep HBB.out).at_ (i := k % tl) (by rw [List.length_map]; exact hzl)
        have htg : turnAt zs k = zs[k % tl] := by
          have := turn_get zs k (by omega)
          simpa [HT.out] using this
        have hcell' : wb.cell? ⟨tb, to + k % tl, none⟩ = some (.bool (turnAt zs k)) := by rw [hcell, htg]; simp
        have HTG := Lib.hid htg
        clear hcell htg
        generalize htn : turnAt zs k = tn at hcell'
        have HTN := Lib.hid htn
        clear htn
        have hmod : Int.tmod (k : Int) (tl : Int) = ((k % tl : Nat) : Int) := (Int.ofNat_tmod k tl).symm
        have u1 : ((k % tl : Nat) : Int) < (tl : Int) := by omega
        have u2 : (0 : Int) ≤ ((k % tl : Nat) : Int) := by omega
        have u3 : (0 : Int) < (tl : Int) := by omega
        have u4 : ¬ (tl : Int) = 0 := by omega
        have u5 : 0 < tl := by omega
        have u6 : k % tl < tl := hmlt
        go_quiet (fail)
        have hs1 : Same wb (wb.drewN nq) := .drewN _ _
        have HC1 := Lib.hid (HCB.out.same hs1)
        have HQ1 := Lib.hid (HQB.out.same hs1)
        have HV1 := Lib.hid (HVB.out.keep hs1.below)
        have HK1 := Lib.hid (HKB.out.trans (.of_same hs1))
        have HB1 := Lib.hid (HBB.out.trans hs1.below)
        generalize wb.drewN nq = wc at HC1 HQ1 HV1 HK1 HB1 ⊢
        clear hs1 v5 hcell' HCB HQB HVB HKB HBB hmod u1 u2 u3 u4 u5 u6 HTG
        cases tn with
        | false =>
          have HI1 := Lib.hid (show TInv W w1 R p q g4 g5 g7 g8 (some ⟨lb, lo', none⟩) (some ⟨tb, to, none⟩) m capL tl capT bs l zs (k + 1) wc from
            ⟨HC1.out, HQ1.out, HV1.out, HK1.out, HB1.out, HNS.out.succ (by rw [HTN.out]; simp)⟩)
          go_wp2_with fail
          exact ⟨⟨k + 1, by omega, by go_num, HI1.out⟩, by simp [intOf]; omega⟩
        | true =>
          by_cases hc0 : ((St.start bs).steps l (k + 1)).c = 0
          · go_wp2_with fail
            refine (must_right HC1.out HQ1.out hc0).mono ?_
            rintro e wd ⟨rfl, hbd⟩
            have HI1 := Lib.hid (show TInv W w1 R p q g4 g5 g7 g8 (some ⟨lb, lo', none⟩) (some ⟨tb, to, none⟩) m capL tl capT bs l zs (k + 1) wd from
              ⟨HC1.out.keep hbd, HQ1.out.keep hbd, HV1.out.keep hbd, HK1.out.trans (.of_below hbd), below_then HB1.out hbd, HNS.out.succ (fun hh => hh.2 hc0)⟩)
            clear hbd hc0
            go_wp2_with fail
            exact ⟨⟨k + 1, by omega, by go_num, HI1.out⟩, by simp [intOf]; omega⟩
          · go_wp2_with fail
            refine (must_wrong HC1.out HQ1.out hc0).mono ?_
            rintro e wd ⟨rfl, hbd⟩
            have hkd := HK1.out.trans (Keeps.of_below (S := [p, g7, g8]) hbd)
            have HEND := Lib.hid (show ReadOk lo p w1 (fun r w2 => ∃ s2, CurOk R w2 p s2 (some ⟨q, 0, none⟩) ∧ TRel W g4 g5 g7 g8 (some ⟨lb, lo', none⟩) (some ⟨tb, to, none⟩) m capL tl capT bs l zs q r s2 w2) (.panicked [{ v := stop q, recovered := false }]) wd from
              ⟨hkd.size, fun j hj1 hj2 hj3 => hkd.block j hj2 (by simp only [List.mem_cons, List.not_mem_nil, or_false]; omega), .inr ⟨q, _, rfl, ⟨[], rfl, by simp⟩, ⟨_, HQ1.out.keep hbd⟩, _, HC1.out.keep hbd, k + 1, .inr ⟨k, rfl, by rw [HM.out]; exact hlt, HNS.out, HTN.out, hc0⟩, rfl, .inr rfl, HV1.out.keep hbd, below_then HB1.out hbd⟩⟩)
            exact ⟨rfl, HEND.out⟩
    · obtain rfl : k = m := by omega
      have HEND := Lib.hid (show ReadOk lo p w1 (fun r w2 => ∃ s2, CurOk R w2 p s2 (some ⟨q, 0, none⟩) ∧ TRel W g4 g5 g7 g8 L T k capL tl capT bs l zs q r s2 w2) (.returned (.tuple #[])) wr from
        ⟨hI.kept.size, fun j hj1 hj2 hj3 => hI.kept.block j hj2 (by simp only [List.mem_cons, List.not_mem_nil, or_false]; omega), .inl ⟨rfl, _, hI.cur, k, .inl ⟨HM.out.symm, hI.nostop⟩, rfl, .inl rfl, hI.vars, hI.below⟩⟩)
      clear hI
      have hlt' : ¬ (k : Int) < (k : Int) := by omega
      go_wp2
      go_end0
      exact HEND.out
end Go.Proofs.Ytiipkmfkelbpiaa
