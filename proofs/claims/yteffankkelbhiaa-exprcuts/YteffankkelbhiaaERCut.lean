/-
  The document's Cut. No statement of the seat is proved here.
-/
import Derived.Test.YteffankkelbhiaaECut
import Derived.Test.YteffankkelbhiaaMCopy
namespace Go.Proofs.Yteffankkelbhiaa
open Go.RowKit
open Dc (D D0)

/-- What is cut, up to a value. -/
def cutTo (m : Mt) (f : Int) (i : Nat) : List Mt := ((m.vals.take i).map (oneM (bareT m f))).filter fun x => saysM x f
theorem cutTo_step {m : Mt} {f : Int} {i : Nat} {d : D} (hd : m.vals[i]? = some d) : cutTo m f (i + 1) = if saysM (oneM (bareT m f) d) f = true then cutTo m f i ++ [oneM (bareT m f) d] else cutTo m f i := by
  obtain ⟨h, rfl⟩ := List.getElem?_eq_some_iff.1 hd
  unfold cutTo
  rw [List.take_succ_eq_append_getElem h, List.map_append, List.filter_append, List.map_cons, List.map_nil, List.filter_cons, List.filter_nil]
  split
  · rfl
  · rw [List.append_nil]
theorem cutTo_all {m : Mt} {f : Int} {n : Nat} (h : m.vals.length = n) : cutTo m f n = onesL (bareT m f) f := by
  unfold cutTo
  rw [List.take_of_length_le (by omega)]
  rfl
theorem cutTo_len (m : Mt) (f : Int) (i : Nat) : (cutTo m f i).length ≤ i := by
  unfold cutTo
  refine Nat.le_trans (List.length_filter_le _ _) ?_
  rw [List.length_map, List.length_take]
  omega
/-- The document's walk: what is cut lies in new memory. -/
structure RcI (w : World) (m : Mt) (f : Int) (v : Value) (i : Nat) (W : World) : Prop where
  cs : ∃ cs, Owns (w.heap.size + 1) W v cs.length cs ∧ datM cs = cutTo m f i

section
variable {w : World} {s : ByteArray} {A B : Option Addr} {n k ca cb : Nat} {m : Mt}
theorem rsays_says (h : MIs w s A n B k m) (f : Int) {kd rt tm : Int} (e1 : m.kind = kd) (e2 : m.rate = rt) (e3 : m.time = tm) : Calls Try.prog 23 #[.agg #[.string s, .int .i64 kd, .slice A n ca, .int .i64 rt, .slice B k cb, .int .i64 tm], .int .i64 f] w fun e w' => e = .returned (.bool (saysM m f)) ∧ Below w.heap.size w w' := by
  subst e1 e2 e3
  exact rsays_calls h f
theorem own_dec (w : World) {g : Nat} (hg : w.heap.size = g) {x : Bool} {y z : Int} {d : D} (h : Dl x y z d) : (w.alloc (.cells #[.bool x, .int .u64 y, .int .i64 z] 45)).ownsRow g 45 3 (.slice (some ⟨g, 0, none⟩) 1 1) 1 (flatD [d]) := by
  subst hg
  have e : ([.bool x, .int .u64 y, .int .i64 z] : List Value) = flatD [d] := by rw [h.neg, h.c, h.e]; rfl
  rw [← e]
  exact own_lit w 45 (xs := [.bool x, .int .u64 y, .int .i64 z]) (Nat.le_refl _) rfl (by unfold maxLen; omega)
/-- What the document's Cut leaves. -/
def RCutP (w : World) (m : Mt) (f : Int) (e : Ending) (w' : World) : Prop :=
  (∃ A' n' c' cs, e = .returned (.tuple #[.slice A' n' c', .int .i64 (cutE m f)]) ∧ Mets w' A' cs ∧ cs.length = n' ∧ datM cs = cutR m f) ∧ Below w.heap.size w w'
theorem rmets_nil (W : World) : Mets W none [] := Mets.nil

set_option maxRecDepth 100000 in
set_option maxHeartbeats 4000000 in
theorem rcut_calls (h : MIs w s A n B k m) (hz : Small m) (f : Int) :
    Calls Try.prog 17 #[mV s m.kind A n ca m.rate B k cb m.time, .int .i64 f] w (RCutP w m f) := by
  have HH := Lib.hid (And.intro h hz)
  have HB := Lib.hid (Kb.enter (ca := ca) (cb := cb) h)
  obtain ⟨c, hc⟩ : ∃ x, checkM m = x := ⟨_, rfl⟩
  have HC := Lib.hid hc
  unfold mV
  clear h hz hc
  obtain ⟨c0, c1, c2, c3, c4, c5⟩ := HB.out.six (.head _)
  go_enter Try.func17, Try.ntmps17
  rcases (by omega : f < 1 ∨ (¬ f < 1 ∧ 4 < f) ∨ (f = 1 ∨ f = 2 ∨ f = 3 ∨ f = 4)) with h1 | ⟨h1, h2⟩ | h1
  · have HE := Lib.hid (show cutE m f = 29 by unfold cutE known; rw [decide_eq_false (by omega)]; rfl)
    go_wp2_with fail
    go_ret2
    exact ⟨⟨none, 0, 0, [], by rw [HE.out]; first | done | rfl, rmets_nil _, rfl, by unfold cutR; rw [HE.out]; rfl⟩, HB.out.kept⟩
  · have HE := Lib.hid (show cutE m f = 29 by unfold cutE known; rw [decide_eq_false (by omega)]; rfl)
    go_wp2_with fail
    go_ret2
    exact ⟨⟨none, 0, 0, [], by rw [HE.out]; first | done | rfl, rmets_nil _, rfl, by unfold cutR; rw [HE.out]; rfl⟩, HB.out.kept⟩
  · have HK := Lib.hid (show known f = true by unfold known; rw [decide_eq_true (by omega)])
    have g1 : ¬ f < 1 := by omega
    have g2 : ¬ 4 < f := by omega
    go_wp2_with fail
    refine (HB.out.rcheck_ (.head _) HH.out.2 HC.out _ _).mono ?_
    rintro e w1 ⟨rfl, hb⟩
    have HB1 := Lib.hid hb
    clear hb HB c0 c1 c2 c3 c4 c5
    obtain ⟨c0, c1, c2, c3, c4, c5⟩ := HB1.out.six (.head _)
    by_cases hc0 : c = 0
    · subst hc0
      clear g1 g2
      have HL := Lib.hid (show cutE m f = if cutL m f = [] then 26 else 0 by unfold cutE; rw [HK.out, if_neg (by decide), if_neg (by rw [HC.out]; simp)])
      rcases h1 with rfl | rfl | rfl | rfl
      · go_wp2_with fail
        have gN : (n : Int) ≤ 1000 := by have := HH.out.1.vlen; have := HH.out.2.vals; omega
        go_loopw [7, 8] (fun v7 v8 wr => ∃ i : Nat, v8 = .int .i64 i ∧ i ≤ n ∧ Hid (Kb w [(w.heap.size, 25, [.string s, .int .i64 m.kind, .slice A n ca, .int .i64 m.rate, .slice B k cb, .int .i64 m.time])] [(s, A, n, B, k, m)] wr ∧ RcI w m 1 v7 i wr)) (fun _ v8 _ => n - (intOf v8).toNat)
        case atStart => exact ⟨0, rfl, by omega, ⟨HB1.out, ⟨[], ⟨⟨rfl, .inl ⟨rfl, rfl⟩⟩, by simp⟩, rfl⟩⟩⟩
        case round =>
          obtain ⟨i, rfl, hi, hrel⟩ := hrel
          have HR := Lib.hid hrel.out
          clear hrel c0 c1 c2 c3 c4 c5
          obtain ⟨c0, c1, c2, c3, c4, c5⟩ := HR.out.1.six (.head _)
          by_cases hlt : i < n
          · have g2 : (i : Int) < (n : Int) := by omega
            have g3 : (0 : Int) ≤ (i : Int) := by omega
            have hm := HR.out.1.m (.head _)
            have l0 : i < m.vals.length := by rw [hm.vlen]; exact hlt
            obtain ⟨b, off, x, y, z, e1, d0, d1, d2, hd⟩ := hm.vals.get l0
            subst e1
            have hgd := List.getElem?_eq_getElem l0
            generalize m.vals[i] = d at hd hgd
            have HD := Lib.hid (And.intro hgd hd)
            clear hm l0 hd hgd
            have e2 : ∀ o, (wr.alloc o).cell? ⟨w.heap.size, 2, none⟩ = some (.slice (some ⟨b, off, none⟩) n ca) := fun o => (HR.out.1.alloc o).cell (.head _) rfl
            have k0 : ∀ o, (wr.alloc o).cell? ⟨b, off + i * 3, none⟩ = some (.bool x) := fun o => ((m_below wr o).cell (cell_lt d0)).trans d0
            have k1 : ∀ o, (wr.alloc o).cell? ⟨b, off + i * 3 + 1, none⟩ = some (.int .u64 y) := fun o => ((m_below wr o).cell (cell_lt d1)).trans d1
            have k2 : ∀ o, (wr.alloc o).cell? ⟨b, off + i * 3 + 2, none⟩ = some (.int .i64 z) := fun o => ((m_below wr o).cell (cell_lt d2)).trans d2
            have bx := Box.new wr 25 [.string s, .int .i64 m.kind, .slice (some ⟨b, off, none⟩) n ca, .int .i64 m.rate, .slice B k cb, .int .i64 m.time]
            have ff : ∀ o j, ((wr.alloc (.cells #[.string s, .int .i64 m.kind, .slice (some ⟨b, off, none⟩) n ca, .int .i64 m.rate, .slice B k cb, .int .i64 m.time] 25)).alloc o).frozen? ⟨wr.heap.size, j, none⟩ = false := fun o j => (bx.keep (m_below _ o)).frozen j
            clear bx d0 d1 d2
            have hX := Box.new wr 25 [.string s, .int .i64 m.kind, .slice (some ⟨wr.heap.size + 1, 0, none⟩) 1 1, .int .i64 m.rate, .slice none 0 0, .int .i64 0]
            have hX2 := hX.alloc (.cells #[.bool x, .int .u64 y, .int .i64 z] 45)
            have hbW := below_then (m_below wr (.cells #[.string s, .int .i64 m.kind, .slice (some ⟨wr.heap.size + 1, 0, none⟩) 1 1, .int .i64 m.rate, .slice none 0 0, .int .i64 0] 25)) (m_below _ (.cells #[.bool x, .int .u64 y, .int .i64 z] 45))
            have hds : Decs ((wr.alloc (.cells #[.string s, .int .i64 m.kind, .slice (some ⟨wr.heap.size + 1, 0, none⟩) 1 1, .int .i64 m.rate, .slice none 0 0, .int .i64 0] 25)).alloc (.cells #[.bool x, .int .u64 y, .int .i64 z] 45)) (some ⟨wr.heap.size + 1, 0, none⟩) [d] := decs_at (size_alloc _ _) HD.out.2
            have how := own_dec (wr.alloc (.cells #[.string s, .int .i64 m.kind, .slice (some ⟨wr.heap.size + 1, 0, none⟩) 1 1, .int .i64 m.rate, .slice none 0 0, .int .i64 0] 25)) (g := wr.heap.size + 1) (size_alloc _ _) HD.out.2
            obtain ⟨c, hc⟩ : ∃ c, saysM (oneM (bareT m 1) d) 1 = c := ⟨_, rfl⟩
            have hC := rsays_says (A := some ⟨wr.heap.size + 1, 0, none⟩) (n := 1) (B := none) (k := 0) (s := s) (ca := 1) (cb := 0) (m := oneM (bareT m 1) d) ⟨HH.out.1.name, rfl, hds, rfl, Tags.nil⟩ 1 (kd := m.kind) (rt := m.rate) (tm := 0) rfl rfl rfl
            rw [hc] at hC
            have HC2 := Lib.hid hC
            have HX := Lib.hid (And.intro hX2 (And.intro hbW (And.intro how hc)))
            clear hX hX2 hbW hds how hC hc
            go_wp2_with fail
            refine HC2.out.mono ?_
            rintro e w3 ⟨rfl, hb⟩
            have hb3 := below_then HX.out.2.1 hb
            have HB3 := Lib.hid (And.intro hb3 (own_keep HX.out.2.2.1 hb))
            have hX3 := HX.out.1.keep hb
            clear hb hb3 HC2 c0 c1 c2 c3 c4 c5 e2 k0 k1 k2 ff
            obtain ⟨c0, c1, c2, c3, c4, c5⟩ := ((Kb.start w3).add hX3).six (.head _)
            clear hX3
            cases c
            · go_wp2_with fail
              refine ⟨⟨i + 1, by go_num, by omega, ⟨HR.out.1.next HB3.out.1, ?_⟩⟩, by simp [intOf]; omega⟩
              obtain ⟨cs, hO, hD⟩ := HR.out.2
              exact ⟨cs, hO.keep HB3.out.1, by rw [cutTo_step HD.out.1, if_neg (by rw [HX.out.2.2.2]; decide)]; exact hD⟩
            · obtain ⟨⟨cs, hO, hD⟩⟩ := HR.out.2
              have hO3 := hO.keep (below_then HB3.out.1 (m_below w3 (.cells #[.string s, .int .i64 m.kind, .slice (some ⟨wr.heap.size + 1, 0, none⟩) 1 1, .int .i64 m.rate, .slice none 0 0, .int .i64 0] 25)))
              have HO := Lib.hid (And.intro hO3 hD)
              have HL3 := Lib.hid (show w.heap.size + 1 ≤ w3.heap.size from Nat.lt_of_lt_of_le (HR.out.1.lt (.head _)) HB3.out.1.size)
              have HF := Lib.hid (show cs.length ≤ 1000 by have := cutTo_len m 1 i; rw [← hD, datM_len] at this; omega)
              clear hO hD hO3
              go_wp2_with (first | (at_builtin; refine wpList_append_rows _ rowMet rfl (.tmp 52) (.tmp 54) rfl (w.heap.size + 1) u7 cs.length _ rfl HO.out.1.own (some ⟨w3.heap.size, 0, none⟩) 1 1 [.string s, .int .i64 m.kind, .slice (some ⟨wr.heap.size + 1, 0, none⟩) 1 1, .int .i64 m.rate, .slice none 0 0, .int .i64 0] rfl rfl (lies_at rfl ⟨s, some ⟨wr.heap.size + 1, 0, none⟩, 1, 1, none, 0, 0, oneM (bareT m 1) d⟩) (encM_cells (e := ⟨s, some ⟨wr.heap.size + 1, 0, none⟩, 1, 1, none, 0, 0, oneM (bareT m 1) d⟩)) (by have := HF.out; omega) (by rw [size_alloc]; have := HL3.out; omega) ?_; intro v5 w5 hown5 hgr5 hob5; have HW5 := Lib.hid (And.intro hown5 hgr5); clear hown5 hgr5 hob5))
              refine ⟨⟨i + 1, by go_num, by omega, ⟨kb_grown (HR.out.1.next (below_then HB3.out.1 (m_below w3 _))) HH.out.1 HO.out.1.own HW5.out.2, ?_⟩⟩, by simp [intOf]; omega⟩
              have hp := HO.out.1.push (e := ⟨s, some ⟨wr.heap.size + 1, 0, none⟩, 1, 1, none, 0, 0, oneM (bareT m 1) d⟩) ⟨HH.out.1.name, own_base (own_keep HB3.out.2 (m_below w3 _)) (by have := HR.out.1.lt (.head _); omega), ⟨rfl, .inl ⟨rfl, rfl⟩⟩⟩ HW5.out.2 HW5.out.1
              refine ⟨cs ++ [⟨s, some ⟨wr.heap.size + 1, 0, none⟩, 1, 1, none, 0, 0, oneM (bareT m 1) d⟩], by rw [List.length_append]; exact hp, ?_⟩
              rw [cutTo_step HD.out.1, if_pos HX.out.2.2.2]
              show List.map _ (cs ++ _) = _
              rw [List.map_append]
              exact congrArg (· ++ _) HO.out.2
          · have g2 : ¬ (i : Int) < (n : Int) := by omega
            obtain rfl : n = i := by omega
            obtain ⟨⟨cs, hO, hD⟩⟩ := HR.out.2
            obtain ⟨Av, cv, rfl, -⟩ := own_slice hO.own
            rw [cutTo_all HH.out.1.vlen] at hD
            have HO := Lib.hid (And.intro hO hD)
            clear hO hD
            have HL2 := Lib.hid (show cutL m 1 = onesL (bareT m 1) 1 by unfold cutL; rw [if_neg (by decide)])
            by_cases hl : cs.length = 0
            · have HF := Lib.hid (show cutE m 1 = 26 by rw [HL.out, HL2.out, ← HO.out.2, List.eq_nil_of_length_eq_zero hl]; rfl)
              have g1 : (cs.length : Int) = 0 := by omega
              go_wp2_with fail
              go_ret2
              exact ⟨⟨none, 0, 0, [], by rw [HF.out]; first | done | rfl, rmets_nil _, rfl, by unfold cutR; rw [HF.out]; rfl⟩, HR.out.1.kept⟩
            · have HF := Lib.hid (show cutE m 1 = 0 by rw [HL.out, HL2.out, ← HO.out.2, if_neg (by intro e; exact hl (by rw [← datM_len, e]; rfl))])
              have g1 : ((cs.length : Int) == 0) = false := by simpa using hl
              go_wp2_with fail
              go_ret2
              exact ⟨⟨Av, cs.length, cv, cs, by rw [HF.out]; first | done | rfl, HO.out.1.mets, rfl, by unfold cutR; rw [if_pos HF.out, HL2.out]; exact HO.out.2⟩, HR.out.1.kept⟩
      · have HE := Lib.hid (show cutE m 2 = 0 ∧ cutR m 2 = [m] by
          have e1 : cutL m 2 = [m] := by unfold cutL; rw [if_pos (by decide)]
          have e2 : cutE m 2 = 0 := by rw [HL.out, e1]; rfl
          exact ⟨e2, by unfold cutR; rw [if_pos e2, e1]⟩)
        have HCl := Lib.hid (copy_calls7 (ca := ca) (cb := cb) (HB1.out.m (.head _)) HH.out.2)
        unfold mV at HCl
        go_wp2_with fail
        refine HCl.out.mono ?_
        rintro e w2 ⟨⟨A', ca', B', cb', rfl, ho⟩, hb⟩
        have HO := Lib.hid (And.intro ho hb)
        clear ho hb HCl c0 c1 c2 c3 c4 c5
        unfold mV
        go_wp2_with fail
        go_ret2
        have ho : OwnM w1.heap.size (w2.alloc (.cells #[.string s, .int .i64 m.kind, .slice A' n ca', .int .i64 m.rate, .slice B' k cb', .int .i64 m.time] 25)) s A' n ca' B' k cb' m := HO.out.1.keep (m_below _ _)
        refine ⟨⟨some ⟨w2.heap.size, 0, none⟩, 1, 1, [⟨s, A', n, ca', B', k, cb', m⟩], by rw [HE.out.1]; first | done | rfl, ⟨?_, fun e he => ?_⟩, rfl, by rw [HE.out.2]; rfl⟩, below_then (below_then HB1.out.kept HO.out.2) (m_below _ _)⟩
        · rw [flatM_one]
          exact lies_at rfl ⟨s, A', n, ca', B', k, cb', m⟩
        · rcases List.mem_singleton.1 he with rfl
          exact ho.mis
      · go_wp2_with fail
        have gN : (n : Int) ≤ 1000 := by have := HH.out.1.vlen; have := HH.out.2.vals; omega
        go_loopw [7, 8] (fun v7 v8 wr => ∃ i : Nat, v8 = .int .i64 i ∧ i ≤ n ∧ Hid (Kb w [(w.heap.size, 25, [.string s, .int .i64 m.kind, .slice A n ca, .int .i64 m.rate, .slice B k cb, .int .i64 m.time])] [(s, A, n, B, k, m)] wr ∧ RcI w m 3 v7 i wr)) (fun _ v8 _ => n - (intOf v8).toNat)
        case atStart => exact ⟨0, rfl, by omega, ⟨HB1.out, ⟨[], ⟨⟨rfl, .inl ⟨rfl, rfl⟩⟩, by simp⟩, rfl⟩⟩⟩
        case round =>
          obtain ⟨i, rfl, hi, hrel⟩ := hrel
          have HR := Lib.hid hrel.out
          clear hrel c0 c1 c2 c3 c4 c5
          obtain ⟨c0, c1, c2, c3, c4, c5⟩ := HR.out.1.six (.head _)
          by_cases hlt : i < n
          · have g2 : (i : Int) < (n : Int) := by omega
            have g3 : (0 : Int) ≤ (i : Int) := by omega
            have hm := HR.out.1.m (.head _)
            have l0 : i < m.vals.length := by rw [hm.vlen]; exact hlt
            obtain ⟨b, off, x, y, z, e1, d0, d1, d2, hd⟩ := hm.vals.get l0
            subst e1
            have hgd := List.getElem?_eq_getElem l0
            generalize m.vals[i] = d at hd hgd
            have HD := Lib.hid (And.intro hgd hd)
            clear hm l0 hd hgd
            have e2 : ∀ o, (wr.alloc o).cell? ⟨w.heap.size, 2, none⟩ = some (.slice (some ⟨b, off, none⟩) n ca) := fun o => (HR.out.1.alloc o).cell (.head _) rfl
            have k0 : ∀ o, (wr.alloc o).cell? ⟨b, off + i * 3, none⟩ = some (.bool x) := fun o => ((m_below wr o).cell (cell_lt d0)).trans d0
            have k1 : ∀ o, (wr.alloc o).cell? ⟨b, off + i * 3 + 1, none⟩ = some (.int .u64 y) := fun o => ((m_below wr o).cell (cell_lt d1)).trans d1
            have k2 : ∀ o, (wr.alloc o).cell? ⟨b, off + i * 3 + 2, none⟩ = some (.int .i64 z) := fun o => ((m_below wr o).cell (cell_lt d2)).trans d2
            have bx := Box.new wr 25 [.string s, .int .i64 m.kind, .slice (some ⟨b, off, none⟩) n ca, .int .i64 m.rate, .slice B k cb, .int .i64 m.time]
            have ff : ∀ o j, ((wr.alloc (.cells #[.string s, .int .i64 m.kind, .slice (some ⟨b, off, none⟩) n ca, .int .i64 m.rate, .slice B k cb, .int .i64 m.time] 25)).alloc o).frozen? ⟨wr.heap.size, j, none⟩ = false := fun o j => (bx.keep (m_below _ o)).frozen j
            clear bx d0 d1 d2
            have hX := Box.new wr 25 [.string s, .int .i64 m.kind, .slice (some ⟨wr.heap.size + 1, 0, none⟩) 1 1, .int .i64 m.rate, .slice none 0 0, .int .i64 m.time]
            have hX2 := hX.alloc (.cells #[.bool x, .int .u64 y, .int .i64 z] 45)
            have hbW := below_then (m_below wr (.cells #[.string s, .int .i64 m.kind, .slice (some ⟨wr.heap.size + 1, 0, none⟩) 1 1, .int .i64 m.rate, .slice none 0 0, .int .i64 m.time] 25)) (m_below _ (.cells #[.bool x, .int .u64 y, .int .i64 z] 45))
            have hds : Decs ((wr.alloc (.cells #[.string s, .int .i64 m.kind, .slice (some ⟨wr.heap.size + 1, 0, none⟩) 1 1, .int .i64 m.rate, .slice none 0 0, .int .i64 m.time] 25)).alloc (.cells #[.bool x, .int .u64 y, .int .i64 z] 45)) (some ⟨wr.heap.size + 1, 0, none⟩) [d] := decs_at (size_alloc _ _) HD.out.2
            have how := own_dec (wr.alloc (.cells #[.string s, .int .i64 m.kind, .slice (some ⟨wr.heap.size + 1, 0, none⟩) 1 1, .int .i64 m.rate, .slice none 0 0, .int .i64 m.time] 25)) (g := wr.heap.size + 1) (size_alloc _ _) HD.out.2
            obtain ⟨c, hc⟩ : ∃ c, saysM (oneM (bareT m 3) d) 3 = c := ⟨_, rfl⟩
            have hC := rsays_says (A := some ⟨wr.heap.size + 1, 0, none⟩) (n := 1) (B := none) (k := 0) (s := s) (ca := 1) (cb := 0) (m := oneM (bareT m 3) d) ⟨HH.out.1.name, rfl, hds, rfl, Tags.nil⟩ 3 (kd := m.kind) (rt := m.rate) (tm := m.time) rfl rfl rfl
            rw [hc] at hC
            have HC2 := Lib.hid hC
            have HX := Lib.hid (And.intro hX2 (And.intro hbW (And.intro how hc)))
            clear hX hX2 hbW hds how hC hc
            go_wp2_with fail
            refine HC2.out.mono ?_
            rintro e w3 ⟨rfl, hb⟩
            have hb3 := below_then HX.out.2.1 hb
            have HB3 := Lib.hid (And.intro hb3 (own_keep HX.out.2.2.1 hb))
            have hX3 := HX.out.1.keep hb
            clear hb hb3 HC2 c0 c1 c2 c3 c4 c5 e2 k0 k1 k2 ff
            obtain ⟨c0, c1, c2, c3, c4, c5⟩ := ((Kb.start w3).add hX3).six (.head _)
            clear hX3
            cases c
            · go_wp2_with fail
              refine ⟨⟨i + 1, by go_num, by omega, ⟨HR.out.1.next HB3.out.1, ?_⟩⟩, by simp [intOf]; omega⟩
              obtain ⟨cs, hO, hD⟩ := HR.out.2
              exact ⟨cs, hO.keep HB3.out.1, by rw [cutTo_step HD.out.1, if_neg (by rw [HX.out.2.2.2]; decide)]; exact hD⟩
            · obtain ⟨⟨cs, hO, hD⟩⟩ := HR.out.2
              have hO3 := hO.keep (below_then HB3.out.1 (m_below w3 (.cells #[.string s, .int .i64 m.kind, .slice (some ⟨wr.heap.size + 1, 0, none⟩) 1 1, .int .i64 m.rate, .slice none 0 0, .int .i64 m.time] 25)))
              have HO := Lib.hid (And.intro hO3 hD)
              have HL3 := Lib.hid (show w.heap.size + 1 ≤ w3.heap.size from Nat.lt_of_lt_of_le (HR.out.1.lt (.head _)) HB3.out.1.size)
              have HF := Lib.hid (show cs.length ≤ 1000 by have := cutTo_len m 3 i; rw [← hD, datM_len] at this; omega)
              clear hO hD hO3
              go_wp2_with (first | (at_builtin; refine wpList_append_rows _ rowMet rfl (.tmp 52) (.tmp 54) rfl (w.heap.size + 1) u7 cs.length _ rfl HO.out.1.own (some ⟨w3.heap.size, 0, none⟩) 1 1 [.string s, .int .i64 m.kind, .slice (some ⟨wr.heap.size + 1, 0, none⟩) 1 1, .int .i64 m.rate, .slice none 0 0, .int .i64 m.time] rfl rfl (lies_at rfl ⟨s, some ⟨wr.heap.size + 1, 0, none⟩, 1, 1, none, 0, 0, oneM (bareT m 3) d⟩) (encM_cells (e := ⟨s, some ⟨wr.heap.size + 1, 0, none⟩, 1, 1, none, 0, 0, oneM (bareT m 3) d⟩)) (by have := HF.out; omega) (by rw [size_alloc]; have := HL3.out; omega) ?_; intro v5 w5 hown5 hgr5 hob5; have HW5 := Lib.hid (And.intro hown5 hgr5); clear hown5 hgr5 hob5))
              refine ⟨⟨i + 1, by go_num, by omega, ⟨kb_grown (HR.out.1.next (below_then HB3.out.1 (m_below w3 _))) HH.out.1 HO.out.1.own HW5.out.2, ?_⟩⟩, by simp [intOf]; omega⟩
              have hp := HO.out.1.push (e := ⟨s, some ⟨wr.heap.size + 1, 0, none⟩, 1, 1, none, 0, 0, oneM (bareT m 3) d⟩) ⟨HH.out.1.name, own_base (own_keep HB3.out.2 (m_below w3 _)) (by have := HR.out.1.lt (.head _); omega), ⟨rfl, .inl ⟨rfl, rfl⟩⟩⟩ HW5.out.2 HW5.out.1
              refine ⟨cs ++ [⟨s, some ⟨wr.heap.size + 1, 0, none⟩, 1, 1, none, 0, 0, oneM (bareT m 3) d⟩], by rw [List.length_append]; exact hp, ?_⟩
              rw [cutTo_step HD.out.1, if_pos HX.out.2.2.2]
              show List.map _ (cs ++ _) = _
              rw [List.map_append]
              exact congrArg (· ++ _) HO.out.2
          · have g2 : ¬ (i : Int) < (n : Int) := by omega
            obtain rfl : n = i := by omega
            obtain ⟨⟨cs, hO, hD⟩⟩ := HR.out.2
            obtain ⟨Av, cv, rfl, -⟩ := own_slice hO.own
            rw [cutTo_all HH.out.1.vlen] at hD
            have HO := Lib.hid (And.intro hO hD)
            clear hO hD
            have HL2 := Lib.hid (show cutL m 3 = onesL (bareT m 3) 3 by unfold cutL; rw [if_neg (by decide)])
            by_cases hl : cs.length = 0
            · have HF := Lib.hid (show cutE m 3 = 26 by rw [HL.out, HL2.out, ← HO.out.2, List.eq_nil_of_length_eq_zero hl]; rfl)
              have g1 : (cs.length : Int) = 0 := by omega
              go_wp2_with fail
              go_ret2
              exact ⟨⟨none, 0, 0, [], by rw [HF.out]; first | done | rfl, rmets_nil _, rfl, by unfold cutR; rw [HF.out]; rfl⟩, HR.out.1.kept⟩
            · have HF := Lib.hid (show cutE m 3 = 0 by rw [HL.out, HL2.out, ← HO.out.2, if_neg (by intro e; exact hl (by rw [← datM_len, e]; rfl))])
              have g1 : ((cs.length : Int) == 0) = false := by simpa using hl
              go_wp2_with fail
              go_ret2
              exact ⟨⟨Av, cs.length, cv, cs, by rw [HF.out]; first | done | rfl, HO.out.1.mets, rfl, by unfold cutR; rw [if_pos HF.out, HL2.out]; exact HO.out.2⟩, HR.out.1.kept⟩
      · have HE := Lib.hid (show cutE m 4 = 0 ∧ cutR m 4 = [m] by
          have e1 : cutL m 4 = [m] := by unfold cutL; rw [if_pos (by decide)]
          have e2 : cutE m 4 = 0 := by rw [HL.out, e1]; rfl
          exact ⟨e2, by unfold cutR; rw [if_pos e2, e1]⟩)
        have HCl := Lib.hid (copy_calls7 (ca := ca) (cb := cb) (HB1.out.m (.head _)) HH.out.2)
        unfold mV at HCl
        go_wp2_with fail
        refine HCl.out.mono ?_
        rintro e w2 ⟨⟨A', ca', B', cb', rfl, ho⟩, hb⟩
        have HO := Lib.hid (And.intro ho hb)
        clear ho hb HCl c0 c1 c2 c3 c4 c5
        unfold mV
        go_wp2_with fail
        go_ret2
        have ho : OwnM w1.heap.size (w2.alloc (.cells #[.string s, .int .i64 m.kind, .slice A' n ca', .int .i64 m.rate, .slice B' k cb', .int .i64 m.time] 25)) s A' n ca' B' k cb' m := HO.out.1.keep (m_below _ _)
        refine ⟨⟨some ⟨w2.heap.size, 0, none⟩, 1, 1, [⟨s, A', n, ca', B', k, cb', m⟩], by rw [HE.out.1]; first | done | rfl, ⟨?_, fun e he => ?_⟩, rfl, by rw [HE.out.2]; rfl⟩, below_then (below_then HB1.out.kept HO.out.2) (m_below _ _)⟩
        · rw [flatM_one]
          exact lies_at rfl ⟨s, A', n, ca', B', k, cb', m⟩
        · rcases List.mem_singleton.1 he with rfl
          exact ho.mis
    · have HE := Lib.hid (show cutE m f = c by unfold cutE; rw [HK.out, if_neg (by decide), HC.out, if_pos hc0])
      have hq : (c != 0) = true := by simpa using hc0
      go_wp2_with fail
      go_ret2
      exact ⟨⟨none, 0, 0, [], by rw [HE.out]; first | done | rfl, rmets_nil _, rfl, by unfold cutR; rw [HE.out, if_neg hc0]; rfl⟩, HB1.out.kept⟩
end
end Go.Proofs.Yteffankkelbhiaa
