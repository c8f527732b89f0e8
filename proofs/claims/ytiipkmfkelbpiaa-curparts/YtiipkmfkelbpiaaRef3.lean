/-
  Contracts of the document's answer for layer 1: Byte, Until. No statement of the seat is proved here.
-/
import Derived.Test.YtiipkmfkelbpiaaRef2
namespace Go.Proofs.Ytiipkmfkelbpiaa
open Go.RowKit

theorem byte_of_take (s : St) : (s.take 1 = ([], s.byte.2) ∧ s.byte.1 = 0) ∨ (∃ x, s.take 1 = ([x], s.byte.2) ∧ s.byte.1 = x) := by
  by_cases hc : s.c = 0
  · by_cases ht : s.t < s.bs.length
    · right
      refine ⟨s.bs.getD s.t 0, ?_, ?_⟩
      · have h1 : ¬ (s.bs.length : Int) - (s.t : Int) < 1 := by omega
        have h2 : ((s.bs.drop s.t).take 1) = [s.bs.getD s.t 0] := by
          rw [List.drop_eq_getElem_cons ht, List.getD_eq_getElem?_getD, List.getElem?_eq_getElem ht]
          rfl
        simp only [St.take, St.byte, St.next, hc, ht, h1, ne_eq, not_true_eq_false, if_false, true_and, if_true, show ¬ ((1 : Int) < 0) by omega, show (1 : Int).toNat = 1 from rfl, h2]
      · simp [St.byte, hc, ht]
    · left
      have h1 : (s.bs.length : Int) - (s.t : Int) < 1 := by omega
      simp [St.take, St.byte, hc, ht, h1]
  · left
    simp [St.take, St.byte, hc, St.fail]

theorem ahead_eq (x : Int) : ∀ (l : List Int) (k : Nat), (∀ z ∈ l.take k, z ≠ x) → l[k]? = some x → St.ahead x l = k
  | [], k, _, h => by simp at h
  | z :: l, 0, _, h => by
    simp at h
    subst h
    rw [ahead_cons, if_pos rfl]
  | z :: l, k + 1, hn, h => by
    have hz : z ≠ x := hn z (by simp)
    have ih := ahead_eq x l k (fun y hy => hn y (by simp [hy])) (by simpa using h)
    rw [ahead_cons, if_neg hz, ih]
theorem ahead_all (x : Int) : ∀ l : List Int, (∀ z ∈ l, z ≠ x) → St.ahead x l = l.length
  | [], _ => rfl
  | z :: l, h => by
    have hz : z ≠ x := h z (by simp)
    rw [ahead_cons, if_neg hz, ahead_all x l (fun y hy => h y (by simp [hy])), List.length_cons]

section
variable {A : Option Addr} {cap : Nat} {w w' : World} {r : Nat} {s : St}

theorem rbyte_calls (h : RefOk A cap w r s) :
    Calls Try.prog 29 #[.pointer (some ⟨r, 0, none⟩)] w (RHands A cap w r (.int .u8 s.byte.1) s.byte.2) := by
  have ht := rtake_calls h 1
  rcases byte_of_take s with ⟨h1, h2⟩ | ⟨x, h1, h2⟩
  · rw [h1] at ht
    rw [h2]
    generalize s.byte.2 = s' at ht ⊢
    have HT := Lib.hid ht
    clear ht h1 h2
    go_enter Try.func29, Try.ntmps29
    go_wp2_with fail
    refine HT.out.mono ?_
    rintro e w1 ⟨B, capB, rfl, hown, h1, hb1⟩
    clear hown
    go_wp2
    go_ret
    exact ⟨rfl, h1, hb1⟩
  · rw [h1] at ht
    rw [h2]
    generalize s.byte.2 = s' at ht ⊢
    have HT := Lib.hid ht
    clear ht h1 h2
    go_enter Try.func29, Try.ntmps29
    go_wp2_with fail
    refine HT.out.mono ?_
    rintro e w1 ⟨B, capB, rfl, hown, h1, hb1⟩
    obtain ⟨b, off, rfl, hcell⟩ := (Lies.of_own hown).at_ (i := 0) (by simp [by8])
    have hcell' : w1.cell? ⟨b, off, none⟩ = some (.int .u8 x) := hcell
    clear hown hcell
    go_wp2
    go_ret
    exact ⟨rfl, h1, hb1⟩

/-- What holds at each round's head of Until. -/
def RUntilInv (A : Option Addr) (cap : Nat) (w : World) (r : Nat) (s : St) (x : Int) (out : Value) (wr : World) : Prop :=
  ∃ k B capB, s.t + k ≤ s.bs.length ∧ out = .slice B k capB ∧ wr.ownsRow w.heap.size 5 1 (.slice B k capB) k (by8 ((s.bs.drop s.t).take k)) ∧ RefOk A cap wr r { s with t := s.t + k } ∧ But r w wr ∧ (∀ z ∈ (s.bs.drop s.t).take k, z ≠ x)

/-- How many bytes are still ahead. -/
def rleft (w : World) (r : Nat) (n : Nat) : Nat := n - (match w.cell? ⟨r, 1, none⟩ with | some v => (intOf v).toNat | none => 0)

theorem runtil_calls (h : RefOk A cap w r s) (x : Int) :
    Calls Try.prog 32 #[.pointer (some ⟨r, 0, none⟩), .int .u8 x] w (RHandsRowIs A cap w r (s.until_ x).1 (s.until_ x).2.1 (s.until_ x).2.2) := by
  have htk := h.taken
  have hfw := h.few
  have hrl := h.lt
  have hb0 : Below w.heap.size w (w.alloc (.cells #[] 5)) := (Below.refl _ _).alloc (Nat.le_refl _) _
  have h0 := h.keep hb0
  have o0 := own_empty w
  have d2 : w.cell? ⟨r, 2, none⟩ = some (.int .i64 s.c) := h.is_.cell 2
  by_cases hc : s.c = 0
  · have hc1 : (s.c != 0) = false := by simp [hc]
    have I0 : RUntilInv A cap w r s x (.slice (some ⟨w.heap.size, 0, none⟩) 0 0) (w.alloc (.cells #[] 5)) :=
      ⟨0, _, _, htk, rfl, o0, h0, .of_below hb0, by simp⟩
    have HC := Lib.hid hc
    clear hc h0 o0 hb0
    go_enter Try.func32, Try.ntmps32
    go_wp2_with fail
    go_loopw [6] (fun o wr => RUntilInv A cap w r s x o wr) (fun _ wr => rleft wr r s.bs.length)
    case atStart => exact I0
    case round =>
      obtain ⟨k, B, capB, hk, rfl, hown, hrf, hbt, hno⟩ := hrel
      clear I0
      have c0 : wr.cell? ⟨r, 0, none⟩ = some (.slice A s.bs.length cap) := hrf.is_.cell 0
      have c1 : wr.cell? ⟨r, 1, none⟩ = some (.int .i64 ((s.t + k : Nat) : Int)) := hrf.is_.cell 1
      by_cases hlt : s.t + k < s.bs.length
      · have hlt2 : ((s.t + k : Nat) : Int) < (s.bs.length : Int) := by omega
        have hge2 : (0 : Int) ≤ ((s.t + k : Nat) : Int) := by omega
        obtain ⟨b, off, rfl, hcell⟩ := hrf.lies.at_ (i := s.t + k) (by rw [by8_length]; exact hlt)
        generalize hy : s.bs.getD (s.t + k) 0 = y
        have hcell' : wr.cell? ⟨b, off + (s.t + k), none⟩ = some (.int .u8 y) := hrf.byte_at hlt hy
        have f1 := hrf.is_.frozen 1
        have HY := Lib.hid hy
        have HO := Lib.hid hown
        have HRF := Lib.hid hrf
        have HBT := Lib.hid hbt
        have HNO := Lib.hid hno
        have hmeas : rleft wr r s.bs.length = s.bs.length - (s.t + k) := by unfold rleft; rw [c1]; simp [intOf]; omega
        have HME := Lib.hid hmeas
        clear hy hcell hown hrf hbt hno hmeas
        generalize htk2 : s.t + k = tk at hlt2 hge2 hcell' c1 HY hlt HME
        have HTK := Lib.hid htk2
        clear htk2
        go_wp2_with fail
        go_quiet (fail)
        have hs1 : Same wr (wr.drewN nq) := .drewN _ _
        have c0a := (hs1.cell ⟨r, 0, none⟩).trans c0
        have c1a := (hs1.cell ⟨r, 1, none⟩).trans c1
        have xa := (hs1.cell ⟨b, off + tk, none⟩).trans hcell'
        have HS1 := Lib.hid hs1
        clear hs1
        generalize wr.drewN nq = w1 at c0a c1a xa HS1 ⊢
        clear c0 c1 hcell' f1
        go_wp2_with fail
        go_quiet (fail)
        have hs2 : Same w1 (w1.drewN nq) := .drewN _ _
        have c1b := (hs2.cell ⟨r, 1, none⟩).trans c1a
        have HS2 := Lib.hid (HS1.out.trans hs2)
        clear hs2 HS1
        generalize w1.drewN nq = w2 at c1b HS2 ⊢
        clear c0a c1a xa
        have HRF2 := Lib.hid (HRF.out.same HS2.out)
        have HO2 := Lib.hid (own_keep HO.out HS2.out.below)
        have HBT2 := Lib.hid (HBT.out.trans (.of_same HS2.out))
        have f1 := HRF2.out.is_.frozen 1
        have hset : RefOk (some ⟨b, off, none⟩) cap (w2.setCell ⟨r, 1, none⟩ (.int .i64 ((tk : Int) + 1))) r { s with t := s.t + k + 1 } := by
          have := HRF2.out.set_taken (s.t + k + 1) (show s.t + k + 1 ≤ s.bs.length by have := HTK.out; omega)
          have e : ((s.t + k + 1 : Nat) : Int) = ((tk : Nat) : Int) + 1 := by have := HTK.out; omega
          rw [e] at this
          exact this
        have HSET := Lib.hid hset
        have HOW := Lib.hid (ownsRow_setCell_below HO2.out (show (⟨r, 1, none⟩ : Addr).block < w.heap.size from hrl) (.int .i64 ((tk : Int) + 1)))
        have HBW := Lib.hid (HBT2.out.set 1 (.int .i64 ((tk : Int) + 1)))
        clear hset HRF HO HBT HS2 HRF2 HO2 HBT2
        by_cases hyx : y = x
        · have t1 : (y == x) = true := by simp [hyx]
          have HYX := Lib.hid hyx
          clear hyx
          go_wp2_with fail
          go_ret2
          have e1 : St.ahead x (s.bs.drop s.t) = k := by
            refine ahead_eq x _ k HNO.out ?_
            rw [List.getElem?_drop, HTK.out, List.getElem?_eq_getElem hlt, ← HYX.out, ← HY.out]
            simp [hlt]
          have e2 : s.until_ x = ((s.bs.drop s.t).take k, true, { s with t := s.t + k + 1 }) := by
            rw [St.until_, if_neg (by simp [HC.out]), e1, if_pos (by rw [List.length_drop]; have := HTK.out; omega)]
          have e3 : ((s.bs.drop s.t).take k).length = k := by rw [List.length_take, List.length_drop]; omega
          rw [e2]
          exact ⟨B, capB, by simp only []; rw [e3]; rfl, by simp only []; rw [e3]; exact HOW.out, HSET.out, HBW.out⟩
        · have t1 : (y == x) = false := by simp [hyx]
          have HYX := Lib.hid hyx
          clear hyx
          have hsz3 : (w2.setCell ⟨r, 1, none⟩ (.int .i64 ((tk : Int) + 1))).heap.size = w2.heap.size := by simp [World.setCell]
          have hbk : Below (w2.setCell ⟨r, 1, none⟩ (.int .i64 ((tk : Int) + 1))).heap.size (w2.setCell ⟨r, 1, none⟩ (.int .i64 ((tk : Int) + 1))) ((w2.setCell ⟨r, 1, none⟩ (.int .i64 ((tk : Int) + 1))).alloc (.cells #[.int .u8 y] 5)) := (Below.refl _ _).alloc (Nat.le_refl _) _
          have HL4 := Lib.hid (lies_one (w2.setCell ⟨r, 1, none⟩ (.int .i64 ((tk : Int) + 1))) y hsz3)
          have HO4 := Lib.hid (own_keep HOW.out hbk)
          have HRF4 := Lib.hid (HSET.out.keep hbk)
          have HBT4 := Lib.hid (HBW.out.trans (But.of_below (p := r) hbk))
          have hle4 : w.heap.size ≤ ((w2.setCell ⟨r, 1, none⟩ (.int .i64 ((tk : Int) + 1))).alloc (.cells #[.int .u8 y] 5)).heap.size := HBT4.out.size
          have HLE4 := Lib.hid hle4
          clear hbk hle4 hsz3 HOW HSET HBW
          have hkf : k + 1 ≤ 140737488355328 := by omega
          go_wp2_with (at_builtin; refine wpList_append_row _ rfl (.tmp 47) (.tmp 49) rfl w.heap.size (.slice B k capB) k (by8 ((s.bs.drop s.t).take k)) rfl HO4.out (some ⟨w2.heap.size, 0, none⟩) 1 1 (by8 [y]) rfl rfl HL4.out by8_one hkf HLE4.out ?_; intro v5 w5 hown5 hgr5 hob5; obtain ⟨C, capC, hv5, hc5, _⟩ := own_slice hown5; subst hv5; clear hc5)
          obtain ⟨hrf5, hbut5⟩ := ref_grown h HRF4.out rfl HBT4.out hgr5 (own_blocks HO4.out)
          rw [show by8 [y] = [.int .u8 y] from rfl, ← HY.out, ← HTK.out, take_step s.bs s.t k (by have := HTK.out; omega)] at hown5
          have hrd : rleft w5 r s.bs.length = s.bs.length - (s.t + k + 1) := by
            unfold rleft
            rw [show w5.cell? ⟨r, 1, none⟩ = some (.int .i64 ((s.t + k + 1 : Nat) : Int)) from hrf5.is_.cell 1]
            simp [intOf]
            omega
          refine ⟨⟨k + 1, C, capC, by have := HTK.out; omega, rfl, hown5, hrf5, hbut5, ?_⟩, ?_⟩
          · intro z hz
            rw [List.take_succ_eq_append_getElem (by rw [List.length_drop]; have := HTK.out; omega)] at hz
            rcases List.mem_append.1 hz with hz | hz
            · exact HNO.out z hz
            · simp only [List.mem_singleton] at hz
              subst hz
              have hyv := HY.out
              have hny := HYX.out
              rw [← hyv] at hny
              rw [List.getElem_drop]
              have e5 : s.bs.getD tk 0 = s.bs[s.t + k]'(by have := HTK.out; omega) := by
                simp [hlt, HTK.out]
              rw [← e5]
              exact hny
          · rw [hrd, HME.out]
            have := HTK.out
            omega
      · have hlt2 : ¬ ((s.t + k : Nat) : Int) < (s.bs.length : Int) := by omega
        have hkk : s.t + k = s.bs.length := by omega
        have HO := Lib.hid hown
        have HRF := Lib.hid hrf
        have HBT := Lib.hid hbt
        have HNO := Lib.hid hno
        have HKK := Lib.hid hkk
        clear hown hrf hbt hno hkk
        generalize htk2 : s.t + k = tk at hlt2 c1
        have HTK := Lib.hid htk2
        clear htk2 hlt
        have hlt3 : ¬ tk < s.bs.length := by omega
        go_wp2_with fail
        go_quiet (fail)
        have hs1 : Same wr (wr.drewN nq) := .drewN _ _
        have HS1 := Lib.hid hs1
        clear hs1
        generalize wr.drewN nq = w1 at HS1 ⊢
        clear c0 c1
        go_wp2_with fail
        go_ret2
        have ed : (s.bs.drop s.t).take k = s.bs.drop s.t := List.take_of_length_le (by rw [List.length_drop]; have := HKK.out; omega)
        have e1 : St.ahead x (s.bs.drop s.t) = (s.bs.drop s.t).length := ahead_all x _ (by have := HNO.out; rw [ed] at this; exact this)
        have e2 : s.until_ x = (s.bs.drop s.t, false, { s with t := s.bs.length }) := by
          rw [St.until_, if_neg (by simp [HC.out]), e1, if_neg (by omega)]
        have e3 : (s.bs.drop s.t).length = k := by rw [List.length_drop]; have := HKK.out; omega
        have ho := HO.out
        rw [ed] at ho
        have hr := HRF.out
        rw [HKK.out] at hr
        rw [e2]
        exact ⟨B, capB, by simp only []; rw [e3]; rfl, by simp only []; rw [e3]; exact own_keep ho HS1.out.below, hr.same HS1.out, HBT.out.trans (.of_same HS1.out)⟩
  · have hc1 : (s.c != 0) = true := by simp [hc]
    have hf : s.until_ x = ([], false, s) := by simp [St.until_, hc]
    rw [hf]
    clear hf hc
    go_enter Try.func32, Try.ntmps32
    go_wp2
    go_ret2
    exact ⟨_, _, rfl, o0, h0, .of_below hb0⟩
end
end Go.Proofs.Ytiipkmfkelbpiaa
