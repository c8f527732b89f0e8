/-
  Contracts of the document's answer for layer 1: Take, Byte. No statement of the seat is proved here.
-/
import Derived.Test.YtiipkmfkelbpiaaRef1
import Derived.Deep.RegionHeld3
namespace Go.Proofs.Ytiipkmfkelbpiaa
open Go.RowKit

section
variable {A : Option Addr} {cap : Nat} {w w' : World} {r : Nat} {s : St}

/-- What holds at each round's head of Take. -/
def RTakeInv (A : Option Addr) (cap : Nat) (w : World) (r : Nat) (s : St) (k : Nat) (out : Value) (wr : World) : Prop :=
  ∃ B capB, out = .slice B k capB ∧ wr.ownsRow w.heap.size 5 1 (.slice B k capB) k (by8 ((s.bs.drop s.t).take k)) ∧ RefOk A cap wr r { s with t := s.t + k } ∧ But r w wr

theorem take_step (bs : List Int) (t k : Nat) (h : t + k < bs.length) : by8 ((bs.drop t).take k) ++ [.int .u8 (bs.getD (t + k) 0)] = by8 ((bs.drop t).take (k + 1)) := by
  have hk : k < (bs.drop t).length := by rw [List.length_drop]; omega
  rw [List.take_succ_eq_append_getElem hk, by8_append]
  simp [by8, h]

theorem own_blocks {base n : Nat} {e : TypeId} {v : Value} {xs : List Value} (h : w.ownsRow base e 1 v n xs) : ∀ g, v.ownBlock = some g → base ≤ g := by
  intro g hg
  rcases h.2 with ⟨hq, _⟩ | ⟨g', c, cur, hq, hg', _⟩
  · rw [hq] at hg; cases hg
  · rw [hq] at hg; injection hg with hg; simp only [] at hg; omega

theorem RefOk.byte_at {b off t : Nat} {x : Int} (h : RefOk (some ⟨b, off, none⟩) cap w r s) (ht : t < s.bs.length) (hx : s.bs.getD t 0 = x) : w.cell? ⟨b, off + t, none⟩ = some (.int .u8 x) := by
  obtain ⟨b', off', e, hc⟩ := h.lies.at_ (i := t) (by rw [by8_length]; exact ht)
  injection e with e
  injection e with e1 e2
  subst e1 e2
  rw [hc, ← hx]
  simp [by8, ht]

/-- Behind an append onto a row of the call's own the document's Cur is as it was. -/
theorem ref_grown {w2 w3 : World} {s1 : St} {row : Option Nat} (h : RefOk A cap w r s) (h2 : RefOk A cap w2 r s1) (hbs : s1.bs = s.bs) (hb : But r w w2) (hg : w2.grownBy w3 row) (hrow : ∀ g, row = some g → w.heap.size ≤ g) :
    RefOk A cap w3 r s1 ∧ But r w w3 := by
  have hbut : But r w w3 := by
    refine ⟨hg.os.trans hb.os, hg.tape.trans hb.tape, hg.output.trans hb.output, Nat.le_trans hb.size hg.size, fun j hj hjr => ?_⟩
    rw [hg.block j (Nat.lt_of_lt_of_le hj hb.size) (fun e => by have := hrow j e.symm; omega)]
    exact hb.block j hj hjr
  refine ⟨⟨(hg.block r h2.is_.lt (fun e => by have := hrow r e.symm; have := h.lt; omega)).trans h2.is_, ?_, h2.3, h2.4⟩, hbut⟩
  rw [hbs]
  exact h.lies.but hbut h.is_ by8_notr

theorem rtake_calls (h : RefOk A cap w r s) (n : Int) :
    Calls Try.prog 31 #[.pointer (some ⟨r, 0, none⟩), .int .i64 n] w (RHandsRow A cap w r (s.take n).1 (s.take n).2) := by
  have htk := h.taken
  have hfw := h.few
  have hrl := h.lt
  have hb0 : Below w.heap.size w (w.alloc (.cells #[] 5)) := (Below.refl _ _).alloc (Nat.le_refl _) _
  have h0 := h.keep hb0
  have o0 := own_empty w
  have c0 : (w.alloc (.cells #[] 5)).cell? ⟨r, 0, none⟩ = some (.slice A s.bs.length cap) := h0.is_.cell 0
  have c1 : (w.alloc (.cells #[] 5)).cell? ⟨r, 1, none⟩ = some (.int .i64 s.t) := h0.is_.cell 1
  have c2 : (w.alloc (.cells #[] 5)).cell? ⟨r, 2, none⟩ = some (.int .i64 s.c) := h0.is_.cell 2
  have d2 : w.cell? ⟨r, 2, none⟩ = some (.int .i64 s.c) := h.is_.cell 2
  have d1 : w.cell? ⟨r, 1, none⟩ = some (.int .i64 s.t) := h.is_.cell 1
  have d0 : w.cell? ⟨r, 0, none⟩ = some (.slice A s.bs.length cap) := h.is_.cell 0
  by_cases hc : s.c = 0
  · have hc1 : (s.c != 0) = false := by simp [hc]
    by_cases hneg : n < 0
    · have hf : s.take n = ([], s.fail 1 s.t) := by simp [St.take, hc, hneg]
      rw [hf]
      clear hf hc
      go_enter Try.func31, Try.ntmps31
      go_wp2_with fail
      refine (rfail_calls h0 1 s.t).mono ?_
      rintro e w2 ⟨rfl, h2, hb2⟩
      go_wp2
      go_ret
      exact ⟨_, _, rfl, own_but_lt o0 hb2 hrl, h2, (But.of_below hb0).trans hb2⟩
    · have hwr : IntKind.i64.wrap ((s.bs.length : Int) - (s.t : Int)) = (s.bs.length : Int) - (s.t : Int) := IntWalk.i64_in _ (by omega)
      by_cases hmany : (s.bs.length : Int) - s.t < n
      · have hf : s.take n = ([], s.fail 13 s.bs.length) := by simp [St.take, hc, hneg, hmany]
        rw [hf]
        clear hf hc
        go_enter Try.func31, Try.ntmps31
        go_wp2_with fail
        go_quiet (fail)
        have hs1 : Same (w.alloc (.cells #[] 5)) ((w.alloc (.cells #[] 5)).drewN nq) := .drewN _ _
        have h1 := h0.same hs1
        have o1 := own_keep o0 hs1.below
        have e0 := (hs1.cell ⟨r, 0, none⟩).trans c0
        have HB1 := Lib.hid ((But.of_below (p := r) hb0).trans (.of_same hs1))
        clear hs1 hwr d0 d1 d2 c0 c1 c2
        generalize (w.alloc (.cells #[] 5)).drewN nq = w1 at h1 o1 e0 HB1 ⊢
        go_wp2_with fail
        refine (rfail_calls h1 13 s.bs.length).mono ?_
        rintro e w2 ⟨rfl, h2, hb2⟩
        go_wp2
        go_ret
        exact ⟨_, _, rfl, own_but_lt o1 hb2 hrl, h2, HB1.out.trans hb2⟩
      · have hf : s.take n = s.next n.toNat := by simp [St.take, hc, hneg, hmany]
        rw [hf]
        obtain ⟨m, rfl⟩ := Int.eq_ofNat_of_zero_le (show 0 ≤ n by omega)
        rw [Int.toNat_natCast]
        have hmb : s.t + m ≤ s.bs.length := by omega
        clear hf hc
        go_enter Try.func31, Try.ntmps31
        go_wp2_with fail
        go_quiet (fail)
        have hs1 : Same (w.alloc (.cells #[] 5)) ((w.alloc (.cells #[] 5)).drewN nq) := .drewN _ _
        have I0 : RTakeInv A cap w r s 0 (.slice (some ⟨w.heap.size, 0, none⟩) 0 0) ((w.alloc (.cells #[] 5)).drewN nq) :=
          ⟨_, _, rfl, own_keep o0 hs1.below, h0.same hs1, (But.of_below hb0).trans (.of_same hs1)⟩
        clear hs1 hwr d0 d1 d2 c0 c1 c2 h0 o0 hb0
        generalize (w.alloc (.cells #[] 5)).drewN nq = w1 at I0 ⊢
        go_wp2_with fail
        go_loopw [5, 6] (fun o i wr => ∃ k : Nat, k ≤ m ∧ i = .int .i64 k ∧ RTakeInv A cap w r s k o wr) (fun _ i _ => m - (intOf i).toNat)
        case atStart => exact ⟨0, Nat.zero_le _, rfl, I0⟩
        case round =>
          obtain ⟨k, hk, rfl, B, capB, rfl, hown, hrf, hbt⟩ := hrel
          clear I0
          by_cases hlt : k < m
          · have hlt' : (k : Int) < (m : Int) := by omega
            have hlt2 : ((s.t + k : Nat) : Int) < (s.bs.length : Int) := by omega
            have hge2 : (0 : Int) ≤ ((s.t + k : Nat) : Int) := by omega
            obtain ⟨b, off, rfl, hcell⟩ := hrf.lies.at_ (i := s.t + k) (by rw [by8_length]; simp only []; omega)
            generalize hx : s.bs.getD (s.t + k) 0 = x
            have hcell' : wr.cell? ⟨b, off + (s.t + k), none⟩ = some (.int .u8 x) := by rw [hcell, ← hx]; simp [by8, show s.t + k < s.bs.length by omega]
            have c0 : wr.cell? ⟨r, 0, none⟩ = some (.slice (some ⟨b, off, none⟩) s.bs.length cap) := hrf.is_.cell 0
            have c1 : wr.cell? ⟨r, 1, none⟩ = some (.int .i64 ((s.t + k : Nat) : Int)) := hrf.is_.cell 1
            have HX := Lib.hid hx
            have HO := Lib.hid hown
            have HRF := Lib.hid hrf
            have HBT := Lib.hid hbt
            have hszr : w.heap.size ≤ wr.heap.size := hbt.size
            clear hx hcell hown hrf hbt
            generalize htk2 : s.t + k = tk at hlt2 hge2 hcell' c1 HX
            have HTK := Lib.hid htk2
            clear htk2
            go_wp2_with fail
            have hbk : Below wr.heap.size wr (wr.alloc (.cells #[.int .u8 x] 5)).drew := ((Below.refl _ _).alloc (Nat.le_refl _) _).drew
            have hl2 : Lies (wr.alloc (.cells #[.int .u8 x] 5)).drew (some ⟨wr.heap.size, 0, none⟩) (by8 [x]) := by
              intro i u hu
              refine ⟨wr.heap.size, 0, rfl, ?_⟩
              have := (Box.new wr 5 [.int .u8 x]).cell i
              rw [Nat.zero_add]
              exact this.trans hu
            have HO2 := Lib.hid (own_keep HO.out hbk)
            have HL2 := Lib.hid hl2
            have HRF2 := Lib.hid (HRF.out.keep hbk)
            have HBT2 := Lib.hid (HBT.out.trans (But.of_below (p := r) hbk))
            have HBK := Lib.hid hbk
            clear hl2 hbk
            have q0 : r < wr.heap.size := HRF.out.lt
            have q1 : b < wr.heap.size := cell_lt hcell'
            go_region_held3 (fun w' => w'.cell? ⟨r, 0, none⟩ = some (.slice (some ⟨b, off, none⟩) s.bs.length cap) ∧ w'.cell? ⟨r, 1, none⟩ = some (.int .i64 (tk : Int)) ∧ w'.cell? ⟨b, off + tk, none⟩ = some (.int .u8 x))
              (first | exact ⟨d0, d1, hx3⟩ | go_keep | (refine ⟨?_, ?_, ?_⟩ <;> assumption))
              ((refine step_append_row _ (by rfl) _ _ (by rfl) w.heap.size (.slice B k capB) k (by8 ((s.bs.drop s.t).take k)) (by rfl) HO2.out (some ⟨wr.heap.size, 0, none⟩) 1 1 (by8 [x]) (by rfl) (by rfl) HL2.out by8_one (by omega) (by have := HBK.out.size; omega) ?_; intro v3 w3 hown3 hgr3 hob3; obtain ⟨C, capC, hv3, hc3, _⟩ := own_slice hown3; subst hv3; clear hc3; obtain ⟨hrf3, hbut⟩ := ref_grown h HRF2.out rfl HBT2.out hgr3 (own_blocks HO2.out); have d1 : w3.cell? ⟨r, 1, none⟩ = some (.int .i64 ((tk : Nat) : Int)) := (by rw [← HTK.out]; exact hrf3.is_.cell 1); have d0 : w3.cell? ⟨r, 0, none⟩ = some (.slice (some ⟨b, off, none⟩) s.bs.length cap) := hrf3.is_.cell 0; have hx3 : w3.cell? ⟨b, off + tk, none⟩ = some (.int .u8 x) := hrf3.byte_at (show tk < s.bs.length by have := HTK.out; omega) HX.out))
            have f1 := hrf3.is_.frozen 1
            rw [show by8 [x] = [.int .u8 x] from rfl, ← HX.out, ← HTK.out, take_step s.bs s.t k (by omega)] at hown3
            have HO3 := Lib.hid hown3
            have HRF3 := Lib.hid hrf3
            have HBUT := Lib.hid hbut
            clear hown3 hrf3 hbut hgr3 hob3 hx3 d0 c0 c1 hcell'
            go_wp2_with fail
            refine ⟨⟨k + 1, by omega, by go_num, C, capC, rfl, ownsRow_setCell_below HO3.out (by exact hrl) _, ?_, HBUT.out.set 1 _⟩, by simp [intOf]; omega⟩
            have := HRF3.out.set_taken (s.t + k + 1) (by simp only []; omega)
            have e : ((s.t + k + 1 : Nat) : Int) = ((tk : Nat) : Int) + 1 := by have := HTK.out; omega
            rw [e] at this
            exact this
          · obtain rfl : k = m := by omega
            have hlt' : ¬ (k : Int) < (k : Int) := by omega
            have HO := Lib.hid hown
            have HRF := Lib.hid hrf
            have HBT := Lib.hid hbt
            clear hown hrf hbt
            go_wp2
            go_ret
            have e1 : (s.next k).1.length = k := by simp only [St.next, List.length_take, List.length_drop]; omega
            exact ⟨B, capB, by rw [e1]; rfl, by rw [e1]; exact HO.out, HRF.out, HBT.out⟩
  · have hc1 : (s.c != 0) = true := by simp [hc]
    have hf : s.take n = ([], s) := by simp [St.take, hc]
    rw [hf]
    clear hf hc
    go_enter Try.func31, Try.ntmps31
    go_wp2
    go_ret
    exact ⟨_, _, rfl, o0, h0, .of_below hb0⟩
end
end Go.Proofs.Ytiipkmfkelbpiaa
