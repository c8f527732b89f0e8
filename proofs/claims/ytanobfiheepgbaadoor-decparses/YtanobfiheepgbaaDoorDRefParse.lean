/-
  Contract of the document's Parse. No statement of the seat is proved here.
-/
import Derived.Test.YtanobfiheepgbaaDoorDRefMake
import Derived.Test.YtanobfiheepgbaaDoorDParse
namespace Go.Proofs.YtanobfiheepgbaaDoor
open Go.RowKit

theorem digit_calls (z : Int) (b : Bool) (hb : b = decide (48 ≤ z ∧ z ≤ 57)) (w : World) : Calls Tryd.prog 28 #[.int .u8 z] w fun e w' => e = .returned (.bool b) ∧ w = w' := by
  by_cases h1 : 48 ≤ z
  · by_cases h2 : z ≤ 57
    · have : b = true := by rw [hb]; simp [h1, h2]
      subst this
      clear hb
      go_enter Tryd.func28, Tryd.ntmps28
      go_wp2_with fail
      go_ret
      exact ⟨rfl, rfl⟩
    · have : b = false := by rw [hb]; simp [h2]
      subst this
      clear hb
      go_enter Tryd.func28, Tryd.ntmps28
      go_wp2_with fail
      go_ret
      exact ⟨rfl, rfl⟩
  · have : b = false := by rw [hb]; simp [h1]
    subst this
    clear hb
    go_enter Tryd.func28, Tryd.ntmps28
    go_wp2_with fail
    go_ret
    exact ⟨rfl, rfl⟩

/-- How the rest of the text is gone through, at each round's head. -/
structure RInv (l : List UInt8) (neg : Bool) (i : Nat) (dl : List UInt8) (pt : Int) (must : Bool) : Prop where
  at_ : i ≤ l.length
  digs : Digs dl
  few : dl.length ≤ i
  pt0 : pt = -1 ∨ (0 ≤ pt ∧ pt ≤ dl.length)
  head : i = 0 → ∀ r, l ≠ 45 :: r
  rest : scan 0 false false true 0 0 l = scan i neg (decide (0 ≤ pt)) must (val dl) (if 0 ≤ pt then dl.length - pt.toNat else 0) (l.drop i)

theorem RInv.step {l : List UInt8} {neg : Bool} {i : Nat} {dl : List UInt8} {pt : Int} {must : Bool} (h : RInv l neg i dl pt must) (hi : i < l.length) :
    scan 0 false false true 0 0 l = scan i neg (decide (0 ≤ pt)) must (val dl) (if 0 ≤ pt then dl.length - pt.toNat else 0) (l[i] :: l.drop (i + 1)) := by
  rw [h.rest, List.drop_eq_getElem_cons hi]
theorem RInv.digit {l : List UInt8} {neg : Bool} {i : Nat} {dl : List UInt8} {pt : Int} {must : Bool} (h : RInv l neg i dl pt must) (hi : i < l.length) (hd : 48 ≤ l[i].toNat ∧ l[i].toNat ≤ 57) : RInv l neg (i + 1) (dl ++ [l[i]]) pt false := by
  refine ⟨hi, h.digs.append fun x hx => by rw [List.mem_singleton.1 hx]; exact hd, by have := h.few; simp; omega, ?_, fun h0 => by omega, ?_⟩
  · rcases h.pt0 with h | h
    · exact Or.inl h
    · exact Or.inr ⟨h.1, by simp; omega⟩
  · rw [h.step hi, scan, if_pos hd, val_snoc]
    congr 1
    by_cases hp : 0 ≤ pt
    · rcases h.pt0 with h | h
      · omega
      · simp [hp]; omega
    · simp [hp]
theorem RInv.dot {l : List UInt8} {neg : Bool} {i : Nat} {dl : List UInt8} (h : RInv l neg i dl (-1) false) (hi : i < l.length) (hd : l[i].toNat = 46) : RInv l neg (i + 1) dl dl.length true := by
  refine ⟨hi, h.digs, by have := h.few; omega, Or.inr ⟨by omega, by omega⟩, fun h0 => by omega, ?_⟩
  rw [h.step hi, scan, if_neg (by omega), if_pos ⟨hd, rfl, by decide⟩]
  congr 1
  simp
theorem RInv.bad {l : List UInt8} {neg : Bool} {i : Nat} {dl : List UInt8} {pt : Int} {must : Bool} (h : RInv l neg i dl pt must) (hi : i < l.length) (h1 : ¬ (48 ≤ l[i].toNat ∧ l[i].toNat ≤ 57)) (h2 : ¬ (l[i].toNat = 46 ∧ must = false ∧ pt = -1)) : parse l = (D0, 14, (i : Int)) := by
  unfold parse
  rw [h.step hi, scan, if_neg h1, if_neg, if_neg]
  · rfl
  · rintro ⟨k1, rfl⟩
    refine h.head rfl (l.drop 1) ?_
    have h0 : l[0] = 45 := UInt8.toNat_inj.1 (by show l[0].toNat = 45; exact k1)
    rw [← h0]
    exact (List.drop_eq_getElem_cons hi)
  · rintro ⟨k1, k2, k3⟩
    refine h2 ⟨k1, k2, ?_⟩
    rcases h.pt0 with h | h
    · exact h
    · simp at k3; omega
theorem RInv.done {l : List UInt8} {neg : Bool} {dl : List UInt8} {pt : Int} {must : Bool} (h : RInv l neg l.length dl pt must) : parse l = if must then (D0, 11, (l.length : Int)) else ((made neg (val dl) (if 0 ≤ pt then pt - dl.length else 0)).1, if (made neg (val dl) (if 0 ≤ pt then pt - dl.length else 0)).2 then 0 else 10, 0) := by
  unfold parse
  rw [h.rest, List.drop_length]
  cases must
  · simp only [Bool.false_eq_true, ite_false]
    show told (.ok neg (val dl) _) = _
    rw [told_ok]
    have e : (-(((if 0 ≤ pt then dl.length - pt.toNat else 0 : Nat)) : Int)) = (if 0 ≤ pt then pt - dl.length else 0) := by
      rcases h.pt0 with h | h
      · simp [h]
      · rw [if_pos h.1, if_pos h.1]; omega
    rw [e]
    unfold made
    cases norm (val dl) (if 0 ≤ pt then pt - dl.length else 0) <;> rfl
  · rfl
theorem RInv.start_neg {r : List UInt8} : RInv (45 :: r) true 1 [] (-1) true := by
  refine ⟨by simp, digs_nil, by simp, Or.inl rfl, fun h => by omega, ?_⟩
  rw [scan, if_neg (by decide), if_neg (by decide), if_pos ⟨by decide, rfl⟩]
  simp [val, valF_nil]
theorem RInv.start {l : List UInt8} (h : ∀ r, l ≠ 45 :: r) : RInv l false 0 [] (-1) true :=
  ⟨by omega, digs_nil, by simp, Or.inl rfl, fun _ => h, by simp [val, valF_nil]⟩

set_option maxRecDepth 100000 in
set_option maxHeartbeats 8000000 in
theorem rparse_from (s : ByteArray) (l : List UInt8) (hs : Str s l) (hl : l.length ≤ 200) (neg : Bool) (i0 : Nat) (hi : RInv l neg i0 [] (-1) true) (hcase : (neg = true ∧ i0 = 1 ∧ ∃ r, l = 45 :: r) ∨ (neg = false ∧ i0 = 0 ∧ (l = [] ∨ ∃ b r, l = b :: r ∧ b.toNat ≠ 45))) (w : World) :
    Calls Tryd.prog 16 #[.string s] w (Parses w l) := by
  have hz := hs.size
  have HS := Lib.hid hs
  have HL := Lib.hid hl
  have HZ := Lib.hid hz
  have HI := Lib.hid hi
  have hsz : (s.size : Int) ≤ 200 := by omega
  have n0 := (Box.new w 24 [.bool false, .int .u64 0, .int .i64 0]).alloc (.cells #[.int .i64 0, .int .i64 0] 32)
  have n1 := Box.new (w.alloc (.cells #[.bool false, .int .u64 0, .int .i64 0] 24)) 32 [.int .i64 0, .int .i64 0]
  rw [size_alloc] at n1
  have nb : Below w.heap.size w ((w.alloc (.cells #[.bool false, .int .u64 0, .int .i64 0] 24)).alloc (.cells #[.int .i64 0, .int .i64 0] 32)) := ((Below.refl _ _).alloc (Nat.le_refl _) _).alloc (by simp) _
  have HB := Lib.hid (And.intro n0 (And.intro n1 nb))
  have hfirst : (neg = true ∧ i0 = 1 ∧ (0 : Int) < (s.size : Int) ∧ (∀ W, (Instr.index 9 (.string s) (.int .i64 0)).run Tryd.prog W = .ok (.int .u8 45) W)) ∨ (neg = false ∧ i0 = 0 ∧ ¬ (0 : Int) < (s.size : Int)) ∨ (neg = false ∧ i0 = 0 ∧ (0 : Int) < (s.size : Int) ∧ ∃ z : Int, (z == 45) = false ∧ (∀ W, (Instr.index 9 (.string s) (.int .i64 0)).run Tryd.prog W = .ok (.int .u8 z) W)) := by
    rcases hcase with ⟨rfl, rfl, r, hr⟩ | ⟨rfl, rfl, hr | ⟨b, r, hr, hb⟩⟩
    · refine Or.inl ⟨rfl, rfl, by rw [hz, hr]; simp; try omega, ?_⟩
      have := hs.index (i := 0) 0 rfl (by rw [hr]; simp)
      simp only [hr, List.getElem_cons_zero] at this
      exact this
    · exact Or.inr (Or.inl ⟨rfl, rfl, by rw [hz, hr]; simp⟩)
    · refine Or.inr (Or.inr ⟨rfl, rfl, by rw [hz, hr]; simp; try omega, (b.toNat : Int), by simp; omega, ?_⟩)
      have := hs.index (i := 0) 0 rfl (by rw [hr]; simp)
      simp only [hr, List.getElem_cons_zero] at this
      exact this
  clear hs hl hz hi hcase n0 n1 nb
  go_enter Tryd.func16, Tryd.ntmps16
  rcases hfirst with ⟨rfl, rfl, h1, h2⟩ | ⟨rfl, rfl, h1⟩ | ⟨rfl, rfl, h1, z, hz45, h2⟩
  · skip
    go_wp2_with fail
    obtain ⟨W, hW⟩ : ∃ W, W = (w.alloc (.cells #[.bool false, .int .u64 0, .int .i64 0] 24)).alloc (.cells #[.int .i64 0, .int .i64 0] 32) := ⟨_, rfl⟩
    rw [← hW] at HB ⊢
    clear hW h1 h2
    go_loopw [5, 6, 7, 8] (fun v5 v6 v7 v8 wr => ∃ (i : Nat) (t : ByteArray) (dl : List UInt8) (pt : Int) (must : Bool), v5 = .int .i64 i ∧ v6 = .string t ∧ v7 = .int .i64 pt ∧ v8 = .bool must ∧ W = wr ∧ Hid (Str t dl ∧ RInv l true i dl pt must)) (fun v5 _ _ _ _ => l.length - (intOf v5).toNat)
    case atStart => exact ⟨1, ⟨#[]⟩, [], -1, true, rfl, rfl, rfl, rfl, rfl, rfl, HI.out⟩
    case round =>
      obtain ⟨i, t, dl, pt, must, rfl, rfl, rfl, rfl, rfl, hh⟩ := hrel
      clear HI
      have HR := Lib.hid hh.out.2
      have HTS := Lib.hid hh.out.1
      have hil : (i : Int) ≤ 200 := by have := HR.out.at_; have := HL.out; omega
      have htz : (t.size : Int) ≤ 200 := by rw [HTS.out.size]; have := HR.out.few; omega
      have hpt : -1 ≤ pt ∧ pt ≤ 200 := by have := HR.out.few; rcases HR.out.pt0 with h | h <;> omega
      have d0 := HB.out.1.cell 0
      have d1 := HB.out.1.cell 1
      have d2 := HB.out.1.cell 2
      have a0 := HB.out.2.1.cell 0
      have a1 := HB.out.2.1.cell 1
      simp only [List.getElem?_cons_zero, List.getElem?_cons_succ] at d0 d1 d2 a0 a1
      have e0 := HB.out.1.frozen 0
      have e1 := HB.out.1.frozen 1
      have e2 := HB.out.1.frozen 2
      have b0 := HB.out.2.1.frozen 0
      have b1 := HB.out.2.1.frozen 1
      have HFIN := Lib.hid (stored_is HB.out.1 HB.out.2.1 HB.out.2.2)
      clear hh
      by_cases hlt : i < l.length
      · have hlt' : (i : Int) < (s.size : Int) := by have := HZ.out; omega
        have hidx := HS.out.index (i := (i : Int)) i rfl hlt
        obtain ⟨z, hzb⟩ : ∃ z : Int, z = (l[i].toNat : Int) := ⟨_, rfl⟩
        rw [← hzb] at hidx
        have HZB := Lib.hid hzb
        have HLT := Lib.hid hlt
        clear hzb
        by_cases hd : 48 ≤ z ∧ z ≤ 57
        · obtain ⟨u, hu, hsl⟩ := HS.out.part (ki := .i64) (kj := .i64) (i := (i : Int)) (j := (i : Int) + 1) i (i + 1) rfl (by omega) (by omega) HLT.out
          have hu1 : (l.drop i).take (i + 1 - i) = [l[i]'HLT.out] := by rw [List.drop_eq_getElem_cons HLT.out, show i + 1 - i = 1 by omega]; rfl
          rw [hu1] at hu
          have huz : (u.size : Int) ≤ 1 := by rw [hu.size]; simp
          have HU := Lib.hid (HTS.out.append hu)
          have HDC := Lib.hid (digit_calls z true (by simp [hd]) W)
          have HN := Lib.hid (HR.out.digit HLT.out (by have := HZB.out; omega))
          clear hu hu1
          go_wp2_with fail
          refine HDC.out.mono ?_
          rintro e w2 ⟨rfl, rfl⟩
          go_wp2_with fail
          exact ⟨⟨i + 1, _, _, pt, false, by go_num, rfl, rfl, rfl, by trivial, HU.out, HN.out⟩, by have := HLT.out; simp [intOf]; omega⟩
        · have HDC := Lib.hid (digit_calls z false (by simp [hd]) W)
          by_cases hdot : z = 46 ∧ pt < 0 ∧ must = false
          · obtain ⟨rfl, hp0, rfl⟩ := hdot
            obtain rfl : pt = -1 := by omega
            have HN := Lib.hid (HR.out.dot HLT.out (by have := HZB.out; omega))
            have HTZ := Lib.hid HTS.out.size
            go_wp2_with fail
            refine HDC.out.mono ?_
            rintro e w2 ⟨rfl, rfl⟩
            go_wp2_with fail
            exact ⟨⟨i + 1, t, dl, (t.size : Int), true, by go_num, rfl, rfl, rfl, by trivial, HTS.out, by rw [HTZ.out]; exact HN.out⟩, by have := HLT.out; simp [intOf]; omega⟩
          · have HPL := Lib.hid (HR.out.bad HLT.out (by have := HZB.out; omega) (by rintro ⟨k1, k2, k3⟩; exact hdot ⟨by have := HZB.out; omega, by omega, k2⟩))
            have hform : (z == 46) = false ∨ (z = 46 ∧ ¬ pt < 0) ∨ (z = 46 ∧ pt < 0 ∧ must = true) := by
              by_cases h46 : z = 46
              · by_cases hp : pt < 0
                · cases must
                  · exact absurd ⟨h46, hp, rfl⟩ hdot
                  · exact Or.inr (Or.inr ⟨h46, hp, rfl⟩)
                · exact Or.inr (Or.inl ⟨h46, hp⟩)
              · exact Or.inl (by simp [h46])
            clear hdot
            rcases hform with f1 | ⟨rfl, f2⟩ | ⟨rfl, f2, rfl⟩
            all_goals
              go_wp2_with fail
              refine HDC.out.mono ?_
              rintro e w2 ⟨rfl, rfl⟩
              go_wp2_with fail
              exact ret_decs rfl rfl rfl rfl (HFIN.out _ _ _ _ _).1 (HFIN.out _ _ _ _ _).2.1 ⟨by rw [HPL.out]; rfl, (HFIN.out _ _ _ _ _).2.2⟩
      · have hlt' : ¬ (i : Int) < (s.size : Int) := by have := HZ.out; omega
        obtain rfl : i = l.length := by have := HR.out.at_; omega
        have hdone := HR.out.done
        have HEQ := Lib.hid (show (s.size : Int) = (l.length : Int) by have := HZ.out; omega)
        cases must
        · simp only [Bool.false_eq_true, ite_false] at hdone
          have HMK := Lib.hid (fun x hx0 hx1 => make_calls true t dl HTS.out HR.out.digs (by have := HR.out.few; have := HL.out; omega) x hx0 hx1 W)
          have HTZ := Lib.hid HTS.out.size
          have hform : (pt < 0 ∧ ∃ q : Int, q = 0 ∧ Hid (q = (if 0 ≤ pt then pt - dl.length else 0))) ∨ (¬ pt < 0 ∧ ∃ q : Int, q = pt - (t.size : Int) ∧ Hid (q = (if 0 ≤ pt then pt - dl.length else 0))) := by
            by_cases hp : pt < 0
            · exact Or.inl ⟨hp, 0, rfl, by show (0 : Int) = _; rw [if_neg (by omega)]⟩
            · exact Or.inr ⟨hp, _, rfl, by show pt - (t.size : Int) = _; rw [if_pos (by omega), HTZ.out]⟩
          have hq2 : ∀ q : Int, q = (if 0 ≤ pt then pt - dl.length else 0) → -200 ≤ q ∧ q ≤ 200 := fun q hq => by
            rw [hq]
            have := HR.out.few
            split
            · rcases HR.out.pt0 with h | h <;> omega
            · omega
          have HQ2 := Lib.hid hq2
          have HDN := Lib.hid hdone
          clear hq2 hdone
          rcases hform with ⟨hp, q, hq, hqq⟩ | ⟨hp, q, hq, hqq⟩
          all_goals
            have hqb := HQ2.out q hqq.out
            have hmk := HMK.out q (by omega) (by omega)
            have hdn := HDN.out
            rw [← hqq.out] at hdn
            obtain ⟨⟨R, ok⟩, hR⟩ : ∃ p, p = made true (val dl) q := ⟨_, rfl⟩
            rw [← hR] at hmk hdn
            unfold dV at hmk
            rw [hq] at hmk
            have HM := Lib.hid hmk
            have HDD := Lib.hid hdn
            have HOK := Lib.hid (show ok = false → R = D0 from fun h => by
              rw [h] at hR
              unfold made at hR
              cases hn : norm (val dl) q with
              | none => rw [hn] at hR; injection hR
              | some p => rw [hn] at hR; injection hR with _ h2; cases h2)
            clear hmk hdn hR hqq HDN HMK
            go_wp2_with fail
            refine HM.out.mono ?_
            rintro e w3 ⟨rfl, hb⟩
            have k1 := (HB.out.1.keep hb).alloc (.cells #[.bool R.neg, .int .u64 R.c, .int .i64 R.e] 24)
            have k2 := (HB.out.2.1.keep hb).alloc (.cells #[.bool R.neg, .int .u64 R.c, .int .i64 R.e] 24)
            have k3 := below_then HB.out.2.2 hb
            have k3' := k3.alloc k3.size (.cells #[.bool R.neg, .int .u64 R.c, .int .i64 R.e] 24)
            have d0 := k1.cell 0
            have d1 := k1.cell 1
            have d2 := k1.cell 2
            have a0 := k2.cell 0
            have a1 := k2.cell 1
            simp only [List.getElem?_cons_zero, List.getElem?_cons_succ] at d0 d1 d2 a0 a1
            have e0 := k1.frozen 0
            have e1 := k1.frozen 1
            have e2 := k1.frozen 2
            have b0 := k2.frozen 0
            have b1 := k2.frozen 1
            have HF2 := Lib.hid (stored_is k1 k2 k3')
            clear k1 k2 k3 k3' hb HFIN HM
            cases ok
            · have HR0 := Lib.hid (HOK.out rfl)
              go_wp2_with fail
              exact ret_decs rfl rfl rfl rfl (HF2.out _ _ _ _ _).1 (HF2.out _ _ _ _ _).2.1 ⟨by rw [HDD.out, HR0.out]; rfl, (HF2.out _ _ _ _ _).2.2⟩
            · go_wp2_with fail
              exact ret_decs rfl rfl rfl rfl (HF2.out _ _ _ _ _).1 (HF2.out _ _ _ _ _).2.1 ⟨by rw [HDD.out]; rfl, (HF2.out _ _ _ _ _).2.2⟩
        · have HPL := Lib.hid (show parse l = (D0, 11, (s.size : Int)) by rw [hdone, HEQ.out]; rfl)
          clear hdone
          go_wp2_with fail
          exact ret_decs rfl rfl rfl rfl (HFIN.out _ _ _ _ _).1 (HFIN.out _ _ _ _ _).2.1 ⟨by rw [HPL.out]; rfl, (HFIN.out _ _ _ _ _).2.2⟩
  · skip
    go_wp2_with fail
    obtain ⟨W, hW⟩ : ∃ W, W = (w.alloc (.cells #[.bool false, .int .u64 0, .int .i64 0] 24)).alloc (.cells #[.int .i64 0, .int .i64 0] 32) := ⟨_, rfl⟩
    rw [← hW] at HB ⊢
    clear hW h1
    go_loopw [5, 6, 7, 8] (fun v5 v6 v7 v8 wr => ∃ (i : Nat) (t : ByteArray) (dl : List UInt8) (pt : Int) (must : Bool), v5 = .int .i64 i ∧ v6 = .string t ∧ v7 = .int .i64 pt ∧ v8 = .bool must ∧ W = wr ∧ Hid (Str t dl ∧ RInv l false i dl pt must)) (fun v5 _ _ _ _ => l.length - (intOf v5).toNat)
    case atStart => exact ⟨0, ⟨#[]⟩, [], -1, true, rfl, rfl, rfl, rfl, rfl, rfl, HI.out⟩
    case round =>
      obtain ⟨i, t, dl, pt, must, rfl, rfl, rfl, rfl, rfl, hh⟩ := hrel
      clear HI
      have HR := Lib.hid hh.out.2
      have HTS := Lib.hid hh.out.1
      have hil : (i : Int) ≤ 200 := by have := HR.out.at_; have := HL.out; omega
      have htz : (t.size : Int) ≤ 200 := by rw [HTS.out.size]; have := HR.out.few; omega
      have hpt : -1 ≤ pt ∧ pt ≤ 200 := by have := HR.out.few; rcases HR.out.pt0 with h | h <;> omega
      have d0 := HB.out.1.cell 0
      have d1 := HB.out.1.cell 1
      have d2 := HB.out.1.cell 2
      have a0 := HB.out.2.1.cell 0
      have a1 := HB.out.2.1.cell 1
      simp only [List.getElem?_cons_zero, List.getElem?_cons_succ] at d0 d1 d2 a0 a1
      have e0 := HB.out.1.frozen 0
      have e1 := HB.out.1.frozen 1
      have e2 := HB.out.1.frozen 2
      have b0 := HB.out.2.1.frozen 0
      have b1 := HB.out.2.1.frozen 1
      have HFIN := Lib.hid (stored_is HB.out.1 HB.out.2.1 HB.out.2.2)
      clear hh
      by_cases hlt : i < l.length
      · exfalso; have := HZ.out; have hno : ¬ 0 < s.size := by assumption
        omega
      · have hlt' : ¬ (i : Int) < (s.size : Int) := by have := HZ.out; omega
        obtain rfl : i = l.length := by have := HR.out.at_; omega
        have hdone := HR.out.done
        have HEQ := Lib.hid (show (s.size : Int) = (l.length : Int) by have := HZ.out; omega)
        cases must
        · simp only [Bool.false_eq_true, ite_false] at hdone
          have HMK := Lib.hid (fun x hx0 hx1 => make_calls false t dl HTS.out HR.out.digs (by have := HR.out.few; have := HL.out; omega) x hx0 hx1 W)
          have HTZ := Lib.hid HTS.out.size
          have hform : (pt < 0 ∧ ∃ q : Int, q = 0 ∧ Hid (q = (if 0 ≤ pt then pt - dl.length else 0))) ∨ (¬ pt < 0 ∧ ∃ q : Int, q = pt - (t.size : Int) ∧ Hid (q = (if 0 ≤ pt then pt - dl.length else 0))) := by
            by_cases hp : pt < 0
            · exact Or.inl ⟨hp, 0, rfl, by show (0 : Int) = _; rw [if_neg (by omega)]⟩
            · exact Or.inr ⟨hp, _, rfl, by show pt - (t.size : Int) = _; rw [if_pos (by omega), HTZ.out]⟩
          have hq2 : ∀ q : Int, q = (if 0 ≤ pt then pt - dl.length else 0) → -200 ≤ q ∧ q ≤ 200 := fun q hq => by
            rw [hq]
            have := HR.out.few
            split
            · rcases HR.out.pt0 with h | h <;> omega
            · omega
          have HQ2 := Lib.hid hq2
          have HDN := Lib.hid hdone
          clear hq2 hdone
          rcases hform with ⟨hp, q, hq, hqq⟩ | ⟨hp, q, hq, hqq⟩
          all_goals
            have hqb := HQ2.out q hqq.out
            have hmk := HMK.out q (by omega) (by omega)
            have hdn := HDN.out
            rw [← hqq.out] at hdn
            obtain ⟨⟨R, ok⟩, hR⟩ : ∃ p, p = made false (val dl) q := ⟨_, rfl⟩
            rw [← hR] at hmk hdn
            unfold dV at hmk
            rw [hq] at hmk
            have HM := Lib.hid hmk
            have HDD := Lib.hid hdn
            have HOK := Lib.hid (show ok = false → R = D0 from fun h => by
              rw [h] at hR
              unfold made at hR
              cases hn : norm (val dl) q with
              | none => rw [hn] at hR; injection hR
              | some p => rw [hn] at hR; injection hR with _ h2; cases h2)
            clear hmk hdn hR hqq HDN HMK
            go_wp2_with fail
            refine HM.out.mono ?_
            rintro e w3 ⟨rfl, hb⟩
            have k1 := (HB.out.1.keep hb).alloc (.cells #[.bool R.neg, .int .u64 R.c, .int .i64 R.e] 24)
            have k2 := (HB.out.2.1.keep hb).alloc (.cells #[.bool R.neg, .int .u64 R.c, .int .i64 R.e] 24)
            have k3 := below_then HB.out.2.2 hb
            have k3' := k3.alloc k3.size (.cells #[.bool R.neg, .int .u64 R.c, .int .i64 R.e] 24)
            have d0 := k1.cell 0
            have d1 := k1.cell 1
            have d2 := k1.cell 2
            have a0 := k2.cell 0
            have a1 := k2.cell 1
            simp only [List.getElem?_cons_zero, List.getElem?_cons_succ] at d0 d1 d2 a0 a1
            have e0 := k1.frozen 0
            have e1 := k1.frozen 1
            have e2 := k1.frozen 2
            have b0 := k2.frozen 0
            have b1 := k2.frozen 1
            have HF2 := Lib.hid (stored_is k1 k2 k3')
            clear k1 k2 k3 k3' hb HFIN HM
            cases ok
            · have HR0 := Lib.hid (HOK.out rfl)
              go_wp2_with fail
              exact ret_decs rfl rfl rfl rfl (HF2.out _ _ _ _ _).1 (HF2.out _ _ _ _ _).2.1 ⟨by rw [HDD.out, HR0.out]; rfl, (HF2.out _ _ _ _ _).2.2⟩
            · go_wp2_with fail
              exact ret_decs rfl rfl rfl rfl (HF2.out _ _ _ _ _).1 (HF2.out _ _ _ _ _).2.1 ⟨by rw [HDD.out]; rfl, (HF2.out _ _ _ _ _).2.2⟩
        · have HPL := Lib.hid (show parse l = (D0, 11, (s.size : Int)) by rw [hdone, HEQ.out]; rfl)
          clear hdone
          go_wp2_with fail
          exact ret_decs rfl rfl rfl rfl (HFIN.out _ _ _ _ _).1 (HFIN.out _ _ _ _ _).2.1 ⟨by rw [HPL.out]; rfl, (HFIN.out _ _ _ _ _).2.2⟩
  · skip
    go_wp2_with fail
    obtain ⟨W, hW⟩ : ∃ W, W = (w.alloc (.cells #[.bool false, .int .u64 0, .int .i64 0] 24)).alloc (.cells #[.int .i64 0, .int .i64 0] 32) := ⟨_, rfl⟩
    rw [← hW] at HB ⊢
    clear hW h1 h2 hz45
    go_loopw [5, 6, 7, 8] (fun v5 v6 v7 v8 wr => ∃ (i : Nat) (t : ByteArray) (dl : List UInt8) (pt : Int) (must : Bool), v5 = .int .i64 i ∧ v6 = .string t ∧ v7 = .int .i64 pt ∧ v8 = .bool must ∧ W = wr ∧ Hid (Str t dl ∧ RInv l false i dl pt must)) (fun v5 _ _ _ _ => l.length - (intOf v5).toNat)
    case atStart => exact ⟨0, ⟨#[]⟩, [], -1, true, rfl, rfl, rfl, rfl, rfl, rfl, HI.out⟩
    case round =>
      obtain ⟨i, t, dl, pt, must, rfl, rfl, rfl, rfl, rfl, hh⟩ := hrel
      clear HI
      have HR := Lib.hid hh.out.2
      have HTS := Lib.hid hh.out.1
      have hil : (i : Int) ≤ 200 := by have := HR.out.at_; have := HL.out; omega
      have htz : (t.size : Int) ≤ 200 := by rw [HTS.out.size]; have := HR.out.few; omega
      have hpt : -1 ≤ pt ∧ pt ≤ 200 := by have := HR.out.few; rcases HR.out.pt0 with h | h <;> omega
      have d0 := HB.out.1.cell 0
      have d1 := HB.out.1.cell 1
      have d2 := HB.out.1.cell 2
      have a0 := HB.out.2.1.cell 0
      have a1 := HB.out.2.1.cell 1
      simp only [List.getElem?_cons_zero, List.getElem?_cons_succ] at d0 d1 d2 a0 a1
      have e0 := HB.out.1.frozen 0
      have e1 := HB.out.1.frozen 1
      have e2 := HB.out.1.frozen 2
      have b0 := HB.out.2.1.frozen 0
      have b1 := HB.out.2.1.frozen 1
      have HFIN := Lib.hid (stored_is HB.out.1 HB.out.2.1 HB.out.2.2)
      clear hh
      by_cases hlt : i < l.length
      · have hlt' : (i : Int) < (s.size : Int) := by have := HZ.out; omega
        have hidx := HS.out.index (i := (i : Int)) i rfl hlt
        obtain ⟨z, hzb⟩ : ∃ z : Int, z = (l[i].toNat : Int) := ⟨_, rfl⟩
        rw [← hzb] at hidx
        have HZB := Lib.hid hzb
        have HLT := Lib.hid hlt
        clear hzb
        by_cases hd : 48 ≤ z ∧ z ≤ 57
        · obtain ⟨u, hu, hsl⟩ := HS.out.part (ki := .i64) (kj := .i64) (i := (i : Int)) (j := (i : Int) + 1) i (i + 1) rfl (by omega) (by omega) HLT.out
          have hu1 : (l.drop i).take (i + 1 - i) = [l[i]'HLT.out] := by rw [List.drop_eq_getElem_cons HLT.out, show i + 1 - i = 1 by omega]; rfl
          rw [hu1] at hu
          have huz : (u.size : Int) ≤ 1 := by rw [hu.size]; simp
          have HU := Lib.hid (HTS.out.append hu)
          have HDC := Lib.hid (digit_calls z true (by simp [hd]) W)
          have HN := Lib.hid (HR.out.digit HLT.out (by have := HZB.out; omega))
          clear hu hu1
          go_wp2_with fail
          refine HDC.out.mono ?_
          rintro e w2 ⟨rfl, rfl⟩
          go_wp2_with fail
          exact ⟨⟨i + 1, _, _, pt, false, by go_num, rfl, rfl, rfl, by trivial, HU.out, HN.out⟩, by have := HLT.out; simp [intOf]; omega⟩
        · have HDC := Lib.hid (digit_calls z false (by simp [hd]) W)
          by_cases hdot : z = 46 ∧ pt < 0 ∧ must = false
          · obtain ⟨rfl, hp0, rfl⟩ := hdot
            obtain rfl : pt = -1 := by omega
            have HN := Lib.hid (HR.out.dot HLT.out (by have := HZB.out; omega))
            have HTZ := Lib.hid HTS.out.size
            go_wp2_with fail
            refine HDC.out.mono ?_
            rintro e w2 ⟨rfl, rfl⟩
            go_wp2_with fail
            exact ⟨⟨i + 1, t, dl, (t.size : Int), true, by go_num, rfl, rfl, rfl, by trivial, HTS.out, by rw [HTZ.out]; exact HN.out⟩, by have := HLT.out; simp [intOf]; omega⟩
          · have HPL := Lib.hid (HR.out.bad HLT.out (by have := HZB.out; omega) (by rintro ⟨k1, k2, k3⟩; exact hdot ⟨by have := HZB.out; omega, by omega, k2⟩))
            have hform : (z == 46) = false ∨ (z = 46 ∧ ¬ pt < 0) ∨ (z = 46 ∧ pt < 0 ∧ must = true) := by
              by_cases h46 : z = 46
              · by_cases hp : pt < 0
                · cases must
                  · exact absurd ⟨h46, hp, rfl⟩ hdot
                  · exact Or.inr (Or.inr ⟨h46, hp, rfl⟩)
                · exact Or.inr (Or.inl ⟨h46, hp⟩)
              · exact Or.inl (by simp [h46])
            clear hdot
            rcases hform with f1 | ⟨rfl, f2⟩ | ⟨rfl, f2, rfl⟩
            all_goals
              go_wp2_with fail
              refine HDC.out.mono ?_
              rintro e w2 ⟨rfl, rfl⟩
              go_wp2_with fail
              exact ret_decs rfl rfl rfl rfl (HFIN.out _ _ _ _ _).1 (HFIN.out _ _ _ _ _).2.1 ⟨by rw [HPL.out]; rfl, (HFIN.out _ _ _ _ _).2.2⟩
      · have hlt' : ¬ (i : Int) < (s.size : Int) := by have := HZ.out; omega
        obtain rfl : i = l.length := by have := HR.out.at_; omega
        have hdone := HR.out.done
        have HEQ := Lib.hid (show (s.size : Int) = (l.length : Int) by have := HZ.out; omega)
        cases must
        · simp only [Bool.false_eq_true, ite_false] at hdone
          have HMK := Lib.hid (fun x hx0 hx1 => make_calls false t dl HTS.out HR.out.digs (by have := HR.out.few; have := HL.out; omega) x hx0 hx1 W)
          have HTZ := Lib.hid HTS.out.size
          have hform : (pt < 0 ∧ ∃ q : Int, q = 0 ∧ Hid (q = (if 0 ≤ pt then pt - dl.length else 0))) ∨ (¬ pt < 0 ∧ ∃ q : Int, q = pt - (t.size : Int) ∧ Hid (q = (if 0 ≤ pt then pt - dl.length else 0))) := by
            by_cases hp : pt < 0
            · exact Or.inl ⟨hp, 0, rfl, by show (0 : Int) = _; rw [if_neg (by omega)]⟩
            · exact Or.inr ⟨hp, _, rfl, by show pt - (t.size : Int) = _; rw [if_pos (by omega), HTZ.out]⟩
          have hq2 : ∀ q : Int, q = (if 0 ≤ pt then pt - dl.length else 0) → -200 ≤ q ∧ q ≤ 200 := fun q hq => by
            rw [hq]
            have := HR.out.few
            split
            · rcases HR.out.pt0 with h | h <;> omega
            · omega
          have HQ2 := Lib.hid hq2
          have HDN := Lib.hid hdone
          clear hq2 hdone
          rcases hform with ⟨hp, q, hq, hqq⟩ | ⟨hp, q, hq, hqq⟩
          all_goals
            have hqb := HQ2.out q hqq.out
            have hmk := HMK.out q (by omega) (by omega)
            have hdn := HDN.out
            rw [← hqq.out] at hdn
            obtain ⟨⟨R, ok⟩, hR⟩ : ∃ p, p = made false (val dl) q := ⟨_, rfl⟩
            rw [← hR] at hmk hdn
            unfold dV at hmk
            rw [hq] at hmk
            have HM := Lib.hid hmk
            have HDD := Lib.hid hdn
            have HOK := Lib.hid (show ok = false → R = D0 from fun h => by
              rw [h] at hR
              unfold made at hR
              cases hn : norm (val dl) q with
              | none => rw [hn] at hR; injection hR
              | some p => rw [hn] at hR; injection hR with _ h2; cases h2)
            clear hmk hdn hR hqq HDN HMK
            go_wp2_with fail
            refine HM.out.mono ?_
            rintro e w3 ⟨rfl, hb⟩
            have k1 := (HB.out.1.keep hb).alloc (.cells #[.bool R.neg, .int .u64 R.c, .int .i64 R.e] 24)
            have k2 := (HB.out.2.1.keep hb).alloc (.cells #[.bool R.neg, .int .u64 R.c, .int .i64 R.e] 24)
            have k3 := below_then HB.out.2.2 hb
            have k3' := k3.alloc k3.size (.cells #[.bool R.neg, .int .u64 R.c, .int .i64 R.e] 24)
            have d0 := k1.cell 0
            have d1 := k1.cell 1
            have d2 := k1.cell 2
            have a0 := k2.cell 0
            have a1 := k2.cell 1
            simp only [List.getElem?_cons_zero, List.getElem?_cons_succ] at d0 d1 d2 a0 a1
            have e0 := k1.frozen 0
            have e1 := k1.frozen 1
            have e2 := k1.frozen 2
            have b0 := k2.frozen 0
            have b1 := k2.frozen 1
            have HF2 := Lib.hid (stored_is k1 k2 k3')
            clear k1 k2 k3 k3' hb HFIN HM
            cases ok
            · have HR0 := Lib.hid (HOK.out rfl)
              go_wp2_with fail
              exact ret_decs rfl rfl rfl rfl (HF2.out _ _ _ _ _).1 (HF2.out _ _ _ _ _).2.1 ⟨by rw [HDD.out, HR0.out]; rfl, (HF2.out _ _ _ _ _).2.2⟩
            · go_wp2_with fail
              exact ret_decs rfl rfl rfl rfl (HF2.out _ _ _ _ _).1 (HF2.out _ _ _ _ _).2.1 ⟨by rw [HDD.out]; rfl, (HF2.out _ _ _ _ _).2.2⟩
        · have HPL := Lib.hid (show parse l = (D0, 11, (s.size : Int)) by rw [hdone, HEQ.out]; rfl)
          clear hdone
          go_wp2_with fail
          exact ret_decs rfl rfl rfl rfl (HFIN.out _ _ _ _ _).1 (HFIN.out _ _ _ _ _).2.1 ⟨by rw [HPL.out]; rfl, (HFIN.out _ _ _ _ _).2.2⟩

theorem rparse_calls (s : ByteArray) (l : List UInt8) (hs : Str s l) (hl : l.length ≤ 200) (w : World) : Calls Tryd.prog 16 #[.string s] w (Parses w l) := by
  cases l with
  | nil => exact rparse_from s [] hs hl false 0 (RInv.start (fun r h => by cases h)) (Or.inr ⟨rfl, rfl, Or.inl rfl⟩) w
  | cons b r =>
    by_cases hb : b.toNat = 45
    · obtain rfl : b = 45 := UInt8.toNat_inj.1 hb
      exact rparse_from s _ hs hl true 1 RInv.start_neg (Or.inl ⟨rfl, rfl, r, rfl⟩) w
    · exact rparse_from s _ hs hl false 0 (RInv.start (fun r' h => by injection h with h1 _; rw [h1] at hb; exact hb rfl)) (Or.inr ⟨rfl, rfl, Or.inr ⟨b, r, rfl, hb⟩⟩) w
end Go.Proofs.YtanobfiheepgbaaDoor
