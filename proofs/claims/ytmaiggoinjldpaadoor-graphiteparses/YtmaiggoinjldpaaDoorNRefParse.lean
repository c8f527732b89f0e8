/-
  Layer 5: the document's Value and Parse. No statement of the seat is proved here.
-/
import Derived.Test.YtmaiggoinjldpaaDoorGrNPut
import Derived.Test.YtmaiggoinjldpaaDoorGrKIs
namespace Go.Proofs.YtmaiggoinjldpaaDoor
open Go.RowKit

def valued (v : Nat) : Int × Bool := if v ≤ MaxI then ((v : Int), true) else (0, false)

theorem valF_ge (v : Nat) (l : List UInt8) : v ≤ valF v l := by
  rw [valF_eq]
  have : v * 1 ≤ v * 10 ^ l.length := Nat.mul_le_mul_left _ (Nat.pos_of_ne_zero (by simp))
  omega
theorem val_take_le (l : List UInt8) (k : Nat) : val (l.take k) ≤ val l := by
  have h : val l = valF (val (l.take k)) (l.drop k) := by unfold val; rw [← valF_append, List.take_append_drop]
  rw [h]; exact valF_ge _ _

set_option maxRecDepth 100000 in
set_option maxHeartbeats 2000000 in
theorem value_calls (s : ByteArray) (l : List UInt8) (h : Str s l) (hd : Digs l) (hz : (s.size : Int) ≤ 9000) (w : World) :
    Calls Tryd.prog 71 #[.string s] w fun e w' => e = .returned (.tuple #[.int .i64 (valued (val l)).1, .bool (valued (val l)).2]) ∧ w' = w := by
  have hn : s.size = l.length := h.size
  have HS := Lib.hid (And.intro h hd)
  clear h hd
  obtain ⟨r, hr⟩ : ∃ r, r = valued (val l) := ⟨_, rfl⟩
  rw [← hr]
  have HR := Lib.hid hr
  clear hr
  go_enter Tryd.func71, Tryd.ntmps71
  go_wp2_with fail
  go_loopw [4, 5] (fun v4 v5 wr => ∃ k n : Nat, v4 = .int .i64 n ∧ v5 = .int .i64 k ∧ k ≤ l.length ∧ w = wr ∧ Hid (n = val (l.take k) ∧ n ≤ MaxI)) (fun _ v5 _ => l.length - (intOf v5).toNat)
  case atStart => exact ⟨0, 0, rfl, rfl, by omega, rfl, ⟨rfl, by decide⟩⟩
  case round =>
    obtain ⟨k, n, rfl, rfl, hkl, rfl, hrel⟩ := hrel
    by_cases hlt : k < l.length
    · have hidx := HS.out.1.index (i := (k : Int)) k rfl hlt
      have hlt' : (k : Int) < (s.size : Int) := by omega
      have hb : Dig l[k] := HS.out.2 _ (List.getElem_mem hlt)
      unfold Dig at hb
      have e : val (l.take (k + 1)) = 10 * val (l.take k) + (l[k].toNat - 48) := by rw [List.take_succ_eq_append_getElem hlt, val_snoc]
      obtain ⟨z, hzb⟩ : ∃ z : Int, z = (l[k].toNat : Int) := ⟨_, rfl⟩
      rw [← hzb] at hidx
      obtain ⟨x, hx⟩ : ∃ x : Int, x = (n : Int) := ⟨_, rfl⟩
      rw [← hx]
      have hz0 : 48 ≤ z ∧ z ≤ 57 := by omega
      obtain ⟨y, hy⟩ : ∃ y : Int, y = z - 48 := ⟨_, rfl⟩
      have hsub : IntKind.u8.wrap (z - 48) = y := by rw [IntKind.wrap_u8']; omega
      have hy0 : 0 ≤ y ∧ y ≤ 9 := by omega
      obtain ⟨q, hq⟩ : ∃ q : Int, q = (9223372036854775807 - y) / 10 := ⟨_, rfl⟩
      have hw1 : IntKind.i64.wrap (9223372036854775807 - y) = 9223372036854775807 - y := by rw [IntKind.wrap_i64]; omega
      have hw2 : IntKind.i64.wrap ((9223372036854775807 - y).tdiv 10) = q := by rw [Int.tdiv_eq_ediv_of_nonneg (by omega), IntKind.wrap_i64]; omega
      have hsm := hrel.out.2
      have hxx : 0 ≤ x ∧ x ≤ 9223372036854775807 := by unfold MaxI at hsm; omega
      by_cases hle : q < x
      · have HX := Lib.hid (show r = (0, false) by
          rw [HR.out]
          unfold valued
          have := val_take_le l (k + 1)
          rw [e, ← hrel.out.1] at this
          rw [if_neg (by unfold MaxI; omega)])
        clear hz0 hzb hx hq hb e hy hsm
        go_wp2_with fail
        go_ret2
        exact ⟨by rw [HX.out]; rfl, rfl⟩
      · have HX := Lib.hid (show ((10 * n + (l[k].toNat - 48) : Nat) : Int) = 10 * x + y ∧ 10 * n + (l[k].toNat - 48) = val (l.take (k + 1)) ∧ 10 * n + (l[k].toNat - 48) ≤ MaxI by
          refine ⟨by omega, by rw [e, ← hrel.out.1], by unfold MaxI; omega⟩)
        have h10 : 0 ≤ 10 * x ∧ 10 * x + y ≤ 9223372036854775807 := by omega
        have HL := Lib.hid hlt
        clear hz0 hzb hx hq hb e hy hsm
        go_wp2_with fail
        refine ⟨⟨k + 1, 10 * n + (l[k].toNat - 48), ?_, by go_num, HL.out, trivial, HX.out.2⟩, by have := HL.out; simp [intOf]; omega⟩
        exact congrArg (Value.int .i64) HX.out.1.symm
    · have hlt' : ¬ (k : Int) < (s.size : Int) := by omega
      have hke : l.take k = l := List.take_of_length_le (by omega)
      have HX := Lib.hid (show r = ((n : Int), true) by
        rw [HR.out]
        have := hrel.out
        rw [hke] at this
        unfold valued
        rw [← this.1, if_pos this.2])
      clear hke
      go_wp2_with fail
      go_ret2
      exact ⟨by rw [HX.out]; rfl, rfl⟩

theorem nstr_empty {s : ByteArray} {l : List UInt8} (h : Str s l) : (s.toList = []) ↔ l = [] := by rw [h.toList]

set_option maxRecDepth 100000 in
set_option maxHeartbeats 4000000 in
theorem rparse_calls (s : ByteArray) (l : List UInt8) (h : Str s l) (hz : (s.size : Int) ≤ 9000) (lo hi : Int) (w : World) : Calls Tryd.prog 48 #[.string s, .int .i64 lo, .int .i64 hi] w (Told3 w (parsed l lo hi)) := by
  have hn : s.size = l.length := h.size
  have HK := Lib.hid h
  have HBD := Lib.hid (rbad_calls 4 (by decide) s l h (by omega))
  obtain ⟨r, hr⟩ : ∃ r, r = parsed l lo hi := ⟨_, rfl⟩
  rw [← hr]
  have b0 := Box.new w 29 [.int .i64 0, .int .i64 0]
  have HNEW := Lib.hid (fun x y : Value => And.intro (Box.new w 29 [x, y]) ((Below.refl w.heap.size w).alloc (Nat.le_refl _) (.cells #[x, y] 29)))
  unfold parsed at hr
  rcases l with _ | ⟨b, t⟩
  · have hs0 : s = ⟨#[]⟩ := h.eq
    subst hs0
    have HR := Lib.hid (show r = (0, 13, 0) by rw [hr]; rfl)
    clear hr h b0 hn HBD HK
    go_enter Tryd.func48, Tryd.ntmps48
    go_wp2_with fail
    refine ret_nf rfl rfl rfl rfl (HNEW.out _ _).1 ?_
    exact told3_of HR.out (HNEW.out _ _).2
  · have hse : s.toList = b :: t := h.toList
    have hs0 : (s.toList == []) = false := by rw [hse]; rfl
    rw [if_neg (by simp)] at hr
    obtain ⟨m, hm⟩ : ∃ m, m = bad 4 (b :: t) := ⟨_, rfl⟩
    rw [← hm] at HBD hr
    have HM := Lib.hid hm
    clear hm h
    have hidx := HK.out.index (i := 0) 0 rfl (by simp)
    simp only [List.getElem_cons_zero] at hidx
    have hbb := b.toNat_lt
    have hlen : (s.size : Int) = (t.length : Int) + 1 := by rw [hn]; simp
    simp only [List.head?_cons, Option.some.injEq, List.length_cons] at hr
    obtain ⟨z, hzz⟩ : ∃ z : Int, z = (b.toNat : Int) := ⟨_, rfl⟩
    rw [← hzz] at hidx
    have hz48 : z = 48 ↔ b = 48 := by
      constructor
      · intro h; exact UInt8.toNat_inj.1 (by show b.toNat = 48; omega)
      · rintro rfl; exact hzz
    have HZ := Lib.hid (And.intro hz48 hlen)
    have HR := Lib.hid hr
    clear hr hz48 hzz hbb hn hlen hse
    go_enter Tryd.func48, Tryd.ntmps48
    go_wp2_with fail
    refine (HBD.out _).mono ?_
    rintro e w1 ⟨rfl, hb⟩
    have b1 := b0.keep hb
    have kk := below_then ((Below.refl w.heap.size w).alloc (Nat.le_refl _) (.cells #[.int .i64 0, .int .i64 0] 29)) (hb.mono (by simp))
    have c0 : w1.cell? ⟨w.heap.size, 0, none⟩ = some (.int .i64 0) := b1.cell 0
    have c1 : w1.cell? ⟨w.heap.size, 1, none⟩ = some (.int .i64 0) := b1.cell 1
    have f0 := b1.frozen 0
    have f1 := b1.frozen 1
    have HF := Lib.hid (And.intro (And.intro b1 kk) (fun x y => laidF_is b1 kk x y))
    clear b1 kk hb HBD b0 HNEW
    by_cases hm0 : 0 ≤ m
    · have HR2 := Lib.hid (show r = (0, 14, m) by rw [HR.out, if_pos hm0])
      clear HR
      go_wp2_with fail
      refine ret_nf rfl rfl rfl rfl (HF.out.2 _ _).1 ?_
      exact told3_of HR2.out (HF.out.2 _ _).2
    · have hd : Digs (b :: t) := digs_of_bad (by rw [← HM.out]; exact hm0)
      have HG := Lib.hid (fun W => value_calls s (b :: t) HK.out hd hz W)
      obtain ⟨v, hv⟩ : ∃ v, v = val (b :: t) := ⟨_, rfl⟩
      rw [← hv] at HG
      have HR2 := Lib.hid (show r = if b = 48 ∧ 1 < t.length + 1 then (0, 11, 0) else if MaxI < v ∨ (v : Int) < lo ∨ hi < (v : Int) then (0, 10, 0) else ((v : Int), 0, 0) by rw [HR.out, if_neg hm0, hv])
      clear HR hd hv
      by_cases h48 : z = 48 ∧ 1 < (s.size : Int)
      · obtain ⟨e1, e2⟩ := h48
        have HR3 := Lib.hid (show r = (0, 11, 0) by rw [HR2.out, if_pos ⟨HZ.out.1.1 e1, by have := HZ.out.2; omega⟩])
        subst e1
        clear HR2
        go_wp2_with fail
        refine ret_nf rfl rfl rfl rfl (HF.out.2 _ _).1 ?_
        exact told3_of HR3.out (HF.out.2 _ _).2
      · have HR3 := Lib.hid (show r = if MaxI < v ∨ (v : Int) < lo ∨ hi < (v : Int) then (0, 10, 0) else ((v : Int), 0, 0) by rw [HR2.out, if_neg]; rintro ⟨e1, e2⟩; exact h48 ⟨HZ.out.1.2 e1, by have := HZ.out.2; omega⟩)
        have hand : (z == 48) = false ∨ ((z == 48) = true ∧ ¬ 1 < (s.size : Int)) := by
          by_cases e : z = 48
          · right; exact ⟨by simp [e], fun h => h48 ⟨e, h⟩⟩
          · left; simp [e]
        obtain ⟨u, q, huq⟩ : ∃ u q, valued v = (u, q) := ⟨_, _, rfl⟩
        rw [huq] at HG
        have hcs : (q = false ∧ r = (0, 10, 0)) ∨ (q = true ∧ u < lo ∧ r = (0, 10, 0)) ∨ (q = true ∧ ¬ u < lo ∧ hi < u ∧ r = (0, 10, 0)) ∨ (q = true ∧ ¬ u < lo ∧ ¬ hi < u ∧ r = (u, 0, 0)) := by
          unfold valued at huq
          split at huq
          · rename_i hle
            injection huq with h1 h2
            subst h1 h2
            by_cases k1 : (v : Int) < lo
            · exact .inr (.inl ⟨rfl, k1, by rw [HR3.out, if_pos (.inr (.inl k1))]⟩)
            · by_cases k2 : hi < (v : Int)
              · exact .inr (.inr (.inl ⟨rfl, k1, k2, by rw [HR3.out, if_pos (.inr (.inr k2))]⟩))
              · exact .inr (.inr (.inr ⟨rfl, k1, k2, by rw [HR3.out, if_neg (by omega)]⟩))
          · rename_i hle
            injection huq with h1 h2
            subst h1 h2
            exact .inl ⟨rfl, by rw [HR3.out, if_pos (.inl (by omega))]⟩
        clear HR2 HR3 h48 huq
        rcases hcs with ⟨rfl, hr⟩ | ⟨rfl, k1, hr⟩ | ⟨rfl, k1, k2, hr⟩ | ⟨rfl, k1, k2, hr⟩
        all_goals
          have HR := Lib.hid hr
          clear hr
          rcases hand with e1 | ⟨e1, e2⟩
          all_goals
            go_wp2_with fail
            refine (HG.out _).mono ?_
            rintro e w2 ⟨rfl, rfl⟩
            clear HG
            go_wp2_with fail
            refine ret_nf rfl rfl rfl rfl (HF.out.2 _ _).1 ?_
            exact told3_of HR.out (HF.out.2 _ _).2
end Go.Proofs.YtmaiggoinjldpaaDoor
