/-
  Contracts of the document's Fits, Value and Make. No statement of the seat is proved here.
-/
import Derived.Test.YtmaiggoinjldpaaDoorGrMRows
import Derived.Test.YtmaiggoinjldpaaDoorGrDLift
import Derived.Test.YtmaiggoinjldpaaDoorGrDigs
namespace Go.Proofs.YtmaiggoinjldpaaDoor.Dc
open Go.RowKit

set_option maxRecDepth 100000 in
theorem fits_calls (s : ByteArray) (l : List UInt8) (hs : Str s l) (hl : l.length ≤ 50000) (w : World) : Calls Tryd.prog 69 #[.string s] w fun e w' => e = .returned (.bool (fitsL l)) ∧ w = w' := by
  have hz := hs.size
  have htl := hs.toList
  have hmo : (⟨#[49, 56, 52, 52, 54, 55, 52, 52, 48, 55, 51, 55, 48, 57, 53, 53, 49, 54, 49, 53]⟩ : ByteArray).toList = most := (show Str ⟨#[49, 56, 52, 52, 54, 55, 52, 52, 48, 55, 51, 55, 48, 57, 53, 53, 49, 54, 49, 53]⟩ most from rfl).toList
  rcases Nat.lt_trichotomy l.length 20 with h | h | h
  · have h1 : (s.size : Int) < 20 := by omega
    have hf : fitsL l = true := by unfold fitsL; simp [h]
    rw [hf]
    clear hs hz hf
    go_enter Tryd.func69, Tryd.ntmps69
    go_wp2_with fail
    go_ret
    exact ⟨rfl, rfl⟩
  · have h1 : ¬ (s.size : Int) < 20 := by omega
    have h2 : ((s.size : Int) == 20) = true := by simp; omega
    have hf : fitsL l = (Op.bytesLess l most || l == most) := by unfold fitsL; simp [h]
    rw [hf]
    have HTL := Lib.hid (And.intro htl hmo)
    clear hs hz hf htl hmo
    go_enter Tryd.func69, Tryd.ntmps69
    go_wp2_with fail
    go_ret
    refine ⟨?_, rfl⟩
    refine congrArg (fun z => Ending.returned (Value.bool z)) (show _ = (Op.bytesLess l most || l == most) from ?_)
    rw [← HTL.out.1, ← HTL.out.2]
    first | rfl | simp
  · have h1 : ¬ (s.size : Int) < 20 := by omega
    have h2 : ((s.size : Int) == 20) = false := by simp; omega
    have hf : fitsL l = false := by
      unfold fitsL
      have e1 : decide (l.length < 20) = false := by simp; omega
      have e2 : (l.length == 20) = false := by simp; omega
      rw [e1, e2]; rfl
    rw [hf]
    clear hs hz hf
    go_enter Tryd.func69, Tryd.ntmps69
    go_wp2_with fail
    go_ret
    exact ⟨rfl, rfl⟩

theorem val_take_le (l : List UInt8) (i : Nat) : val (l.take i) ≤ val l := by
  have h := val_append (l.take i) (l.drop i)
  rw [List.take_append_drop] at h
  have : val (l.take i) * 1 ≤ val (l.take i) * 10 ^ (l.drop i).length := Nat.mul_le_mul_left _ (Nat.pos_of_ne_zero (by simp))
  omega
theorem val_take_succ (l : List UInt8) (i : Nat) (h : i < l.length) : val (l.take (i + 1)) = 10 * val (l.take i) + (l[i].toNat - 48) := by
  rw [List.take_succ_eq_append_getElem h, val_snoc]

set_option maxRecDepth 100000 in
set_option maxHeartbeats 2000000 in
theorem value_calls (s : ByteArray) (l : List UInt8) (hs : Str s l) (hd : Digs l) (hv : val l < Two64) (hl : l.length ≤ 50000) (w : World) : Calls Tryd.prog 70 #[.string s] w fun e w' => e = .returned (.int .u64 (val l : Nat)) ∧ w = w' := by
  have hz := hs.size
  have HS := Lib.hid hs
  have HD := Lib.hid hd
  have HV := Lib.hid hv
  have HZ := Lib.hid hz
  have hsz : (s.size : Int) ≤ 50000 := by omega
  clear hs hd hv hz
  go_enter Tryd.func70, Tryd.ntmps70
  go_wp2_with fail
  go_loopw [3, 4] (fun v3 v4 wr => ∃ (a : Int) (i : Nat), v3 = .int .u64 a ∧ v4 = .int .i64 i ∧ i ≤ l.length ∧ w = wr ∧ Hid (a = ((val (l.take i) : Nat) : Int))) (fun _ v4 _ => l.length - (intOf v4).toNat)
  case atStart => exact ⟨0, 0, rfl, rfl, by omega, rfl, rfl⟩
  case round =>
    obtain ⟨a, i, rfl, rfl, hi, rfl, ha⟩ := hrel
    have hi5 : (i : Int) ≤ 50000 := by omega
    by_cases hlt : i < l.length
    · have hlt' : (i : Int) < (s.size : Int) := by have := HZ.out; omega
      have hidx := HS.out.index (i := (i : Int)) i rfl hlt
      have hdig := HD.out l[i] (List.getElem_mem hlt)
      have hsucc := val_take_succ l i hlt
      have hle := val_take_le l (i + 1)
      have hv := HV.out
      have hae := ha.out
      generalize l[i] = b at hidx hdig hsucc
      obtain ⟨z, hzb⟩ : ∃ z : Int, z = (b.toNat : Int) := ⟨_, rfl⟩
      rw [← hzb] at hidx
      unfold Dig at hdig
      unfold Two64 at hv
      have hsub : IntKind.u8.wrap (z - 48) = z - 48 := by rw [IntKind.wrap_u8']; omega
      have hmul : IntKind.u64.wrap (10 * a) = 10 * a := by rw [IntKind.wrap_u64]; omega
      have hadd : IntKind.u64.wrap (10 * a + (z - 48)) = 10 * a + (z - 48) := by rw [IntKind.wrap_u64]; omega
      have hz48 : 48 ≤ z ∧ z ≤ 57 := by omega
      have HN := Lib.hid (show 10 * a + (z - 48) = ((val (l.take (i + 1)) : Nat) : Int) by omega)
      clear hzb hdig hsucc hle hv hae ha
      go_wp2_with fail
      refine ⟨⟨10 * a + (z - 48), i + 1, ?_, by go_num, by omega, by trivial, HN.out⟩, by simp [intOf]; omega⟩
      first | rfl | (rw [hmul, hadd]) | (simp [hmul, hadd])
    · have hlt' : ¬ (i : Int) < (s.size : Int) := by have := HZ.out; omega
      have he : a = ((val l : Nat) : Int) := by rw [ha.out, List.take_of_length_le (by omega)]
      have HE := Lib.hid he
      clear he ha
      go_wp2_with fail
      go_ret
      exact ⟨by rw [← HE.out]; rfl, rfl⟩

theorem norm_stripped {c : Nat} {e : Int} (h0 : c ≠ 0) (he : e ≤ 18) (hs : e = 18 ∨ c % 10 ≠ 0) : norm c e = if e < -18 then none else if c < Two64 then some (c, e) else none := by
  have hst : strip c e = (c, e) := strip_stay (by omega)
  unfold norm
  rw [if_neg h0, hst]
  simp only []
  by_cases hlo : e < -18
  · rw [if_pos hlo, if_pos hlo]
  · rw [if_neg hlo, if_neg hlo]
    by_cases h18 : 18 ≤ e
    · obtain rfl : e = 18 := by omega
      rw [if_pos h18]; simp
    · rw [if_neg h18]
theorem norm_over {c : Nat} {e : Int} (h0 : c ≠ 0) (he : 1000 < e) : norm c e = none := by
  have hst : strip c e = (c, e) := strip_stay (by omega)
  unfold norm
  rw [if_neg h0, hst]
  simp only []
  rw [if_neg (by omega), if_pos (by omega), if_neg]
  have h1 : 10 ^ 20 ≤ 10 ^ (e - 18).toNat := Nat.pow_le_pow_right (by decide) (by omega)
  have h2 : 1 * 10 ^ (e - 18).toNat ≤ c * 10 ^ (e - 18).toNat := Nat.mul_le_mul_right _ (by omega)
  have h3 := two64_ten
  omega
theorem norm_under {c : Nat} {e : Int} {m : Nat} (h0 : c ≠ 0) (hm : m ≤ 9000) (hc : c < 10 ^ m) (he : e < -1000000) : norm c e = none := by
  obtain ⟨k, h2, h1, hp, hk, hs⟩ := strip_spec c e (by omega)
  have hk2 : k < 9000 := by
    rcases Nat.lt_or_ge k m with h | h
    · omega
    · have h3 : 10 ^ m ≤ 10 ^ k := Nat.pow_le_pow_right (by decide) h
      have h4 : 1 * 10 ^ k ≤ (strip c e).1 * 10 ^ k := Nat.mul_le_mul_right _ hp
      omega
  unfold norm
  rw [if_neg h0, if_pos (by omega)]

/-- What Make tells. -/
def made (neg : Bool) (c : Nat) (e : Int) : D × Bool := match norm c e with | none => (D0, false) | some q => (mkD neg q, true)

set_option maxRecDepth 100000 in
set_option maxHeartbeats 8000000 in
theorem make_calls (neg : Bool) (s : ByteArray) (l : List UInt8) (hs : Str s l) (hd : Digs l) (hl : l.length ≤ 9000) (x : Int) (_hx0 : -9223372036854775808 ≤ x) (_hx1 : x ≤ 9223372036854775807) (w : World) :
    Calls Tryd.prog 47 #[.bool neg, .string s, .int .i64 x] w fun e w' => e = .returned (.tuple #[dV (made neg (val l) x).1, .bool (made neg (val l) x).2]) ∧ Below w.heap.size w w' := by
  have n0 := Box.new w 42 [.bool false, .int .u64 0, .int .i64 0]
  have kb : Below w.heap.size w (w.alloc (.cells #[.bool false, .int .u64 0, .int .i64 0] 42)) := (Below.refl _ _).alloc (Nat.le_refl _) _
  have HK := Lib.hid (And.intro n0 kb)
  have HS := Lib.hid hs
  have HD := Lib.hid hd
  have HL := Lib.hid hl
  have r0 := n0.cell 0
  have r1 := n0.cell 1
  have r2 := n0.cell 2
  simp only [List.getElem?_cons_zero, List.getElem?_cons_succ] at r0 r1 r2
  have g0 := n0.frozen 0
  have g1 := n0.frozen 1
  have g2 := n0.frozen 2
  clear n0 kb hs hd hl
  go_enter Tryd.func47, Tryd.ntmps47
  go_wp2_with fail
  obtain ⟨W, hW⟩ : ∃ W, W = w.alloc (.cells #[.bool false, .int .u64 0, .int .i64 0] 42) := ⟨_, rfl⟩
  rw [← hW] at HK r0 r1 r2 g0 g1 g2 ⊢
  clear hW
  have hst : ∀ a b c, Box (((W.setCell ⟨w.heap.size, 0, none⟩ a).setCell ⟨w.heap.size, 1, none⟩ b).setCell ⟨w.heap.size, 2, none⟩ c) w.heap.size 42 [a, b, c] ∧ Below w.heap.size w (((W.setCell ⟨w.heap.size, 0, none⟩ a).setCell ⟨w.heap.size, 1, none⟩ b).setCell ⟨w.heap.size, 2, none⟩ c) := fun a b c => ⟨((HK.out.1.set 0 a).set 1 b).set 2 c, below_set (below_set (below_set HK.out.2 (Nat.le_refl _) _ _) (Nat.le_refl _) _ _) (Nat.le_refl _) _ _⟩
  have HST := Lib.hid hst
  clear hst
  go_loopw [1] (fun v1 wr => ∃ (t : ByteArray) (m : List UInt8), v1 = .string t ∧ W = wr ∧ Hid (Str t m ∧ Digs m ∧ bare m = bare l ∧ m.length ≤ 9000)) (fun v1 _ => match v1 with | .string t => t.size | _ => 0)
  case atStart => exact ⟨s, l, rfl, rfl, HS.out, HD.out, rfl, HL.out⟩
  case round =>
    obtain ⟨t, m, rfl, rfl, hh⟩ := hrel
    obtain ⟨ht, hdm, hbm, hlm⟩ := hh.out
    have htz := ht.size
    cases m with
    | nil =>
      have hv0 : val l = 0 := by rw [← val_bare l, ← hbm]; rfl
      have hmade : made neg (val l) x = (D0, true) := by unfold made; rw [hv0, norm_zero]; rfl
      have h1 : ¬ (0 : Int) < (t.size : Int) := by rw [htz]; simp
      have h2 : t.toList = [] := ht.toList
      have HM := Lib.hid hmade
      clear ht hdm hbm hlm htz hv0 hmade hh
      go_wp2_with fail
      exact ret_dec rfl rfl rfl rfl (HST.out _ _ _).1 ⟨by rw [HM.out]; rfl, (HST.out _ _ _).2⟩
    | cons b r =>
      have h1 : (0 : Int) < (t.size : Int) := by rw [htz]; simp; try omega
      have hidx := ht.index (i := 0) 0 rfl (by simp)
      simp only [List.getElem_cons_zero] at hidx
      obtain ⟨z, hzb⟩ : ∃ z : Int, z = (b.toNat : Int) := ⟨_, rfl⟩
      rw [← hzb] at hidx
      by_cases h48 : z = 48
      · subst h48
        obtain ⟨u, hu, hsl⟩ := ht.from_ (i := 1) 1 rfl (by simp)
        have HU := Lib.hid (And.intro (show Str u r from hu) (And.intro (show Digs r from fun y hy => hdm y (by simp [hy])) (And.intro (show bare r = bare l by rw [← hbm, bare_cons, if_pos (by omega)]) (show r.length ≤ 9000 by simp at hlm; omega))))
        have HZ := Lib.hid (show t.size = r.length + 1 by rw [htz]; simp)
        clear ht hdm hbm hlm htz hzb hu hh
        go_wp2_with fail
        exact ⟨⟨u, r, rfl, by trivial, HU.out⟩, by show u.size < t.size; rw [HU.out.1.size]; have := HZ.out; omega⟩
      · have hlead : Lead (b :: r) := ⟨hdm, b, r, rfl, by omega⟩
        have hval : val (b :: r) = val l := by rw [← val_bare (b :: r), hbm, val_bare]
        have hne : (t.toList == []) = false := by rw [ht.toList]; rfl
        have e48 : (z == 48) = false := by simp [h48]
        have HM0 := Lib.hid (And.intro ht (And.intro hlead (And.intro hval hlm)))
        clear ht hdm hbm hlm htz hzb hh hlead hval
        by_cases hov : 1000 < x
        · have hmade : made neg (val l) x = (D0, false) := by unfold made; rw [← HM0.out.2.2.1, norm_over HM0.out.2.1.pos hov]
          have HM := Lib.hid hmade
          clear hmade
          go_wp2_with fail
          exact ret_dec rfl rfl rfl rfl (HST.out _ _ _).1 ⟨by rw [HM.out]; rfl, (HST.out _ _ _).2⟩
        · by_cases hun : x < -1000000
          · have hmade : made neg (val l) x = (D0, false) := by
              unfold made
              rw [← HM0.out.2.2.1, norm_under HM0.out.2.1.pos HM0.out.2.2.2 (val_lt HM0.out.2.1.1) hun]
            have HM := Lib.hid hmade
            clear hmade
            go_wp2_with fail
            exact ret_dec rfl rfl rfl rfl (HST.out _ _ _).1 ⟨by rw [HM.out]; rfl, (HST.out _ _ _).2⟩
          · go_wp2_with fail
            clear hidx h1 e48 h48 hne
            -- zeros at the end
            go_loopw [1, 2] (fun v1 v2 wr => ∃ (t : ByteArray) (m : List UInt8) (e : Int), v1 = .string t ∧ v2 = .int .i64 e ∧ W = wr ∧ -1000000 ≤ e ∧ e ≤ 1000 ∧ Hid (Str t m ∧ Lead m ∧ m.length ≤ 9000 ∧ norm (val m) e = norm (val l) x)) (fun v1 _ _ => match v1 with | .string t => t.size | _ => 0)
            case atStart => exact ⟨t, b :: r, x, rfl, rfl, rfl, by omega, by omega, HM0.out.1, HM0.out.2.1, HM0.out.2.2.2, by rw [HM0.out.2.2.1]⟩
            case round =>
              obtain ⟨t2, m, e, rfl, rfl, rfl, he0, he1, hh⟩ := hrel
              clear HM0
              obtain ⟨ht, hlead, hlm, hnm⟩ := hh.out
              obtain ⟨a, y, rfl, hy⟩ := hlead.last
              have htz := ht.size
              rw [List.length_append, List.length_singleton] at htz
              have hsz : (t2.size : Int) ≤ 9000 := by simp at hlm; omega
              have hsz1 : (1 : Int) ≤ (t2.size : Int) := by omega
              have hidx := ht.index (i := (t2.size : Int) - 1) a.length (by omega) (by simp)
              rw [List.getElem_append_right (Nat.le_refl _)] at hidx
              simp only [Nat.sub_self, List.getElem_cons_zero] at hidx
              obtain ⟨z2, hz2⟩ : ∃ z : Int, z = (y.toNat : Int) := ⟨_, rfl⟩
              rw [← hz2] at hidx
              by_cases h18 : e < 18
              · by_cases h48 : z2 = 48
                · subst h48
                  obtain rfl : y = 48 := UInt8.toNat_inj.1 (by show y.toNat = 48; omega)
                  obtain ⟨u, hu, hsl⟩ := ht.to_ (j := (t2.size : Int) - 1) a.length (by omega) (by simp)
                  rw [List.take_left] at hu
                  have hn2 : norm (val a) (e + 1) = norm (val l) x := by
                    rw [← hnm, val_snoc, ← norm_ten]
                    congr 1
                    show val a * 10 = 10 * val a + (48 - 48)
                    omega
                  have HU := Lib.hid (And.intro hu (And.intro hlead.cut (And.intro (show a.length ≤ 9000 by simp at hlm; omega) hn2)))
                  have HZ := Lib.hid htz
                  clear ht hlead hlm hnm hy htz hz2 hu hn2 hh
                  go_wp2_with fail
                  exact ⟨⟨u, a, e + 1, rfl, by go_num, by trivial, by omega, by omega, HU.out⟩, by show u.size < t2.size; rw [HU.out.1.size]; have := HZ.out; omega⟩
                · have e48 : (z2 == 48) = false := by simp [h48]
                  have hm10 : val (a ++ [y]) % 10 ≠ 0 := by rw [Ne, val_last hy]; omega
                  have HU := Lib.hid (And.intro ht (And.intro hlead (And.intro hlm (And.intro hnm (show e = 18 ∨ val (a ++ [y]) % 10 ≠ 0 from Or.inr hm10)))))
                  generalize a ++ [y] = m at HU
                  clear ht hlead hlm hnm hy htz hz2 hm10 hh
                  go_wp2_with fail
                  clear hidx
                  go_loopw [1, 2] (fun v1 v2 wr => ∃ (t : ByteArray) (m : List UInt8) (e : Int), v1 = .string t ∧ v2 = .int .i64 e ∧ W = wr ∧ -1000000 ≤ e ∧ e ≤ 1000 ∧ (t.size : Int) + e ≤ 20000 ∧ (t.size : Int) ≤ 20000 ∧ Hid (Str t m ∧ Lead m ∧ norm (val m) e = norm (val l) x ∧ (18 ≤ e ∨ val m % 10 ≠ 0))) (fun _ v2 _ => (intOf v2 - 18).toNat)
                  case atStart => exact ⟨t2, m, e, rfl, rfl, rfl, he0, he1, by omega, by omega, HU.out.1, HU.out.2.1, HU.out.2.2.2.1, by have := HU.out.2.2.2.2; omega⟩
                  case round =>
                    obtain ⟨t3, m3, e3, rfl, rfl, rfl, hf0, hf1, hf2, hf3, hh3⟩ := hrel
                    clear HU he0 he1
                    by_cases hgt : 18 < e3
                    · have hm3 : (0 : Int) < 1 := by omega
                      have HH3 := Lib.hid hh3.out
                      clear hh3
                      go_wp2_with fail
                      have hst := HH3.out.1.append (show Str ⟨#[48]⟩ [48] from rfl)
                      have hsz3 := hst.size
                      have hsz4 := HH3.out.1.size
                      rw [List.length_append, List.length_singleton] at hsz3
                      refine ⟨⟨_, m3 ++ [48], e3 - 1, rfl, by go_num, by trivial, by omega, by omega, by omega, by omega, hst, HH3.out.2.1.snoc, ?_, Or.inl (by omega)⟩, by simp [intOf]; omega⟩
                      rw [val_snoc, ← HH3.out.2.2.1, show 10 * val m3 + ((48 : UInt8).toNat - 48) = val m3 * 10 by show 10 * val m3 + (48 - 48) = _; omega, norm_ten]
                      congr 1
                      omega
                    · obtain ⟨k1, k2, k3, k4⟩ := hh3.out
                      have hns := norm_stripped (c := val m3) (e := e3) k2.pos (by omega) (by omega)
                      have hmade : made neg (val l) x = if e3 < -18 then (D0, false) else if val m3 < Two64 then (mkD neg (val m3, e3), true) else (D0, false) := by
                        unfold made
                        rw [← k3, hns]
                        by_cases p1 : e3 < -18
                        · rw [if_pos p1, if_pos p1]
                        · rw [if_neg p1, if_neg p1]
                          by_cases p2 : val m3 < Two64
                          · rw [if_pos p2, if_pos p2]
                          · rw [if_neg p2, if_neg p2]
                      have hlen3 : m3.length ≤ 50000 := by have := k1.size; omega
                      have HF := Lib.hid (fits_calls t3 m3 k1 hlen3 W)
                      rw [fits_is k2] at HF
                      have HM := Lib.hid hmade
                      have HV := Lib.hid (fun hv => value_calls t3 m3 k1 k2.1 hv hlen3 W)
                      have HP := Lib.hid k2.pos
                      clear hh3 k1 k2 k3 k4 hns hmade hlen3
                      by_cases hlo : e3 < -18
                      · go_wp2_with fail
                        exact ret_dec rfl rfl rfl rfl (HST.out _ _ _).1 ⟨by rw [HM.out, if_pos hlo]; rfl, (HST.out _ _ _).2⟩
                      · by_cases hfit : val m3 < Two64
                        · have hd : decide (val m3 < Two64) = true := by simp [hfit]
                          rw [hd] at HF
                          go_wp2_with fail
                          refine HF.out.mono ?_
                          rintro e4 w4 ⟨rfl, rfl⟩
                          have HVV := Lib.hid (HV.out hfit)
                          obtain ⟨q, hq⟩ : ∃ q : Int, q = ((val m3 : Nat) : Int) := ⟨_, rfl⟩
                          rw [← hq] at HVV
                          have HQ := Lib.hid hq
                          clear hq HV HF
                          go_wp2_with fail
                          refine HVV.out.mono ?_
                          rintro e4 w4 ⟨rfl, rfl⟩
                          go_wp2_with fail
                          refine ret_dec rfl rfl rfl rfl (HST.out _ _ _).1 ⟨?_, (HST.out _ _ _).2⟩
                          rw [HM.out, if_neg (by omega), if_pos hfit, HQ.out]
                          unfold mkD dV
                          simp only [if_neg HP.out]
                          rfl
                        · have hd : decide (val m3 < Two64) = false := by simp [hfit]
                          rw [hd] at HF
                          go_wp2_with fail
                          refine HF.out.mono ?_
                          rintro e4 w4 ⟨rfl, rfl⟩
                          go_wp2_with fail
                          exact ret_dec rfl rfl rfl rfl (HST.out _ _ _).1 ⟨by rw [HM.out, if_neg (by omega), if_neg hfit]; rfl, (HST.out _ _ _).2⟩
              · have HU := Lib.hid (And.intro ht (And.intro hlead (And.intro hlm hnm)))
                generalize a ++ [y] = m at HU
                clear ht hlead hlm hnm hy htz hz2 hh
                go_wp2_with fail
                clear hidx
                go_loopw [1, 2] (fun v1 v2 wr => ∃ (t : ByteArray) (m : List UInt8) (e : Int), v1 = .string t ∧ v2 = .int .i64 e ∧ W = wr ∧ -1000000 ≤ e ∧ e ≤ 1000 ∧ (t.size : Int) + e ≤ 20000 ∧ (t.size : Int) ≤ 20000 ∧ Hid (Str t m ∧ Lead m ∧ norm (val m) e = norm (val l) x ∧ (18 ≤ e ∨ val m % 10 ≠ 0))) (fun _ v2 _ => (intOf v2 - 18).toNat)
                case atStart => exact ⟨t2, m, e, rfl, rfl, rfl, he0, he1, by omega, by omega, HU.out.1, HU.out.2.1, HU.out.2.2.2, by omega⟩
                case round =>
                  obtain ⟨t3, m3, e3, rfl, rfl, rfl, hf0, hf1, hf2, hf3, hh3⟩ := hrel
                  clear HU he0 he1
                  by_cases hgt : 18 < e3
                  · have hm3 : (0 : Int) < 1 := by omega
                    have HH3 := Lib.hid hh3.out
                    clear hh3
                    go_wp2_with fail
                    have hst := HH3.out.1.append (show Str ⟨#[48]⟩ [48] from rfl)
                    have hsz3 := hst.size
                    have hsz4 := HH3.out.1.size
                    rw [List.length_append, List.length_singleton] at hsz3
                    refine ⟨⟨_, m3 ++ [48], e3 - 1, rfl, by go_num, by trivial, by omega, by omega, by omega, by omega, hst, HH3.out.2.1.snoc, ?_, Or.inl (by omega)⟩, by simp [intOf]; omega⟩
                    rw [val_snoc, ← HH3.out.2.2.1, show 10 * val m3 + ((48 : UInt8).toNat - 48) = val m3 * 10 by show 10 * val m3 + (48 - 48) = _; omega, norm_ten]
                    congr 1
                    omega
                  · obtain ⟨k1, k2, k3, k4⟩ := hh3.out
                    have hns := norm_stripped (c := val m3) (e := e3) k2.pos (by omega) (by omega)
                    have hmade : made neg (val l) x = if e3 < -18 then (D0, false) else if val m3 < Two64 then (mkD neg (val m3, e3), true) else (D0, false) := by
                      unfold made
                      rw [← k3, hns]
                      by_cases p1 : e3 < -18
                      · rw [if_pos p1, if_pos p1]
                      · rw [if_neg p1, if_neg p1]
                        by_cases p2 : val m3 < Two64
                        · rw [if_pos p2, if_pos p2]
                        · rw [if_neg p2, if_neg p2]
                    have hlen3 : m3.length ≤ 50000 := by have := k1.size; omega
                    have HF := Lib.hid (fits_calls t3 m3 k1 hlen3 W)
                    rw [fits_is k2] at HF
                    have HM := Lib.hid hmade
                    have HV := Lib.hid (fun hv => value_calls t3 m3 k1 k2.1 hv hlen3 W)
                    have HP := Lib.hid k2.pos
                    clear hh3 k1 k2 k3 k4 hns hmade hlen3
                    by_cases hlo : e3 < -18
                    · go_wp2_with fail
                      exact ret_dec rfl rfl rfl rfl (HST.out _ _ _).1 ⟨by rw [HM.out, if_pos hlo]; rfl, (HST.out _ _ _).2⟩
                    · by_cases hfit : val m3 < Two64
                      · have hd : decide (val m3 < Two64) = true := by simp [hfit]
                        rw [hd] at HF
                        go_wp2_with fail
                        refine HF.out.mono ?_
                        rintro e4 w4 ⟨rfl, rfl⟩
                        have HVV := Lib.hid (HV.out hfit)
                        obtain ⟨q, hq⟩ : ∃ q : Int, q = ((val m3 : Nat) : Int) := ⟨_, rfl⟩
                        rw [← hq] at HVV
                        have HQ := Lib.hid hq
                        clear hq HV HF
                        go_wp2_with fail
                        refine HVV.out.mono ?_
                        rintro e4 w4 ⟨rfl, rfl⟩
                        go_wp2_with fail
                        refine ret_dec rfl rfl rfl rfl (HST.out _ _ _).1 ⟨?_, (HST.out _ _ _).2⟩
                        rw [HM.out, if_neg (by omega), if_pos hfit, HQ.out]
                        unfold mkD dV
                        simp only [if_neg HP.out]
                        rfl
                      · have hd : decide (val m3 < Two64) = false := by simp [hfit]
                        rw [hd] at HF
                        go_wp2_with fail
                        refine HF.out.mono ?_
                        rintro e4 w4 ⟨rfl, rfl⟩
                        go_wp2_with fail
                        exact ret_dec rfl rfl rfl rfl (HST.out _ _ _).1 ⟨by rw [HM.out, if_neg (by omega), if_neg hfit]; rfl, (HST.out _ _ _).2⟩
end Go.Proofs.YtmaiggoinjldpaaDoor.Dc
