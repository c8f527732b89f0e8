/-
  DParse, DRefParse. No statement of the seat is proved here.
-/
import Derived.Test.YtmaiggoinjldpaaDoorDNumber
import Derived.Test.YtmaiggoinjldpaaDoorGrMRows
import Derived.WalkMore
import Derived.Test.YtmaiggoinjldpaaDoorDRefMake
/-
  Contract of package dec's Parse. No statement of the seat is proved here.
-/
namespace Go.Proofs.YtmaiggoinjldpaaDoor.Dc
open Go.RowKit

theorem taking_calls (w : World) (g : Nat) : Calls Tryd.prog 32 #[.pointer (some ⟨g, 0, none⟩)] w fun e w' => e = .returned (.func (.func 58) #[] #[.pointer (some ⟨w.heap.size, 0, none⟩)]) ∧ w' = w.alloc (.cells #[.pointer (some ⟨g, 0, none⟩)] 73) := by
  have hmf : ∀ (fn : Fn) (first cap : Array Value) (w : World), (Instr.makeFunc fn first cap).run Tryd.prog w = .ok (.func fn first cap) w := fun _ _ _ _ => rfl
  go_enter Tryd.func32, Tryd.ntmps32
  go_wp2_with fail
  go_ret
  exact ⟨rfl, rfl⟩

/-- What holds while a text is gone through: w the world that Parse was called in. -/
structure PInv (w : World) (l : List UInt8) (i : Nat) (below point wanted : Bool) (v p : Nat) (wr : World) : Prop where
  at_ : i ≤ l.length
  rest : scan 0 false false true 0 0 l = scan i below point wanted v p (l.drop i)
  known : WAt wr (w.heap.size + 2) below point v p i
  boxed : Box wr (w.heap.size + 3) 73 [.pointer (some ⟨w.heap.size + 2, 0, none⟩)]
  dec : Box wr w.heap.size 42 [.bool false, .int .u64 0, .int .i64 0]
  fault : Box wr (w.heap.size + 1) 29 [.int .i64 0, .int .i64 0]
  kept : Below w.heap.size w wr

/-- Parse's results. -/
def fV (f : Int × Int) : Value := .agg #[.int .i64 f.1, .int .i64 f.2]
def Parses (w : World) (l : List UInt8) (e : Ending) (w' : World) : Prop := e = .returned (.tuple #[dV (parse l).1, fV (parse l).2]) ∧ Below w.heap.size w w'

theorem PInv.step {w : World} {l : List UInt8} {i : Nat} {below point wanted : Bool} {v p : Nat} {wr : World} (h : PInv w l i below point wanted v p wr) (hi : i < l.length) : scan 0 false false true 0 0 l = scan i below point wanted v p (l[i] :: l.drop (i + 1)) := by
  rw [h.rest, List.drop_eq_getElem_cons hi]

theorem Known.more {v p m coef zeros : Nat} {beyond : Bool} (h : Known v p m coef zeros beyond) : Known v p (m + 1) coef zeros beyond :=
  ⟨h.fits, by have := h.few; omega, by have := h.places; omega, h.plain, h.great⟩

section
variable {w : World} {l : List UInt8} {i : Nat} {below point wanted : Bool} {v p : Nat} {wr w3 : World} {b : UInt8}
theorem PInv.digit (h : PInv w l i below point wanted v p wr) (hi : i < l.length) (hst : scan 0 false false true 0 0 l = scan i below point wanted v p (b :: l.drop (i + 1))) (hb : 48 ≤ b.toNat ∧ b.toNat ≤ 57)
    (hk : WAt w3 (w.heap.size + 2) below point (10 * v + (b.toNat - 48)) (if point then p + 1 else p) (i + 1)) (hbt : But (w.heap.size + 2) wr w3) : PInv w l (i + 1) below point false (10 * v + (b.toNat - 48)) (if point then p + 1 else p) w3 :=
  ⟨hi, by rw [hst, scan, if_pos hb], hk, h.boxed.but hbt (by omega), h.dec.but hbt (by omega), h.fault.but hbt (by omega), h.kept.trans (hbt.below (by omega) h.kept.size)⟩
theorem PInv.set (h : PInv w l i below point wanted v p wr) (hi : i < l.length) (k : Nat) (u : Value) (below' point' wanted' : Bool) (hst : scan 0 false false true 0 0 l = scan (i + 1) below' point' wanted' v p (l.drop (i + 1)))
    (hk : WAt (wr.setCell ⟨w.heap.size + 2, k, none⟩ u) (w.heap.size + 2) below' point' v p (i + 1)) : PInv w l (i + 1) below' point' wanted' v p (wr.setCell ⟨w.heap.size + 2, k, none⟩ u) :=
  have hbt : But (w.heap.size + 2) wr (wr.setCell ⟨w.heap.size + 2, k, none⟩ u) := (But.refl _ _).set k u
  ⟨hi, hst, hk, h.boxed.but hbt (by omega), h.dec.but hbt (by omega), h.fault.but hbt (by omega), h.kept.trans (hbt.below (by omega) h.kept.size)⟩
end

/-- The results, as they are stored. -/
def stored (w wr : World) (a b c x y : Value) : World := ((((wr.setCell ⟨w.heap.size, 0, none⟩ a).setCell ⟨w.heap.size, 1, none⟩ b).setCell ⟨w.heap.size, 2, none⟩ c).setCell ⟨w.heap.size + 1, 0, none⟩ x).setCell ⟨w.heap.size + 1, 1, none⟩ y
theorem stored_is {w wr : World} {d0 d1 d2 f0 f1 : Value} (hd : Box wr w.heap.size 42 [d0, d1, d2]) (hf : Box wr (w.heap.size + 1) 29 [f0, f1]) (hk : Below w.heap.size w wr) (a b c x y : Value) :
    Box (stored w wr a b c x y) w.heap.size 42 [a, b, c] ∧ Box (stored w wr a b c x y) (w.heap.size + 1) 29 [x, y] ∧ Below w.heap.size w (stored w wr a b c x y) := by
  have hne : w.heap.size ≠ w.heap.size + 1 := by omega
  have hne2 : w.heap.size + 1 ≠ w.heap.size := by omega
  refine ⟨?_, ?_, ?_⟩
  · exact ((((hd.set 0 a).set 1 b).set 2 c).far (q := ⟨w.heap.size + 1, 0, none⟩) hne x).far (q := ⟨w.heap.size + 1, 1, none⟩) hne y
  · exact ((((hf.far (q := ⟨w.heap.size, 0, none⟩) hne2 a).far (q := ⟨w.heap.size, 1, none⟩) hne2 b).far (q := ⟨w.heap.size, 2, none⟩) hne2 c).set 0 x).set 1 y
  · exact below_set (below_set (below_set (below_set (below_set hk (Nat.le_refl _) _ _) (Nat.le_refl _) _ _) (Nat.le_refl _) _ _) (by omega) _ _) (by omega) _ _

set_option maxRecDepth 100000 in
set_option maxHeartbeats 8000000 in
theorem parse_calls (s : ByteArray) (l : List UInt8) (hs : Str s l) (hl : l.length ≤ 9000) (w : World) : Calls Tryd.prog 16 #[.string s] w (Parses w l) := by
  have hz := hs.size
  have HS := Lib.hid hs
  have HL := Lib.hid hl
  have hF : ∀ args w, (callFunc 58 args).run Tryd.prog w = .ok (.enter 58 args) w := fun _ _ => by kernel_rfl
  have HF := Lib.hid hF
  have HZ := Lib.hid hz
  have hsz : (s.size : Int) ≤ 9000 := by omega
  clear hs hl hF hz
  go_enter Tryd.func16, Tryd.ntmps16
  go_wp2_with fail
  go_step3
  go_wp2_with fail
  refine (taking_calls _ _).mono ?_
  rintro e w1 ⟨rfl, hw1⟩
  rw [show (((w.alloc (.cells #[.bool false, .int .u64 0, .int .i64 0] 42)).alloc (.cells #[.int .i64 0, .int .i64 0] 29)).alloc (.cells #[.bool false, .bool false, .int .i64 0, .int .u64 0, .int .i64 0, .bool false] 70)).heap.size = w.heap.size + 3 by simp]
  try rw [show w.heap.size + 1 + 1 = w.heap.size + 2 from rfl]
  have HI := Lib.hid (show PInv w l 0 false false true 0 0 w1 from by
    rw [hw1]
    have s1 := size_alloc w (.cells #[.bool false, .int .u64 0, .int .i64 0] 42)
    have s2 := size_alloc (w.alloc (.cells #[.bool false, .int .u64 0, .int .i64 0] 42)) (.cells #[.int .i64 0, .int .i64 0] 29)
    have s3 := size_alloc ((w.alloc (.cells #[.bool false, .int .u64 0, .int .i64 0] 42)).alloc (.cells #[.int .i64 0, .int .i64 0] 29)) (.cells #[.bool false, .bool false, .int .i64 0, .int .u64 0, .int .i64 0, .bool false] 70)
    rw [s1] at s2
    rw [s2] at s3
    refine ⟨by omega, rfl, ⟨0, 0, false, ?_, ⟨by decide, by omega, by omega, fun _ => by simp, fun h => by cases h⟩⟩, ?_, ?_, ?_, ?_⟩
    · have := (Box.new ((w.alloc (.cells #[.bool false, .int .u64 0, .int .i64 0] 42)).alloc (.cells #[.int .i64 0, .int .i64 0] 29)) 70 [.bool false, .bool false, .int .i64 0, .int .u64 0, .int .i64 0, .bool false]).alloc (.cells #[.pointer (some ⟨w.heap.size + 2, 0, none⟩)] 73)
      rw [s2] at this
      exact this
    · have := Box.new (((w.alloc (.cells #[.bool false, .int .u64 0, .int .i64 0] 42)).alloc (.cells #[.int .i64 0, .int .i64 0] 29)).alloc (.cells #[.bool false, .bool false, .int .i64 0, .int .u64 0, .int .i64 0, .bool false] 70)) 73 [.pointer (some ⟨w.heap.size + 2, 0, none⟩)]
      rw [s3] at this
      exact this
    · exact (((Box.new w 42 [.bool false, .int .u64 0, .int .i64 0]).alloc _).alloc _).alloc _
    · have := ((Box.new (w.alloc (.cells #[.bool false, .int .u64 0, .int .i64 0] 42)) 29 [.int .i64 0, .int .i64 0]).alloc (.cells #[.bool false, .bool false, .int .i64 0, .int .u64 0, .int .i64 0, .bool false] 70)).alloc (.cells #[.pointer (some ⟨w.heap.size + 2, 0, none⟩)] 73)
      rw [s1] at this
      exact this
    · exact ((((Below.refl _ _).alloc (Nat.le_refl _) _).alloc (by omega) _).alloc (by omega) _).alloc (by omega) _)
  clear hw1
  go_wp2_with fail
  rw [show w.heap.size + 1 + 1 = w.heap.size + 2 from rfl]
  go_step3
  go_wp2_with fail
  go_loopw [6, 7] (fun v6 v7 wr => ∃ (i : Nat) (below point wanted : Bool) (v p : Nat), v6 = .bool wanted ∧ v7 = .int .i64 i ∧ PInv w l i below point wanted v p wr) (fun _ v7 _ => l.length - (intOf v7).toNat)
  case atStart => exact ⟨0, false, false, true, 0, 0, rfl, rfl, HI.out⟩
  case round =>
    obtain ⟨i, below, point, wanted, v, p, rfl, rfl, hI⟩ := hrel
    have HII := Lib.hid hI
    clear hI HI
    have hil : (i : Int) ≤ 9000 := by have := HII.out.at_; have := HL.out; omega
    have d0 : wr.cell? ⟨w.heap.size, 0, none⟩ = some (.bool false) := HII.out.dec.cell 0
    have d1 : wr.cell? ⟨w.heap.size, 1, none⟩ = some (.int .u64 0) := HII.out.dec.cell 1
    have d2 : wr.cell? ⟨w.heap.size, 2, none⟩ = some (.int .i64 0) := HII.out.dec.cell 2
    have e0 := HII.out.dec.frozen 0
    have e1 := HII.out.dec.frozen 1
    have e2 := HII.out.dec.frozen 2
    have a0 : wr.cell? ⟨w.heap.size + 1, 0, none⟩ = some (.int .i64 0) := HII.out.fault.cell 0
    have a1 : wr.cell? ⟨w.heap.size + 1, 1, none⟩ = some (.int .i64 0) := HII.out.fault.cell 1
    have b0 := HII.out.fault.frozen 0
    have b1 := HII.out.fault.frozen 1
    have HFIN := Lib.hid (stored_is HII.out.dec HII.out.fault HII.out.kept)
    by_cases hend : i = l.length
    · have hsi : ((i : Int) == (s.size : Int)) = true := by have := HZ.out; simp; omega
      have hpar : scan 0 false false true 0 0 l = if wanted then .bad 11 i else .ok below v p := by
        rw [HII.out.rest, hend, List.drop_length]; rfl
      have HPA := Lib.hid hpar
      clear hpar
      have HEQ := Lib.hid (show (s.size : Int) = (i : Int) by have := HZ.out; omega)
      clear hend
      cases wanted
      · have HNU := Lib.hid (number_calls wr (w.heap.size + 2) below point v p i (by omega) HII.out.known)
        have hpr : parse l = numbered below v p := by unfold parse numbered; rw [HPA.out]; rfl
        obtain ⟨R, hR⟩ : ∃ R, R = (numbered below v p).1 := ⟨_, rfl⟩
        obtain ⟨E, hE⟩ : ∃ E, E = (numbered below v p).2.1 := ⟨_, rfl⟩
        have hE0 : (numbered below v p).2.2 = 0 := by unfold numbered; rw [show told (.ok below v p) = match norm v (-(p : Int)) with | none => (D0, 10, 0) | some q => (mkD below q, 0, 0) from rfl]; cases norm v (-(p : Int)) <;> rfl
        have HPR := Lib.hid (show parse l = (R, E, 0) by rw [hpr, hR, hE, ← hE0])
        rw [← hR, ← hE] at HNU
        unfold dV at HNU
        clear hpr hR hE hE0 HPA d0 d1 d2 e0 e1 e2 a0 a1 b0 b1 HFIN
        go_wp2_with fail
        refine HNU.out.mono ?_
        rintro e w3 ⟨rfl, hb⟩
        have k1 := HII.out.dec.keep hb
        have k2 := HII.out.fault.keep hb
        have k3 := below_then HII.out.kept hb
        have hlt : w.heap.size + 1 < w3.heap.size := k2.lt
        clear HNU HII hb
        have k1' := k1.alloc (.cells #[.bool R.neg, .int .u64 R.c, .int .i64 R.e] 42)
        have k2' := k2.alloc (.cells #[.bool R.neg, .int .u64 R.c, .int .i64 R.e] 42)
        have d0 : (w3.alloc (.cells #[.bool R.neg, .int .u64 R.c, .int .i64 R.e] 42)).cell? ⟨w.heap.size, 0, none⟩ = some (.bool false) := k1'.cell 0
        have d1 : (w3.alloc (.cells #[.bool R.neg, .int .u64 R.c, .int .i64 R.e] 42)).cell? ⟨w.heap.size, 1, none⟩ = some (.int .u64 0) := k1'.cell 1
        have d2 : (w3.alloc (.cells #[.bool R.neg, .int .u64 R.c, .int .i64 R.e] 42)).cell? ⟨w.heap.size, 2, none⟩ = some (.int .i64 0) := k1'.cell 2
        have e0 := k1'.frozen 0
        have e1 := k1'.frozen 1
        have e2 := k1'.frozen 2
        have a0 : (w3.alloc (.cells #[.bool R.neg, .int .u64 R.c, .int .i64 R.e] 42)).cell? ⟨w.heap.size + 1, 0, none⟩ = some (.int .i64 0) := k2'.cell 0
        have a1 : (w3.alloc (.cells #[.bool R.neg, .int .u64 R.c, .int .i64 R.e] 42)).cell? ⟨w.heap.size + 1, 1, none⟩ = some (.int .i64 0) := k2'.cell 1
        have b0 := k2'.frozen 0
        have b1 := k2'.frozen 1
        clear k1' k2'
        have HKK := Lib.hid (stored_is (k1.alloc (.cells #[.bool R.neg, .int .u64 R.c, .int .i64 R.e] 42)) (k2.alloc _) (k3.alloc (by omega) _))
        clear k1 k2 k3
        go_wp2_with fail
        rw [Exit.noGoto_ret]
        exact ret_decs rfl rfl rfl rfl (HKK.out _ _ _ _ _).1 (HKK.out _ _ _ _ _).2.1 ⟨by rw [HPR.out]; rfl, (HKK.out _ _ _ _ _).2.2⟩
      · have HPL := Lib.hid (show parse l = (D0, 11, (i : Int)) by unfold parse; rw [HPA.out]; rfl)
        go_wp2_with fail
        exact ret_decs rfl rfl rfl rfl (HFIN.out _ _ _ _ _).1 (HFIN.out _ _ _ _ _).2.1 ⟨by rw [HPL.out]; rfl, (HFIN.out _ _ _ _ _).2.2⟩
    · have hlt : i < l.length := by have := HII.out.at_; omega
      have hsi : ((i : Int) == (s.size : Int)) = false := by have := HZ.out; simp; omega
      have hidx := HS.out.index (i := (i : Int)) i rfl hlt
      have hst := HII.out.step hlt
      generalize l[i] = b at hidx hst
      obtain ⟨z, hzb⟩ : ∃ z : Int, z = (b.toNat : Int) := ⟨_, rfl⟩
      rw [← hzb] at hidx
      have hz0 : 0 ≤ z ∧ z ≤ 255 := by have := b.toNat_lt; omega
      have HZB := Lib.hid hzb
      have HST := Lib.hid hst
      have HLT := Lib.hid hlt
      have hdg : (48 ≤ z ∧ z ≤ 57) ↔ (48 ≤ b.toNat ∧ b.toNat ≤ 57) := by omega
      have HDG := Lib.hid hdg
      have hbad : ¬ (48 ≤ z ∧ z ≤ 57) → ¬ (z = 46 ∧ wanted = false ∧ point = false) → ¬ (z = 45 ∧ i = 0) → parse l = (D0, 14, (i : Int)) := fun h1 h2 h3 => by
        unfold parse
        rw [HST.out, scan, if_neg (by rw [← hdg]; exact h1), if_neg (by rintro ⟨k1, k2⟩; exact h2 ⟨by omega, k2⟩), if_neg (by rintro ⟨k1, k2⟩; exact h3 ⟨by omega, k2⟩)]
        rfl
      have HBAD := Lib.hid hbad
      clear hbad hdg hlt hst hzb hend
      by_cases hd : 48 ≤ z ∧ z ≤ 57
      · have hd1 := hd.1
        have hd2 := hd.2
        have hsub : IntKind.u8.wrap (z - 48) = z - 48 := by rw [IntKind.wrap_u8']; omega
        have hbn : b.toNat - 48 ≤ 9 := by have := HZB.out; omega
        have HTK := Lib.hid (take_calls wr (w.heap.size + 2) (w.heap.size + 3) below point v p i (b.toNat - 48) hbn (by omega) HII.out.known HII.out.boxed (by omega))
        rw [show (((b.toNat - 48 : Nat)) : Int) = z - 48 by have := HZB.out; omega] at HTK
        go_wp2_with fail
        refine HTK.out.mono ?_
        rintro e w3 ⟨rfl, hwa, hbt⟩
        have HX := Lib.hid (And.intro hwa hbt)
        clear hwa hbt HTK
        go_wp2_with fail
        exact ⟨⟨i + 1, below, point, false, _, _, rfl, by go_num, HII.out.digit HLT.out HST.out (HDG.out.1 hd) HX.out.1 HX.out.2⟩, by have := HLT.out; simp [intOf]; omega⟩
      · have hdd : ((48 ≤ z) ∧ ¬ z ≤ 57) ∨ ¬ (48 ≤ z) := by omega
        by_cases h46 : z = 46
        · subst h46
          cases wanted
          · cases hp : point
            · subst hp
              obtain ⟨coef, zeros, beyond, hbx, hkn⟩ := HII.out.known
              have p1 : wr.cell? ⟨w.heap.size + 2, 1, none⟩ = some (.bool false) := hbx.cell 1
              have p2 := hbx.frozen 1
              have HBX := Lib.hid (And.intro hbx hkn)
              clear hbx hkn
              go_wp2_with fail
              refine ⟨⟨i + 1, below, true, true, v, p, rfl, by go_num, HII.out.set HLT.out 1 _ below true true ?_ ⟨coef, zeros, beyond, HBX.out.1.set 1 _, HBX.out.2.more⟩⟩, by have := HLT.out; simp [intOf]; omega⟩
              have hb46 := HZB.out
              rw [HST.out, scan, if_neg (by omega), if_pos ⟨by omega, rfl, rfl⟩]
            · subst hp
              obtain ⟨coef, zeros, beyond, hbx, hkn⟩ := HII.out.known
              have p1 : wr.cell? ⟨w.heap.size + 2, 1, none⟩ = some (.bool true) := hbx.cell 1
              have HPL := Lib.hid (HBAD.out (by omega) (by simp) (by omega))
              clear hbx hkn
              go_wp2_with fail
              exact ret_decs rfl rfl rfl rfl (HFIN.out _ _ _ _ _).1 (HFIN.out _ _ _ _ _).2.1 ⟨by rw [HPL.out]; rfl, (HFIN.out _ _ _ _ _).2.2⟩
          · have HPL := Lib.hid (HBAD.out (by omega) (by simp) (by omega))
            go_wp2_with fail
            exact ret_decs rfl rfl rfl rfl (HFIN.out _ _ _ _ _).1 (HFIN.out _ _ _ _ _).2.1 ⟨by rw [HPL.out]; rfl, (HFIN.out _ _ _ _ _).2.2⟩
        · have e46 : (z == 46) = false := by simp [h46]
          by_cases h45 : z = 45
          · subst h45
            by_cases hi0 : i = 0
            · have ei : ((i : Int) == 0) = true := by simp [hi0]
              have HI0 := Lib.hid hi0
              clear hi0
              obtain ⟨coef, zeros, beyond, hbx, hkn⟩ := HII.out.known
              have p1 : wr.cell? ⟨w.heap.size + 2, 0, none⟩ = some (.bool below) := hbx.cell 0
              have p2 := hbx.frozen 0
              have HBX := Lib.hid (And.intro hbx hkn)
              clear hbx hkn
              go_wp2_with fail
              refine ⟨⟨i + 1, true, point, wanted, v, p, rfl, by go_num, HII.out.set HLT.out 0 _ true point wanted ?_ ⟨coef, zeros, beyond, HBX.out.1.set 0 _, HBX.out.2.more⟩⟩, by have := HLT.out; simp [intOf]; omega⟩
              have hb45 := HZB.out
              rw [HST.out, scan, if_neg (by omega), if_neg (by omega), if_pos ⟨by omega, HI0.out⟩]
            · have ei : ((i : Int) == 0) = false := by simp; omega
              have HPL := Lib.hid (HBAD.out (by omega) (by omega) (by omega))
              go_wp2_with fail
              exact ret_decs rfl rfl rfl rfl (HFIN.out _ _ _ _ _).1 (HFIN.out _ _ _ _ _).2.1 ⟨by rw [HPL.out]; rfl, (HFIN.out _ _ _ _ _).2.2⟩
          · have e45 : (z == 45) = false := by simp [h45]
            have HPL := Lib.hid (HBAD.out hd (by omega) (by omega))
            rcases hdd with ⟨k1, k2⟩ | k1
            · go_wp2_with fail
              exact ret_decs rfl rfl rfl rfl (HFIN.out _ _ _ _ _).1 (HFIN.out _ _ _ _ _).2.1 ⟨by rw [HPL.out]; rfl, (HFIN.out _ _ _ _ _).2.2⟩
            · go_wp2_with fail
              exact ret_decs rfl rfl rfl rfl (HFIN.out _ _ _ _ _).1 (HFIN.out _ _ _ _ _).2.1 ⟨by rw [HPL.out]; rfl, (HFIN.out _ _ _ _ _).2.2⟩
end Go.Proofs.YtmaiggoinjldpaaDoor.Dc

/-
  Contract of the document's Parse. No statement of the seat is proved here.
-/
namespace Go.Proofs.YtmaiggoinjldpaaDoor.Dc
open Go.RowKit

theorem digit_calls (z : Int) (b : Bool) (hb : b = decide (48 ≤ z ∧ z ≤ 57)) (w : World) : Calls Tryd.prog 46 #[.int .u8 z] w fun e w' => e = .returned (.bool b) ∧ w = w' := by
  by_cases h1 : 48 ≤ z
  · by_cases h2 : z ≤ 57
    · have : b = true := by rw [hb]; simp [h1, h2]
      subst this
      clear hb
      go_enter Tryd.func46, Tryd.ntmps46
      go_wp2_with fail
      go_ret
      exact ⟨rfl, rfl⟩
    · have : b = false := by rw [hb]; simp [h2]
      subst this
      clear hb
      go_enter Tryd.func46, Tryd.ntmps46
      go_wp2_with fail
      go_ret
      exact ⟨rfl, rfl⟩
  · have : b = false := by rw [hb]; simp [h1]
    subst this
    clear hb
    go_enter Tryd.func46, Tryd.ntmps46
    go_wp2_with fail
    go_ret
    exact ⟨rfl, rfl⟩

/-- How the rest of the text is gone through, at each round's head. -/
structure RInv (l : List UInt8) (neg : Bool) (i : Nat) (dl : List UInt8) (pt : Int) (must : Bool) : Prop where
  at_ : i ≤ l.length
  digs : Digs dl
  few : dl.length ≤ i
  pt0 : pt = -1 ∨ (0 ≤ pt ∧ pt ≤ dl.length)
  head : i = 0 → ∀ r, l ≠ 45 :: r
  rest : scan 0 false false true 0 0 l = scan i neg (decide (0 ≤ pt)) must (val dl) (if 0 ≤ pt then dl.length - pt.toNat else 0) (l.drop i)

theorem RInv.step {l : List UInt8} {neg : Bool} {i : Nat} {dl : List UInt8} {pt : Int} {must : Bool} (h : RInv l neg i dl pt must) (hi : i < l.length) :
    scan 0 false false true 0 0 l = scan i neg (decide (0 ≤ pt)) must (val dl) (if 0 ≤ pt then dl.length - pt.toNat else 0) (l[i] :: l.drop (i + 1)) := by
  rw [h.rest, List.drop_eq_getElem_cons hi]
theorem RInv.digit {l : List UInt8} {neg : Bool} {i : Nat} {dl : List UInt8} {pt : Int} {must : Bool} (h : RInv l neg i dl pt must) (hi : i < l.length) (hd : 48 ≤ l[i].toNat ∧ l[i].toNat ≤ 57) : RInv l neg (i + 1) (dl ++ [l[i]]) pt false := by
  refine ⟨hi, h.digs.append fun x hx => by rw [List.mem_singleton.1 hx]; exact hd, by have := h.few; simp; omega, ?_, fun h0 => by omega, ?_⟩
  · rcases h.pt0 with h | h
    · exact Or.inl h
    · exact Or.inr ⟨h.1, by simp; omega⟩
  · rw [h.step hi, scan, if_pos hd, val_snoc]
    congr 1
    by_cases hp : 0 ≤ pt
    · rcases h.pt0 with h | h
      · omega
      · simp [hp]; omega
    · simp [hp]
theorem RInv.dot {l : List UInt8} {neg : Bool} {i : Nat} {dl : List UInt8} (h : RInv l neg i dl (-1) false) (hi : i < l.length) (hd : l[i].toNat = 46) : RInv l neg (i + 1) dl dl.length true := by
  refine ⟨hi, h.digs, by have := h.few; omega, Or.inr ⟨by omega, by omega⟩, fun h0 => by omega, ?_⟩
  rw [h.step hi, scan, if_neg (by omega), if_pos ⟨hd, rfl, by decide⟩]
  congr 1
  simp
theorem RInv.bad {l : List UInt8} {neg : Bool} {i : Nat} {dl : List UInt8} {pt : Int} {must : Bool} (h : RInv l neg i dl pt must) (hi : i < l.length) (h1 : ¬ (48 ≤ l[i].toNat ∧ l[i].toNat ≤ 57)) (h2 : ¬ (l[i].toNat = 46 ∧ must = false ∧ pt = -1)) : parse l = (D0, 14, (i : Int)) := by
  unfold parse
  rw [h.step hi, scan, if_neg h1, if_neg, if_neg]
  · rfl
  · rintro ⟨k1, rfl⟩
    refine h.head rfl (l.drop 1) ?_
    have h0 : l[0] = 45 := UInt8.toNat_inj.1 (by show l[0].toNat = 45; exact k1)
    rw [← h0]
    exact (List.drop_eq_getElem_cons hi)
  · rintro ⟨k1, k2, k3⟩
    refine h2 ⟨k1, k2, ?_⟩
    rcases h.pt0 with h | h
    · exact h
    · simp at k3; omega
theorem RInv.done {l : List UInt8} {neg : Bool} {dl : List UInt8} {pt : Int} {must : Bool} (h : RInv l neg l.length dl pt must) : parse l = if must then (D0, 11, (l.length : Int)) else ((made neg (val dl) (if 0 ≤ pt then pt - dl.length else 0)).1, if (made neg (val dl) (if 0 ≤ pt then pt - dl.length else 0)).2 then 0 else 10, 0) := by
  unfold parse
  rw [h.rest, List.drop_length]
  cases must
  · simp only [Bool.false_eq_true, ite_false]
    show told (.ok neg (val dl) _) = _
    rw [told_ok]
    have e : (-(((if 0 ≤ pt then dl.length - pt.toNat else 0 : Nat)) : Int)) = (if 0 ≤ pt then pt - dl.length else 0) := by
      rcases h.pt0 with h | h
      · simp [h]
      · rw [if_pos h.1, if_pos h.1]; omega
    rw [e]
    unfold made
    cases norm (val dl) (if 0 ≤ pt then pt - dl.length else 0) <;> rfl
  · rfl
theorem RInv.start_neg {r : List UInt8} : RInv (45 :: r) true 1 [] (-1) true := by
  refine ⟨by simp, digs_nil, by simp, Or.inl rfl, fun h => by omega, ?_⟩
  rw [scan, if_neg (by decide), if_neg (by decide), if_pos ⟨by decide, rfl⟩]
  simp [val, valF_nil]
theorem RInv.start {l : List UInt8} (h : ∀ r, l ≠ 45 :: r) : RInv l false 0 [] (-1) true :=
  ⟨by omega, digs_nil, by simp, Or.inl rfl, fun _ => h, by simp [val, valF_nil]⟩

set_option maxRecDepth 100000 in
set_option maxHeartbeats 8000000 in
theorem rparse_from (s : ByteArray) (l : List UInt8) (hs : Str s l) (hl : l.length ≤ 9000) (neg : Bool) (i0 : Nat) (hi : RInv l neg i0 [] (-1) true) (hcase : (neg = true ∧ i0 = 1 ∧ ∃ r, l = 45 :: r) ∨ (neg = false ∧ i0 = 0 ∧ (l = [] ∨ ∃ b r, l = b :: r ∧ b.toNat ≠ 45))) (w : World) :
    Calls Tryd.prog 24 #[.string s] w (Parses w l) := by
  have hz := hs.size
  have HS := Lib.hid hs
  have HL := Lib.hid hl
  have HZ := Lib.hid hz
  have HI := Lib.hid hi
  have hsz : (s.size : Int) ≤ 9000 := by omega
  have n0 := (Box.new w 42 [.bool false, .int .u64 0, .int .i64 0]).alloc (.cells #[.int .i64 0, .int .i64 0] 29)
  have n1 := Box.new (w.alloc (.cells #[.bool false, .int .u64 0, .int .i64 0] 42)) 29 [.int .i64 0, .int .i64 0]
  rw [size_alloc] at n1
  have nb : Below w.heap.size w ((w.alloc (.cells #[.bool false, .int .u64 0, .int .i64 0] 42)).alloc (.cells #[.int .i64 0, .int .i64 0] 29)) := ((Below.refl _ _).alloc (Nat.le_refl _) _).alloc (by simp) _
  have HB := Lib.hid (And.intro n0 (And.intro n1 nb))
  have hfirst : (neg = true ∧ i0 = 1 ∧ (0 : Int) < (s.size : Int) ∧ (∀ W, (Instr.index 9 (.string s) (.int .i64 0)).run Tryd.prog W = .ok (.int .u8 45) W)) ∨ (neg = false ∧ i0 = 0 ∧ ¬ (0 : Int) < (s.size : Int)) ∨ (neg = false ∧ i0 = 0 ∧ (0 : Int) < (s.size : Int) ∧ ∃ z : Int, (z == 45) = false ∧ (∀ W, (Instr.index 9 (.string s) (.int .i64 0)).run Tryd.prog W = .ok (.int .u8 z) W)) := by
    rcases hcase with ⟨rfl, rfl, r, hr⟩ | ⟨rfl, rfl, hr | ⟨b, r, hr, hb⟩⟩
    · refine Or.inl ⟨rfl, rfl, by rw [hz, hr]; simp; try omega, ?_⟩
      have := hs.index (i := 0) 0 rfl (by rw [hr]; simp)
      simp only [hr, List.getElem_cons_zero] at this
      exact this
    · exact Or.inr (Or.inl ⟨rfl, rfl, by rw [hz, hr]; simp⟩)
    · refine Or.inr (Or.inr ⟨rfl, rfl, by rw [hz, hr]; simp; try omega, (b.toNat : Int), by simp; omega, ?_⟩)
      have := hs.index (i := 0) 0 rfl (by rw [hr]; simp)
      simp only [hr, List.getElem_cons_zero] at this
      exact this
  clear hs hl hz hi hcase n0 n1 nb
  go_enter Tryd.func24, Tryd.ntmps24
  rcases hfirst with ⟨rfl, rfl, h1, h2⟩ | ⟨rfl, rfl, h1⟩ | ⟨rfl, rfl, h1, z, hz45, h2⟩
  · skip
    go_wp2_with fail
    obtain ⟨W, hW⟩ : ∃ W, W = (w.alloc (.cells #[.bool false, .int .u64 0, .int .i64 0] 42)).alloc (.cells #[.int .i64 0, .int .i64 0] 29) := ⟨_, rfl⟩
    rw [← hW] at HB ⊢
    clear hW h1 h2
    go_loopw [5, 6, 7, 8] (fun v5 v6 v7 v8 wr => ∃ (i : Nat) (t : ByteArray) (dl : List UInt8) (pt : Int) (must : Bool), v5 = .int .i64 i ∧ v6 = .string t ∧ v7 = .int .i64 pt ∧ v8 = .bool must ∧ W = wr ∧ Hid (Str t dl ∧ RInv l true i dl pt must)) (fun v5 _ _ _ _ => l.length - (intOf v5).toNat)
    case atStart => exact ⟨1, ⟨#[]⟩, [], -1, true, rfl, rfl, rfl, rfl, rfl, rfl, HI.out⟩
    case round =>
      obtain ⟨i, t, dl, pt, must, rfl, rfl, rfl, rfl, rfl, hh⟩ := hrel
      clear HI
      have HR := Lib.hid hh.out.2
      have HTS := Lib.hid hh.out.1
      have hil : (i : Int) ≤ 9000 := by have := HR.out.at_; have := HL.out; omega
      have htz : (t.size : Int) ≤ 9000 := by rw [HTS.out.size]; have := HR.out.few; omega
      have hpt : -1 ≤ pt ∧ pt ≤ 9000 := by have := HR.out.few; rcases HR.out.pt0 with h | h <;> omega
      have d0 := HB.out.1.cell 0
      have d1 := HB.out.1.cell 1
      have d2 := HB.out.1.cell 2
      have a0 := HB.out.2.1.cell 0
      have a1 := HB.out.2.1.cell 1
      simp only [List.getElem?_cons_zero, List.getElem?_cons_succ] at d0 d1 d2 a0 a1
      have e0 := HB.out.1.frozen 0
      have e1 := HB.out.1.frozen 1
      have e2 := HB.out.1.frozen 2
      have b0 := HB.out.2.1.frozen 0
      have b1 := HB.out.2.1.frozen 1
      have HFIN := Lib.hid (stored_is HB.out.1 HB.out.2.1 HB.out.2.2)
      clear hh
      by_cases hlt : i < l.length
      · have hlt' : (i : Int) < (s.size : Int) := by have := HZ.out; omega
        have hidx := HS.out.index (i := (i : Int)) i rfl hlt
        obtain ⟨z, hzb⟩ : ∃ z : Int, z = (l[i].toNat : Int) := ⟨_, rfl⟩
        rw [← hzb] at hidx
        have HZB := Lib.hid hzb
        have HLT := Lib.hid hlt
        clear hzb
        by_cases hd : 48 ≤ z ∧ z ≤ 57
        · obtain ⟨u, hu, hsl⟩ := HS.out.part (ki := .i64) (kj := .i64) (i := (i : Int)) (j := (i : Int) + 1) i (i + 1) rfl (by omega) (by omega) HLT.out
          have hu1 : (l.drop i).take (i + 1 - i) = [l[i]'HLT.out] := by rw [List.drop_eq_getElem_cons HLT.out, show i + 1 - i = 1 by omega]; rfl
          rw [hu1] at hu
          have huz : (u.size : Int) ≤ 1 := by rw [hu.size]; simp
          have HU := Lib.hid (HTS.out.append hu)
          have HDC := Lib.hid (digit_calls z true (by simp [hd]) W)
          have HN := Lib.hid (HR.out.digit HLT.out (by have := HZB.out; omega))
          clear hu hu1
          go_wp2_with fail
          refine HDC.out.mono ?_
          rintro e w2 ⟨rfl, rfl⟩
          go_wp2_with fail
          exact ⟨⟨i + 1, _, _, pt, false, by go_num, rfl, rfl, rfl, by trivial, HU.out, HN.out⟩, by have := HLT.out; simp [intOf]; omega⟩
        · have HDC := Lib.hid (digit_calls z false (by simp [hd]) W)
          by_cases hdot : z = 46 ∧ pt < 0 ∧ must = false
          · obtain ⟨rfl, hp0, rfl⟩ := hdot
            obtain rfl : pt = -1 := by omega
            have HN := Lib.hid (HR.out.dot HLT.out (by have := HZB.out; omega))
            have HTZ := Lib.hid HTS.out.size
            go_wp2_with fail
            refine HDC.out.mono ?_
            rintro e w2 ⟨rfl, rfl⟩
            go_wp2_with fail
            exact ⟨⟨i + 1, t, dl, (t.size : Int), true, by go_num, rfl, rfl, rfl, by trivial, HTS.out, by rw [HTZ.out]; exact HN.out⟩, by have := HLT.out; simp [intOf]; omega⟩
          · have HPL := Lib.hid (HR.out.bad HLT.out (by have := HZB.out; omega) (by rintro ⟨k1, k2, k3⟩; exact hdot ⟨by have := HZB.out; omega, by omega, k2⟩))
            have hform : (z == 46) = false ∨ (z = 46 ∧ ¬ pt < 0) ∨ (z = 46 ∧ pt < 0 ∧ must = true) := by
              by_cases h46 : z = 46
              · by_cases hp : pt < 0
                · cases must
                  · exact absurd ⟨h46, hp, rfl⟩ hdot
                  · exact Or.inr (Or.inr ⟨h46, hp, rfl⟩)
                · exact Or.inr (Or.inl ⟨h46, hp⟩)
              · exact Or.inl (by simp [h46])
            clear hdot
            rcases hform with f1 | ⟨rfl, f2⟩ | ⟨rfl, f2, rfl⟩
            all_goals
              go_wp2_with fail
              refine HDC.out.mono ?_
              rintro e w2 ⟨rfl, rfl⟩
              go_wp2_with fail
              exact ret_decs rfl rfl rfl rfl (HFIN.out _ _ _ _ _).1 (HFIN.out _ _ _ _ _).2.1 ⟨by rw [HPL.out]; rfl, (HFIN.out _ _ _ _ _).2.2⟩
      · have hlt' : ¬ (i : Int) < (s.size : Int) := by have := HZ.out; omega
        obtain rfl : i = l.length := by have := HR.out.at_; omega
        have hdone := HR.out.done
        have HEQ := Lib.hid (show (s.size : Int) = (l.length : Int) by have := HZ.out; omega)
        cases must
        · simp only [Bool.false_eq_true, ite_false] at hdone
          have HMK := Lib.hid (fun x hx0 hx1 => make_calls true t dl HTS.out HR.out.digs (by have := HR.out.few; have := HL.out; omega) x hx0 hx1 W)
          have HTZ := Lib.hid HTS.out.size
          have hform : (pt < 0 ∧ ∃ q : Int, q = 0 ∧ Hid (q = (if 0 ≤ pt then pt - dl.length else 0))) ∨ (¬ pt < 0 ∧ ∃ q : Int, q = pt - (t.size : Int) ∧ Hid (q = (if 0 ≤ pt then pt - dl.length else 0))) := by
            by_cases hp : pt < 0
            · exact Or.inl ⟨hp, 0, rfl, by show (0 : Int) = _; rw [if_neg (by omega)]⟩
            · exact Or.inr ⟨hp, _, rfl, by show pt - (t.size : Int) = _; rw [if_pos (by omega), HTZ.out]⟩
          have hq2 : ∀ q : Int, q = (if 0 ≤ pt then pt - dl.length else 0) → -9000 ≤ q ∧ q ≤ 9000 := fun q hq => by
            rw [hq]
            have := HR.out.few
            split
            · rcases HR.out.pt0 with h | h <;> omega
            · omega
          have HQ2 := Lib.hid hq2
          have HDN := Lib.hid hdone
          clear hq2 hdone
          rcases hform with ⟨hp, q, hq, hqq⟩ | ⟨hp, q, hq, hqq⟩
          all_goals
            have hqb := HQ2.out q hqq.out
            have hmk := HMK.out q (by omega) (by omega)
            have hdn := HDN.out
            rw [← hqq.out] at hdn
            obtain ⟨⟨R, ok⟩, hR⟩ : ∃ p, p = made true (val dl) q := ⟨_, rfl⟩
            rw [← hR] at hmk hdn
            unfold dV at hmk
            rw [hq] at hmk
            have HM := Lib.hid hmk
            have HDD := Lib.hid hdn
            have HOK := Lib.hid (show ok = false → R = D0 from fun h => by
              rw [h] at hR
              unfold made at hR
              cases hn : norm (val dl) q with
              | none => rw [hn] at hR; injection hR
              | some p => rw [hn] at hR; injection hR with _ h2; cases h2)
            clear hmk hdn hR hqq HDN HMK
            go_wp2_with fail
            refine HM.out.mono ?_
            rintro e w3 ⟨rfl, hb⟩
            have k1 := (HB.out.1.keep hb).alloc (.cells #[.bool R.neg, .int .u64 R.c, .int .i64 R.e] 42)
            have k2 := (HB.out.2.1.keep hb).alloc (.cells #[.bool R.neg, .int .u64 R.c, .int .i64 R.e] 42)
            have k3 := below_then HB.out.2.2 hb
            have k3' := k3.alloc k3.size (.cells #[.bool R.neg, .int .u64 R.c, .int .i64 R.e] 42)
            have d0 := k1.cell 0
            have d1 := k1.cell 1
            have d2 := k1.cell 2
            have a0 := k2.cell 0
            have a1 := k2.cell 1
            simp only [List.getElem?_cons_zero, List.getElem?_cons_succ] at d0 d1 d2 a0 a1
            have e0 := k1.frozen 0
            have e1 := k1.frozen 1
            have e2 := k1.frozen 2
            have b0 := k2.frozen 0
            have b1 := k2.frozen 1
            have HF2 := Lib.hid (stored_is k1 k2 k3')
            clear k1 k2 k3 k3' hb HFIN HM
            cases ok
            · have HR0 := Lib.hid (HOK.out rfl)
              go_wp2_with fail
              exact ret_decs rfl rfl rfl rfl (HF2.out _ _ _ _ _).1 (HF2.out _ _ _ _ _).2.1 ⟨by rw [HDD.out, HR0.out]; rfl, (HF2.out _ _ _ _ _).2.2⟩
            · go_wp2_with fail
              exact ret_decs rfl rfl rfl rfl (HF2.out _ _ _ _ _).1 (HF2.out _ _ _ _ _).2.1 ⟨by rw [HDD.out]; rfl, (HF2.out _ _ _ _ _).2.2⟩
        · have HPL := Lib.hid (show parse l = (D0, 11, (s.size : Int)) by rw [hdone, HEQ.out]; rfl)
          clear hdone
          go_wp2_with fail
          exact ret_decs rfl rfl rfl rfl (HFIN.out _ _ _ _ _).1 (HFIN.out _ _ _ _ _).2.1 ⟨by rw [HPL.out]; rfl, (HFIN.out _ _ _ _ _).2.2⟩
  · skip
    go_wp2_with fail
    obtain ⟨W, hW⟩ : ∃ W, W = (w.alloc (.cells #[.bool false, .int .u64 0, .int .i64 0] 42)).alloc (.cells #[.int .i64 0, .int .i64 0] 29) := ⟨_, rfl⟩
    rw [← hW] at HB ⊢
    clear hW h1
    go_loopw [5, 6, 7, 8] (fun v5 v6 v7 v8 wr => ∃ (i : Nat) (t : ByteArray) (dl : List UInt8) (pt : Int) (must : Bool), v5 = .int .i64 i ∧ v6 = .string t ∧ v7 = .int .i64 pt ∧ v8 = .bool must ∧ W = wr ∧ Hid (Str t dl ∧ RInv l false i dl pt must)) (fun v5 _ _ _ _ => l.length - (intOf v5).toNat)
    case atStart => exact ⟨0, ⟨#[]⟩, [], -1, true, rfl, rfl, rfl, rfl, rfl, rfl, HI.out⟩
    case round =>
      obtain ⟨i, t, dl, pt, must, rfl, rfl, rfl, rfl, rfl, hh⟩ := hrel
      clear HI
      have HR := Lib.hid hh.out.2
      have HTS := Lib.hid hh.out.1
      have hil : (i : Int) ≤ 9000 := by have := HR.out.at_; have := HL.out; omega
      have htz : (t.size : Int) ≤ 9000 := by rw [HTS.out.size]; have := HR.out.few; omega
      have hpt : -1 ≤ pt ∧ pt ≤ 9000 := by have := HR.out.few; rcases HR.out.pt0 with h | h <;> omega
      have d0 := HB.out.1.cell 0
      have d1 := HB.out.1.cell 1
      have d2 := HB.out.1.cell 2
      have a0 := HB.out.2.1.cell 0
      have a1 := HB.out.2.1.cell 1
      simp only [List.getElem?_cons_zero, List.getElem?_cons_succ] at d0 d1 d2 a0 a1
      have e0 := HB.out.1.frozen 0
      have e1 := HB.out.1.frozen 1
      have e2 := HB.out.1.frozen 2
      have b0 := HB.out.2.1.frozen 0
      have b1 := HB.out.2.1.frozen 1
      have HFIN := Lib.hid (stored_is HB.out.1 HB.out.2.1 HB.out.2.2)
      clear hh
      by_cases hlt : i < l.length
      · exfalso; have := HZ.out; have hno : ¬ 0 < s.size := by assumption
        omega
      · have hlt' : ¬ (i : Int) < (s.size : Int) := by have := HZ.out; omega
        obtain rfl : i = l.length := by have := HR.out.at_; omega
        have hdone := HR.out.done
        have HEQ := Lib.hid (show (s.size : Int) = (l.length : Int) by have := HZ.out; omega)
        cases must
        · simp only [Bool.false_eq_true, ite_false] at hdone
          have HMK := Lib.hid (fun x hx0 hx1 => make_calls false t dl HTS.out HR.out.digs (by have := HR.out.few; have := HL.out; omega) x hx0 hx1 W)
          have HTZ := Lib.hid HTS.out.size
          have hform : (pt < 0 ∧ ∃ q : Int, q = 0 ∧ Hid (q = (if 0 ≤ pt then pt - dl.length else 0))) ∨ (¬ pt < 0 ∧ ∃ q : Int, q = pt - (t.size : Int) ∧ Hid (q = (if 0 ≤ pt then pt - dl.length else 0))) := by
            by_cases hp : pt < 0
            · exact Or.inl ⟨hp, 0, rfl, by show (0 : Int) = _; rw [if_neg (by omega)]⟩
            · exact Or.inr ⟨hp, _, rfl, by show pt - (t.size : Int) = _; rw [if_pos (by omega), HTZ.out]⟩
          have hq2 : ∀ q : Int, q = (if 0 ≤ pt then pt - dl.length else 0) → -9000 ≤ q ∧ q ≤ 9000 := fun q hq => by
            rw [hq]
            have := HR.out.few
            split
            · rcases HR.out.pt0 with h | h <;> omega
            · omega
          have HQ2 := Lib.hid hq2
          have HDN := Lib.hid hdone
          clear hq2 hdone
          rcases hform with ⟨hp, q, hq, hqq⟩ | ⟨hp, q, hq, hqq⟩
          all_goals
            have hqb := HQ2.out q hqq.out
            have hmk := HMK.out q (by omega) (by omega)
            have hdn := HDN.out
            rw [← hqq.out] at hdn
            obtain ⟨⟨R, ok⟩, hR⟩ : ∃ p, p = made false (val dl) q := ⟨_, rfl⟩
            rw [← hR] at hmk hdn
            unfold dV at hmk
            rw [hq] at hmk
            have HM := Lib.hid hmk
            have HDD := Lib.hid hdn
            have HOK := Lib.hid (show ok = false → R = D0 from fun h => by
              rw [h] at hR
              unfold made at hR
              cases hn : norm (val dl) q with
              | none => rw [hn] at hR; injection hR
              | some p => rw [hn] at hR; injection hR with _ h2; cases h2)
            clear hmk hdn hR hqq HDN HMK
            go_wp2_with fail
            refine HM.out.mono ?_
            rintro e w3 ⟨rfl, hb⟩
            have k1 := (HB.out.1.keep hb).alloc (.cells #[.bool R.neg, .int .u64 R.c, .int .i64 R.e] 42)
            have k2 := (HB.out.2.1.keep hb).alloc (.cells #[.bool R.neg, .int .u64 R.c, .int .i64 R.e] 42)
            have k3 := below_then HB.out.2.2 hb
            have k3' := k3.alloc k3.size (.cells #[.bool R.neg, .int .u64 R.c, .int .i64 R.e] 42)
            have d0 := k1.cell 0
            have d1 := k1.cell 1
            have d2 := k1.cell 2
            have a0 := k2.cell 0
            have a1 := k2.cell 1
            simp only [List.getElem?_cons_zero, List.getElem?_cons_succ] at d0 d1 d2 a0 a1
            have e0 := k1.frozen 0
            have e1 := k1.frozen 1
            have e2 := k1.frozen 2
            have b0 := k2.frozen 0
            have b1 := k2.frozen 1
            have HF2 := Lib.hid (stored_is k1 k2 k3')
            clear k1 k2 k3 k3' hb HFIN HM
            cases ok
            · have HR0 := Lib.hid (HOK.out rfl)
              go_wp2_with fail
              exact ret_decs rfl rfl rfl rfl (HF2.out _ _ _ _ _).1 (HF2.out _ _ _ _ _).2.1 ⟨by rw [HDD.out, HR0.out]; rfl, (HF2.out _ _ _ _ _).2.2⟩
            · go_wp2_with fail
              exact ret_decs rfl rfl rfl rfl (HF2.out _ _ _ _ _).1 (HF2.out _ _ _ _ _).2.1 ⟨by rw [HDD.out]; rfl, (HF2.out _ _ _ _ _).2.2⟩
        · have HPL := Lib.hid (show parse l = (D0, 11, (s.size : Int)) by rw [hdone, HEQ.out]; rfl)
          clear hdone
          go_wp2_with fail
          exact ret_decs rfl rfl rfl rfl (HFIN.out _ _ _ _ _).1 (HFIN.out _ _ _ _ _).2.1 ⟨by rw [HPL.out]; rfl, (HFIN.out _ _ _ _ _).2.2⟩
  · skip
    go_wp2_with fail
    obtain ⟨W, hW⟩ : ∃ W, W = (w.alloc (.cells #[.bool false, .int .u64 0, .int .i64 0] 42)).alloc (.cells #[.int .i64 0, .int .i64 0] 29) := ⟨_, rfl⟩
    rw [← hW] at HB ⊢
    clear hW h1 h2 hz45
    go_loopw [5, 6, 7, 8] (fun v5 v6 v7 v8 wr => ∃ (i : Nat) (t : ByteArray) (dl : List UInt8) (pt : Int) (must : Bool), v5 = .int .i64 i ∧ v6 = .string t ∧ v7 = .int .i64 pt ∧ v8 = .bool must ∧ W = wr ∧ Hid (Str t dl ∧ RInv l false i dl pt must)) (fun v5 _ _ _ _ => l.length - (intOf v5).toNat)
    case atStart => exact ⟨0, ⟨#[]⟩, [], -1, true, rfl, rfl, rfl, rfl, rfl, rfl, HI.out⟩
    case round =>
      obtain ⟨i, t, dl, pt, must, rfl, rfl, rfl, rfl, rfl, hh⟩ := hrel
      clear HI
      have HR := Lib.hid hh.out.2
      have HTS := Lib.hid hh.out.1
      have hil : (i : Int) ≤ 9000 := by have := HR.out.at_; have := HL.out; omega
      have htz : (t.size : Int) ≤ 9000 := by rw [HTS.out.size]; have := HR.out.few; omega
      have hpt : -1 ≤ pt ∧ pt ≤ 9000 := by have := HR.out.few; rcases HR.out.pt0 with h | h <;> omega
      have d0 := HB.out.1.cell 0
      have d1 := HB.out.1.cell 1
      have d2 := HB.out.1.cell 2
      have a0 := HB.out.2.1.cell 0
      have a1 := HB.out.2.1.cell 1
      simp only [List.getElem?_cons_zero, List.getElem?_cons_succ] at d0 d1 d2 a0 a1
      have e0 := HB.out.1.frozen 0
      have e1 := HB.out.1.frozen 1
      have e2 := HB.out.1.frozen 2
      have b0 := HB.out.2.1.frozen 0
      have b1 := HB.out.2.1.frozen 1
      have HFIN := Lib.hid (stored_is HB.out.1 HB.out.2.1 HB.out.2.2)
      clear hh
      by_cases hlt : i < l.length
      · have hlt' : (i : Int) < (s.size : Int) := by have := HZ.out; omega
        have hidx := HS.out.index (i := (i : Int)) i rfl hlt
        obtain ⟨z, hzb⟩ : ∃ z : Int, z = (l[i].toNat : Int) := ⟨_, rfl⟩
        rw [← hzb] at hidx
        have HZB := Lib.hid hzb
        have HLT := Lib.hid hlt
        clear hzb
        by_cases hd : 48 ≤ z ∧ z ≤ 57
        · obtain ⟨u, hu, hsl⟩ := HS.out.part (ki := .i64) (kj := .i64) (i := (i : Int)) (j := (i : Int) + 1) i (i + 1) rfl (by omega) (by omega) HLT.out
          have hu1 : (l.drop i).take (i + 1 - i) = [l[i]'HLT.out] := by rw [List.drop_eq_getElem_cons HLT.out, show i + 1 - i = 1 by omega]; rfl
          rw [hu1] at hu
          have huz : (u.size : Int) ≤ 1 := by rw [hu.size]; simp
          have HU := Lib.hid (HTS.out.append hu)
          have HDC := Lib.hid (digit_calls z true (by simp [hd]) W)
          have HN := Lib.hid (HR.out.digit HLT.out (by have := HZB.out; omega))
          clear hu hu1
          go_wp2_with fail
          refine HDC.out.mono ?_
          rintro e w2 ⟨rfl, rfl⟩
          go_wp2_with fail
          exact ⟨⟨i + 1, _, _, pt, false, by go_num, rfl, rfl, rfl, by trivial, HU.out, HN.out⟩, by have := HLT.out; simp [intOf]; omega⟩
        · have HDC := Lib.hid (digit_calls z false (by simp [hd]) W)
          by_cases hdot : z = 46 ∧ pt < 0 ∧ must = false
          · obtain ⟨rfl, hp0, rfl⟩ := hdot
            obtain rfl : pt = -1 := by omega
            have HN := Lib.hid (HR.out.dot HLT.out (by have := HZB.out; omega))
            have HTZ := Lib.hid HTS.out.size
            go_wp2_with fail
            refine HDC.out.mono ?_
            rintro e w2 ⟨rfl, rfl⟩
            go_wp2_with fail
            exact ⟨⟨i + 1, t, dl, (t.size : Int), true, by go_num, rfl, rfl, rfl, by trivial, HTS.out, by rw [HTZ.out]; exact HN.out⟩, by have := HLT.out; simp [intOf]; omega⟩
          · have HPL := Lib.hid (HR.out.bad HLT.out (by have := HZB.out; omega) (by rintro ⟨k1, k2, k3⟩; exact hdot ⟨by have := HZB.out; omega, by omega, k2⟩))
            have hform : (z == 46) = false ∨ (z = 46 ∧ ¬ pt < 0) ∨ (z = 46 ∧ pt < 0 ∧ must = true) := by
              by_cases h46 : z = 46
              · by_cases hp : pt < 0
                · cases must
                  · exact absurd ⟨h46, hp, rfl⟩ hdot
                  · exact Or.inr (Or.inr ⟨h46, hp, rfl⟩)
                · exact Or.inr (Or.inl ⟨h46, hp⟩)
              · exact Or.inl (by simp [h46])
            clear hdot
            rcases hform with f1 | ⟨rfl, f2⟩ | ⟨rfl, f2, rfl⟩
            all_goals
              go_wp2_with fail
              refine HDC.out.mono ?_
              rintro e w2 ⟨rfl, rfl⟩
              go_wp2_with fail
              exact ret_decs rfl rfl rfl rfl (HFIN.out _ _ _ _ _).1 (HFIN.out _ _ _ _ _).2.1 ⟨by rw [HPL.out]; rfl, (HFIN.out _ _ _ _ _).2.2⟩
      · have hlt' : ¬ (i : Int) < (s.size : Int) := by have := HZ.out; omega
        obtain rfl : i = l.length := by have := HR.out.at_; omega
        have hdone := HR.out.done
        have HEQ := Lib.hid (show (s.size : Int) = (l.length : Int) by have := HZ.out; omega)
        cases must
        · simp only [Bool.false_eq_true, ite_false] at hdone
          have HMK := Lib.hid (fun x hx0 hx1 => make_calls false t dl HTS.out HR.out.digs (by have := HR.out.few; have := HL.out; omega) x hx0 hx1 W)
          have HTZ := Lib.hid HTS.out.size
          have hform : (pt < 0 ∧ ∃ q : Int, q = 0 ∧ Hid (q = (if 0 ≤ pt then pt - dl.length else 0))) ∨ (¬ pt < 0 ∧ ∃ q : Int, q = pt - (t.size : Int) ∧ Hid (q = (if 0 ≤ pt then pt - dl.length else 0))) := by
            by_cases hp : pt < 0
            · exact Or.inl ⟨hp, 0, rfl, by show (0 : Int) = _; rw [if_neg (by omega)]⟩
            · exact Or.inr ⟨hp, _, rfl, by show pt - (t.size : Int) = _; rw [if_pos (by omega), HTZ.out]⟩
          have hq2 : ∀ q : Int, q = (if 0 ≤ pt then pt - dl.length else 0) → -9000 ≤ q ∧ q ≤ 9000 := fun q hq => by
            rw [hq]
            have := HR.out.few
            split
            · rcases HR.out.pt0 with h | h <;> omega
            · omega
          have HQ2 := Lib.hid hq2
          have HDN := Lib.hid hdone
          clear hq2 hdone
          rcases hform with ⟨hp, q, hq, hqq⟩ | ⟨hp, q, hq, hqq⟩
          all_goals
            have hqb := HQ2.out q hqq.out
            have hmk := HMK.out q (by omega) (by omega)
            have hdn := HDN.out
            rw [← hqq.out] at hdn
            obtain ⟨⟨R, ok⟩, hR⟩ : ∃ p, p = made false (val dl) q := ⟨_, rfl⟩
            rw [← hR] at hmk hdn
            unfold dV at hmk
            rw [hq] at hmk
            have HM := Lib.hid hmk
            have HDD := Lib.hid hdn
            have HOK := Lib.hid (show ok = false → R = D0 from fun h => by
              rw [h] at hR
              unfold made at hR
              cases hn : norm (val dl) q with
              | none => rw [hn] at hR; injection hR
              | some p => rw [hn] at hR; injection hR with _ h2; cases h2)
            clear hmk hdn hR hqq HDN HMK
            go_wp2_with fail
            refine HM.out.mono ?_
            rintro e w3 ⟨rfl, hb⟩
            have k1 := (HB.out.1.keep hb).alloc (.cells #[.bool R.neg, .int .u64 R.c, .int .i64 R.e] 42)
            have k2 := (HB.out.2.1.keep hb).alloc (.cells #[.bool R.neg, .int .u64 R.c, .int .i64 R.e] 42)
            have k3 := below_then HB.out.2.2 hb
            have k3' := k3.alloc k3.size (.cells #[.bool R.neg, .int .u64 R.c, .int .i64 R.e] 42)
            have d0 := k1.cell 0
            have d1 := k1.cell 1
            have d2 := k1.cell 2
            have a0 := k2.cell 0
            have a1 := k2.cell 1
            simp only [List.getElem?_cons_zero, List.getElem?_cons_succ] at d0 d1 d2 a0 a1
            have e0 := k1.frozen 0
            have e1 := k1.frozen 1
            have e2 := k1.frozen 2
            have b0 := k2.frozen 0
            have b1 := k2.frozen 1
            have HF2 := Lib.hid (stored_is k1 k2 k3')
            clear k1 k2 k3 k3' hb HFIN HM
            cases ok
            · have HR0 := Lib.hid (HOK.out rfl)
              go_wp2_with fail
              exact ret_decs rfl rfl rfl rfl (HF2.out _ _ _ _ _).1 (HF2.out _ _ _ _ _).2.1 ⟨by rw [HDD.out, HR0.out]; rfl, (HF2.out _ _ _ _ _).2.2⟩
            · go_wp2_with fail
              exact ret_decs rfl rfl rfl rfl (HF2.out _ _ _ _ _).1 (HF2.out _ _ _ _ _).2.1 ⟨by rw [HDD.out]; rfl, (HF2.out _ _ _ _ _).2.2⟩
        · have HPL := Lib.hid (show parse l = (D0, 11, (s.size : Int)) by rw [hdone, HEQ.out]; rfl)
          clear hdone
          go_wp2_with fail
          exact ret_decs rfl rfl rfl rfl (HFIN.out _ _ _ _ _).1 (HFIN.out _ _ _ _ _).2.1 ⟨by rw [HPL.out]; rfl, (HFIN.out _ _ _ _ _).2.2⟩

theorem rparse_calls (s : ByteArray) (l : List UInt8) (hs : Str s l) (hl : l.length ≤ 9000) (w : World) : Calls Tryd.prog 24 #[.string s] w (Parses w l) := by
  cases l with
  | nil => exact rparse_from s [] hs hl false 0 (RInv.start (fun r h => by cases h)) (Or.inr ⟨rfl, rfl, Or.inl rfl⟩) w
  | cons b r =>
    by_cases hb : b.toNat = 45
    · obtain rfl : b = 45 := UInt8.toNat_inj.1 hb
      exact rparse_from s _ hs hl true 1 RInv.start_neg (Or.inl ⟨rfl, rfl, r, rfl⟩) w
    · exact rparse_from s _ hs hl false 0 (RInv.start (fun r' h => by injection h with h1 _; rw [h1] at hb; exact hb rfl)) (Or.inr ⟨rfl, rfl, Or.inr ⟨b, r, rfl, hb⟩⟩) w
end Go.Proofs.YtmaiggoinjldpaaDoor.Dc
