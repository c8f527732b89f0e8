/-
  Contracts of package dec's pointed and Text. No statement of the seat is proved here.
-/
import Derived.Test.YtmaiggoinjldpaaDoorDFormat
import Derived.Test.YtmaiggoinjldpaaDoorGrDLift
import Derived.Test.YtmaiggoinjldpaaDoorGrDigs
import Derived.Test.YtmaiggoinjldpaaDoorGrMRows
namespace Go.Proofs.YtmaiggoinjldpaaDoor.Dc
open Go.RowKit

/-- A string is returned. -/
def Says (w : World) (l : List UInt8) (e : Ending) (w' : World) : Prop := ∃ s, e = .returned (.string s) ∧ Str s l ∧ Below w.heap.size w w'

theorem zero_str (c : ByteArray) (h : c = ⟨#[48]⟩) : Str c [48] := by subst h; rfl

theorem repeat0_calls (c : Nat) (hc : c ≤ 1000) (w : World) :
    Calls Tryd.prog 52 #[.string ⟨#[48]⟩, .int .i64 c] w (Says w (List.replicate c 48)) := by
  refine (Tryd.strings_Repeat ⟨#[48]⟩ c w (by omega) (by show 1 * c ≤ _; omega)).mono ?_
  rintro e w' ⟨rfl, hb⟩
  refine ⟨_, rfl, ?_, hb⟩
  have : Lib.repeatL [48] c = List.replicate c 48 := by
    have := Lib.repeatL_replicate 48 1 c
    simpa using this
  rw [show (⟨#[48]⟩ : ByteArray).data.toList = [48] from rfl, this]
  exact Str.mk _

theorem max_of (a b : Int) (ts : Array TypeId) (t : TypeId) (W : World) (c : Int) (hc : c = if b < a then a else b) : (Builtin.max_ ts t #[.int .i64 a, .int .i64 b]).run Tryd.prog W = .ok (.int .i64 c) W := by
  subst hc
  simp [Builtin.max_, Builtin.max2]
  try (split <;> split <;> omega)

set_option maxRecDepth 100000 in
set_option maxHeartbeats 2000000 in
theorem pointed_calls (s : ByteArray) (l : List UInt8) (hs : Str s l) (k : Nat) (hl : l.length ≤ 100) (hk : k ≤ 100) (w : World) :
    Calls Tryd.prog 51 #[.string s, .int .i64 k] w (Says w (pointed l k)) := by
  have hz := hs.size
  have HS := Lib.hid hs
  obtain ⟨m, hm⟩ : ∃ m, k + 1 - l.length = m := ⟨_, rfl⟩
  have hmax : ∀ (ts : Array TypeId) (t : TypeId) (W : World), (Builtin.max_ ts t #[.int .i64 0, .int .i64 ((k : Int) + 1 - (s.size : Int))]).run Tryd.prog W = .ok (.int .i64 (m : Int)) W := fun ts t W => max_of _ _ _ _ _ _ (by split <;> omega)
  have hm1 : m ≤ 101 := by omega
  have hsz : (s.size : Int) ≤ 100 := by omega
  have HM := Lib.hid (And.intro hm hz)
  clear hm hs hz
  go_enter Tryd.func51, Tryd.ntmps51
  go_wp2_with fail
  refine (repeat0_calls m (by omega) w).mono ?_
  rintro e w1 ⟨t, rfl, ht, hb⟩
  have htz := ht.size
  rw [List.length_replicate] at htz
  have htz2 : (t.size : Int) ≤ 101 := by omega
  have HB := Lib.hid hb
  have HS2 := Lib.hid (ht.append HS.out)
  have HTZ := Lib.hid htz
  clear hb hmax htz ht
  go_wp2_with fail
  have hx : ((t.size : Int) + (s.size : Int) - (k : Int)) = ((m + l.length - k : Nat) : Int) := by have := HTZ.out; have := HM.out; omega
  have hS : ((t ++ s).size : Int) = (m : Int) + (l.length : Int) := by rw [HS2.out.size]; simp
  generalize t ++ s = S at HS2 hS
  obtain ⟨X, hX⟩ : ∃ X : Int, X = (t.size : Int) + (s.size : Int) - (k : Int) := ⟨_, rfl⟩
  rw [← hX] at hx ⊢
  obtain ⟨a, ha, hra⟩ := HS2.out.to_ (j := X) _ hx (by have := HM.out; simp; try omega)
  obtain ⟨b, hb, hrb⟩ := HS2.out.from_ (i := X) _ hx (by have := HM.out; simp; try omega)
  have hza : (a.size : Int) ≤ 300 := by rw [ha.size, List.length_take]; simp; try omega
  have hzb : (b.size : Int) ≤ 300 := by rw [hb.size, List.length_drop]; simp; try omega
  have HAB := Lib.hid ((ha.append (show Str ⟨#[46]⟩ [46] from rfl)).append hb)
  have HX := Lib.hid hx
  clear hX hx ha hb hS
  go_quiet (fail)
  go_wp2
  go_ret
  refine ⟨_, rfl, ?_, ?_⟩
  · have := HAB.out
    unfold pointed
    rw [HM.out.1]
    have e : (List.replicate m 48 ++ l).length - k = m + l.length - k := by simp
    rw [e]
    exact this
  · exact Below.trans HB.out (Same.below (Same.drewN _ _))

set_option maxRecDepth 100000 in
set_option maxHeartbeats 2000000 in
theorem text_calls (d : D) (hf : d.Fits) (w : World) (htab : Tab w) :
    Calls Tryd.prog 26 #[dV d] w fun e w' => ∃ s, e = .returned (.tuple #[.string s, .int .i64 (check d)]) ∧ Str s (if check d = 0 then text d else []) ∧ Below w.heap.size w w' := by
  obtain ⟨x, hx⟩ : ∃ x : Int, x = (d.c : Int) := ⟨_, rfl⟩
  obtain ⟨y, hy⟩ : ∃ y : Int, y = d.e := ⟨_, rfl⟩
  obtain ⟨n, hn⟩ : ∃ n : Bool, n = d.neg := ⟨_, rfl⟩
  obtain ⟨q, hq⟩ : ∃ q : Int, q = check d := ⟨_, rfl⟩
  have HC0 := check_calls d hf (w.alloc (.cells #[.bool n, .int .u64 x, .int .i64 y] 42))
  have htx : text d = (if n then [45] else []) ++ sized x.toNat y := by unfold text; rw [hn, hx, hy]; simp
  rw [htx]
  unfold dV at HC0 ⊢
  rw [← hx, ← hy, ← hn, ← hq] at HC0
  rw [← hx, ← hy, ← hn, ← hq]
  have hone : q = 0 → One x.toNat y ∧ x.toNat < 18446744073709551616 := fun h0 => by
    have := check_ok.1 (hq.symm.trans h0)
    rw [show x.toNat = d.c by omega, hy]
    exact ⟨this.1, this.fits.c⟩
  have HO := Lib.hid hone
  have HCC := Lib.hid HC0
  have HT := Lib.hid htab
  have hx0 : 0 ≤ x := by omega
  clear hf hx hy hn hq HC0 htx hone htab
  have hcell := Box.new w 42 [.bool n, .int .u64 x, .int .i64 y]
  go_enter Tryd.func26, Tryd.ntmps26
  go_wp2_with fail
  refine HCC.out.mono ?_
  rintro e w1 ⟨rfl, hb⟩
  have b1 := hcell.keep hb
  have hb2 := Below.trans ((Below.refl _ _).alloc (Nat.le_refl _) _) (hb.mono (by simp))
  clear hcell HCC
  have c0 : w1.cell? ⟨w.heap.size, 0, none⟩ = some (.bool n) := b1.cell 0
  have c1 : w1.cell? ⟨w.heap.size, 1, none⟩ = some (.int .u64 x) := b1.cell 1
  have c2 : w1.cell? ⟨w.heap.size, 2, none⟩ = some (.int .i64 y) := b1.cell 2
  have HB := Lib.hid (And.intro b1 hb2)
  clear b1 hb2 hb
  by_cases h0 : q = 0
  · subst h0
    have HOO := Lib.hid (HO.out rfl)
    clear HO
    have HFM := Lib.hid (format_calls x.toNat HOO.out.2 w1 (HT.out.keep HB.out.2))
    rw [show ((x.toNat : Nat) : Int) = x by omega] at HFM
    go_wp2_with fail
    refine HFM.out.mono ?_
    rintro e w2 ⟨rfl, hb⟩
    obtain ⟨s, hs⟩ : ∃ s : ByteArray, s = ⟨(Lib.decDigits x.toNat).toArray⟩ := ⟨_, rfl⟩
    rw [← hs]
    have hstr : Str s (Lib.decDigits x.toNat) := by rw [hs]; exact Str.mk _
    have hlen := decDigits_len20 (u := x.toNat) HOO.out.2
    have b1 := HB.out.1.keep hb
    have hb2 := below_then HB.out.2 hb
    clear HFM HB hs c0 c1 c2
    have c0 : w2.cell? ⟨w.heap.size, 0, none⟩ = some (.bool n) := b1.cell 0
    have c2 : w2.cell? ⟨w.heap.size, 2, none⟩ = some (.int .i64 y) := b1.cell 2
    have HB := Lib.hid (And.intro b1 hb2)
    have HS := Lib.hid (And.intro hstr hlen)
    have hye : -18 ≤ y ∧ y ≤ 18 := by rcases HOO.out.1 with h | h <;> omega
    clear b1 hb2 hb hstr hlen HOO HT
    by_cases hneg : y < 0
    · have HP := Lib.hid (pointed_calls s _ HS.out.1 (-y).toNat (by have := HS.out.2; omega) (by omega) w2)
      rw [show (((-y).toNat : Nat) : Int) = -y by omega] at HP
      go_wp2_with fail
      refine HP.out.mono ?_
      rintro e w3 ⟨t, rfl, ht, hb⟩
      have b1 := HB.out.1.keep hb
      have hb2 := below_then HB.out.2 hb
      clear HB HP c0 c2
      have c0 : w3.cell? ⟨w.heap.size, 0, none⟩ = some (.bool n) := b1.cell 0
      have HB := Lib.hid (And.intro ht hb2)
      have hszd : sized x.toNat y = pointed (Lib.decDigits x.toNat) (-y).toNat := by unfold sized; rw [if_pos hneg]
      rw [← hszd] at HB
      have hlt : (t.size : Int) ≤ 1000 := by
        rw [ht.size]; unfold pointed; have := HS.out.2; simp; omega
      have HSZ := Lib.hid hszd
      clear b1 hb2 hb ht hszd
      cases n
      · go_wp2_with fail
        go_ret2
        exact ⟨t, rfl, by simpa using HB.out.1, HB.out.2⟩
      · go_wp2_with fail
        go_ret2
        exact ⟨_, rfl, by have := (show Str ⟨#[45]⟩ [45] from rfl).append HB.out.1; simpa using this, HB.out.2⟩
    · have HP := Lib.hid (repeat0_calls y.toNat (by omega) w2)
      rw [show ((y.toNat : Nat) : Int) = y by omega] at HP
      go_wp2_with fail
      refine HP.out.mono ?_
      rintro e w3 ⟨t, rfl, ht, hb⟩
      have b1 := HB.out.1.keep hb
      have hb2 := below_then HB.out.2 hb
      clear HB HP c0 c2
      have c0 : w3.cell? ⟨w.heap.size, 0, none⟩ = some (.bool n) := b1.cell 0
      have hszd : sized x.toNat y = Lib.decDigits x.toNat ++ List.replicate y.toNat 48 := by unfold sized; rw [if_neg (by omega)]
      have HB := Lib.hid (And.intro (show Str (s ++ t) (sized x.toNat y) by rw [hszd]; exact HS.out.1.append ht) hb2)
      have hlt : (t.size : Int) ≤ 1000 := by rw [ht.size]; simp; omega
      have hls : (s.size : Int) ≤ 1000 := by rw [HS.out.1.size]; have := HS.out.2; omega
      clear b1 hb2 hb ht hszd
      cases n
      · go_wp2_with fail
        go_ret2
        exact ⟨_, rfl, by simpa using HB.out.1, HB.out.2⟩
      · go_wp2_with fail
        go_ret2
        exact ⟨_, rfl, by have := (show Str ⟨#[45]⟩ [45] from rfl).append HB.out.1; simpa using this, HB.out.2⟩
  · go_wp2_with fail
    go_ret2
    exact ⟨_, rfl, by first | rfl | (rw [if_neg h0]; rfl), HB.out.2⟩
end Go.Proofs.YtmaiggoinjldpaaDoor.Dc
