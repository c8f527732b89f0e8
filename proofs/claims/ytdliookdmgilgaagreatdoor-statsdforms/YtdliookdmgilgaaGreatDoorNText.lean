/-
  Package num: Text, RateText. No statement of the seat is proved here.
-/
import Derived.Test.YtdliookdmgilgaaGreatDoorShelf
import Derived.Test.YtdliookdmgilgaaGreatDoorGrMem
import Derived.Test.YtdliookdmgilgaaGreatDoorGrDigs
import Derived.Test.YtdliookdmgilgaaGreatDoorGrNRateFault
namespace Go.Proofs.YtdliookdmgilgaaGreatDoor
open Go.RowKit Go.Sort

theorem below_grow (w : World) (k : Nat) (os : Array Obj) : Below w.heap.size w (grow (w.drewN k) os) := by
  refine ⟨rfl, rfl, rfl, ?_, fun j hj => ?_⟩
  · simp [grow]
  · simp only [grow]
    rw [Array.getElem?_append_left (by simpa using hj)]
    rfl

/-- strconv.Itoa of a number that is not below 0. -/
theorem itoa_calls (n : Nat) (h : n ≤ 9223372036854775807) (w : World) (ht : Tab w) : Calls Tryz.prog 52 #[.int .i64 n] w fun e w' => e = .returned (.string ⟨(Lib.decDigits n).toArray⟩) ∧ Below w.heap.size w w' := by
  refine (Tryz.strconv_Itoa n (by omega) (by omega) w ht).mono ?_
  rintro e w' ⟨rfl, k, os, rfl⟩
  refine ⟨?_, below_grow w k os⟩
  unfold Lib.itoa
  rw [if_neg (by omega)]
  rfl

/-- What a text and an error are told as. -/
def Told2 (w : World) (l : List UInt8) (c : Int) (e : Ending) (w' : World) : Prop := e = .returned (.tuple #[.string ⟨l.toArray⟩, .int .i64 c]) ∧ Below w.heap.size w w'

def textN (n : Int) : List UInt8 := if n < 0 then [] else Lib.decDigits n.toNat
def errN (n : Int) : Int := if n < 0 then 10 else 0

/-! The six digits of a rate. -/
def six (n : Nat) : List UInt8 := (Lib.decDigits (1000000 + n)).drop 1
theorem six_is {n : Nat} (h : n < 1000000) : Lib.decDigits (1000000 + n) = 49 :: six n ∧ Digs (six n) ∧ (six n).length = 6 ∧ val (six n) = n := by
  obtain ⟨hv, hd⟩ := val_decDigits (1000000 + n)
  have hl : (Lib.decDigits (1000000 + n)).length = 7 := by rw [Lib.decDigits_length, Lib.nDigits_unique 6 _ (by omega) (by omega)]
  unfold six
  cases hx : Lib.decDigits (1000000 + n) with
  | nil => rw [hx] at hl; simp at hl
  | cons b r =>
    rw [hx] at hl hv hd
    simp only [List.length_cons] at hl
    have hr : Digs r := fun x hx => hd x (by simp [hx])
    have hb := hd b (by simp)
    have hlt := val_lt hr
    rw [val_cons] at hv
    have h6 : r.length = 6 := by omega
    rw [h6] at hv hlt
    unfold Dig at hb
    have hb49 : b.toNat = 49 := by omega
    obtain rfl : b = 49 := UInt8.toNat_inj.1 hb49
    refine ⟨rfl, hr, h6, ?_⟩
    show val r = n
    simp at hv
    omega
theorem six_unique {l : List UInt8} {n : Nat} (hd : Digs l) (hl : l.length = 6) (hv : val l = n) : l = six n := by
  have hn : n < 1000000 := by have := val_lt hd; rw [hl, hv] at this; exact this
  obtain ⟨_, h2, h3, h4⟩ := six_is hn
  exact val_inj hd h2 (by rw [hl, h3]) (by rw [hv, h4])

def rateText (n : Nat) : List UInt8 := if n = 1000000 then [49] else [48, 46] ++ Lib.trimRightB (six n) 48
def isRate (n : Int) : Bool := decide (1 ≤ n ∧ n ≤ 1000000)
def textR (n : Int) : List UInt8 := if isRate n then rateText n.toNat else []
def errR (n : Int) : Int := if isRate n then 0 else 10

theorem trim_le (l : List UInt8) (c : UInt8) : (Lib.trimRightB l c).length ≤ l.length := by
  unfold Lib.trimRightB
  rw [List.length_reverse]
  have := (List.dropWhile_sublist (l := l.reverse) (· == c)).length_le
  rwa [List.length_reverse] at this

set_option maxRecDepth 100000 in
set_option maxHeartbeats 1000000 in
theorem ratetext_calls (n : Int) (w : World) (ht : Tab w) : Calls Tryz.prog 26 #[.int .i64 n] w (Told2 w (textR n) (errR n)) := by
  rcases (by omega : n < 1 ∨ (¬ n < 1 ∧ 1000000 < n) ∨ n = 1000000 ∨ (¬ n < 1 ∧ ¬ 1000000 < n ∧ n ≠ 1000000)) with h1 | ⟨h1, h2⟩ | h1 | ⟨h1, h2, h3⟩
  · have e0 : isRate n = false := by unfold isRate; rw [decide_eq_false_iff_not]; omega
    have e1 : textR n = [] := by unfold textR; rw [e0]; rfl
    have e2 : errR n = 10 := by unfold errR; rw [e0]; rfl
    rw [e1, e2]
    clear e0 e1 e2 ht
    go_enter Tryz.func26, Tryz.ntmps26
    go_wp2_with fail
    go_ret2
    exact ⟨rfl, Below.refl _ _⟩
  · have e0 : isRate n = false := by unfold isRate; rw [decide_eq_false_iff_not]; omega
    have e1 : textR n = [] := by unfold textR; rw [e0]; rfl
    have e2 : errR n = 10 := by unfold errR; rw [e0]; rfl
    rw [e1, e2]
    clear e0 e1 e2 ht
    go_enter Tryz.func26, Tryz.ntmps26
    go_wp2_with fail
    go_ret2
    exact ⟨rfl, Below.refl _ _⟩
  · subst h1
    have e1 : textR 1000000 = [49] := by decide
    have e2 : errR 1000000 = 0 := by decide
    rw [e1, e2]
    clear e1 e2 ht
    go_enter Tryz.func26, Tryz.ntmps26
    go_wp2_with fail
    go_ret2
    exact ⟨rfl, Below.refl _ _⟩
  · have e0 : isRate n = true := by unfold isRate; rw [decide_eq_true_eq]; omega
    have e1 : textR n = [48, 46] ++ Lib.trimRightB (six n.toNat) 48 := by unfold textR rateText; rw [e0, if_pos rfl, if_neg (by omega)]
    have e2 : errR n = 0 := by unfold errR; rw [e0]; rfl
    rw [e1, e2]
    have h3' : (n == 1000000) = false := by simpa using h3
    have hc := itoa_calls (1000000 + n.toNat) (by omega) w ht
    rw [show ((1000000 + n.toNat : Nat) : Int) = 1000000 + n by omega] at hc
    obtain ⟨hs1, hs2, hs3, hs4⟩ := six_is (n := n.toNat) (by omega)
    rw [hs1] at hc
    obtain ⟨P, hP⟩ : ∃ P : ByteArray, P = ⟨(49 :: six n.toNat).toArray⟩ := ⟨_, rfl⟩
    rw [← hP] at hc
    have hPs : Str P (49 :: six n.toNat) := by rw [hP]; exact Str.mk _
    obtain ⟨t, hts, hsl⟩ := hPs.from_ (i := 1) 1 rfl (by simp)
    simp only [List.drop_succ_cons, List.drop_zero] at hts
    have htr := Tryz.strings_TrimRight_one t 48 (by decide)
    have htd : t.data.toList = six n.toNat := hts
    rw [htd] at htr
    have hts6 : t.size = 6 := by rw [hts.size, hs3]
    have hle := trim_le (six n.toNat) 48
    rw [hs3] at hle
    generalize Lib.trimRightB (six n.toNat) 48 = l at htr hle ⊢
    obtain ⟨R, hR⟩ : ∃ R : ByteArray, R = ⟨l.toArray⟩ := ⟨_, rfl⟩
    have hRs : Str R l := by rw [hR]; exact Str.mk _
    rw [← hR] at htr
    have hRz : (R.size : Int) ≤ 6 := by rw [hRs.size]; omega
    have HC := Lib.hid hc
    have HTR := Lib.hid (fun W => htr W (by omega))
    have HR := Lib.hid ((show Str ⟨#[48, 46]⟩ [48, 46] from rfl).append hRs).eq
    clear e0 e1 e2 ht hc hts hPs htr hRs hR hP hle hts6 htd hs1 hs2 hs3 hs4 h3
    go_enter Tryz.func26, Tryz.ntmps26
    go_wp2_with fail
    refine HC.out.mono ?_
    rintro e w' ⟨rfl, hb⟩
    have HB := Lib.hid hb
    clear hb HC
    go_wp2_with fail
    refine (HTR.out _).mono ?_
    rintro e w2 ⟨rfl, rfl⟩
    clear HTR
    go_wp2_with fail
    go_ret2
    exact ⟨congrArg (fun z => Ending.returned (.tuple #[.string z, .int .i64 0])) HR.out, HB.out⟩
end Go.Proofs.YtdliookdmgilgaaGreatDoor
