/-
  Package num: Text, RateText. No statement of the seat is proved here.
-/
import Derived.Lib.TrimByte
import Derived.Test.YtmaiggoinjldpaaDoorShelf
import Derived.Test.YtmaiggoinjldpaaDoorGrDigs
namespace Go.Proofs.YtmaiggoinjldpaaDoor
open Go.RowKit Go.Sort

theorem below_grow (w : World) (k : Nat) (os : Array Obj) : Below w.heap.size w (grow (w.drewN k) os) := by
  refine ⟨rfl, rfl, rfl, ?_, fun j hj => ?_⟩
  · simp [grow]
  · simp only [grow]
    rw [Array.getElem?_append_left (by simpa using hj)]
    rfl

/-- strconv.Itoa of a number that is not below 0. -/
theorem itoa_calls (n : Nat) (h : n ≤ 9223372036854775807) (w : World) (ht : Tab w) : Calls Tryd.prog 53 #[.int .i64 n] w fun e w' => e = .returned (.string ⟨(Lib.decDigits n).toArray⟩) ∧ Below w.heap.size w w' := by
  refine (Tryd.strconv_Itoa n (by omega) (by omega) w ht).mono ?_
  rintro e w' ⟨rfl, k, os, rfl⟩
  refine ⟨?_, below_grow w k os⟩
  unfold Lib.itoa
  rw [if_neg (by omega)]
  rfl

/-- What a text and an error are told as. -/
def Told2 (w : World) (l : List UInt8) (c : Int) (e : Ending) (w' : World) : Prop := e = .returned (.tuple #[.string ⟨l.toArray⟩, .int .i64 c]) ∧ Below w.heap.size w w'

def textN (n : Int) : List UInt8 := if n < 0 then [] else Lib.decDigits n.toNat
def errN (n : Int) : Int := if n < 0 then 10 else 0

set_option maxRecDepth 100000 in
theorem ntext_calls (n : Int) (h : n ≤ 9223372036854775807) (w : World) (ht : Tab w) : Calls Tryd.prog 27 #[.int .i64 n] w (Told2 w (textN n) (errN n)) := by
  by_cases h0 : n < 0
  · have e1 : textN n = [] := by unfold textN; rw [if_pos h0]
    have e2 : errN n = 10 := by unfold errN; rw [if_pos h0]
    rw [e1, e2]
    clear e1 e2 ht
    go_enter Tryd.func27, Tryd.ntmps27
    go_wp2_with fail
    go_ret2
    exact ⟨rfl, Below.refl _ _⟩
  · have e1 : textN n = Lib.decDigits n.toNat := by unfold textN; rw [if_neg h0]
    have e2 : errN n = 0 := by unfold errN; rw [if_neg h0]
    rw [e1, e2]
    have hc := itoa_calls n.toNat (by omega) w ht
    rw [show ((n.toNat : Nat) : Int) = n by omega] at hc
    generalize Lib.decDigits n.toNat = l at hc
    have HC := Lib.hid hc
    clear e1 e2 ht hc
    go_enter Tryd.func27, Tryd.ntmps27
    go_wp2_with fail
    refine HC.out.mono ?_
    rintro e w' ⟨rfl, hb⟩
    have HB := Lib.hid hb
    clear hb HC
    go_wp2_with fail
    go_ret2
    exact ⟨rfl, HB.out⟩

/-! The six digits of a rate. -/
def six (n : Nat) : List UInt8 := (Lib.decDigits (1000000 + n)).drop 1
theorem six_is {n : Nat} (h : n < 1000000) : Lib.decDigits (1000000 + n) = 49 :: six n ∧ Digs (six n) ∧ (six n).length = 6 ∧ val (six n) = n := by
  obtain ⟨hv, hd⟩ := val_decDigits (1000000 + n)
  have hl : (Lib.decDigits (1000000 + n)).length = 7 := by rw [Lib.decDigits_length, Lib.nDigits_unique 6 _ (by omega) (by omega)]
  unfold six
  cases hx : Lib.decDigits (1000000 + n) with
  | nil => rw [hx] at hl; simp at hl
  | cons b r =>
    rw [hx] at hl hv hd
    simp only [List.length_cons] at hl
    have hr : Digs r := fun x hx => hd x (by simp [hx])
    have hb := hd b (by simp)
    have hlt := val_lt hr
    rw [val_cons] at hv
    have h6 : r.length = 6 := by omega
    rw [h6] at hv hlt
    unfold Dig at hb
    have hb49 : b.toNat = 49 := by omega
    obtain rfl : b = 49 := UInt8.toNat_inj.1 hb49
    refine ⟨rfl, hr, h6, ?_⟩
    show val r = n
    simp at hv
    omega
theorem six_unique {l : List UInt8} {n : Nat} (hd : Digs l) (hl : l.length = 6) (hv : val l = n) : l = six n := by
  have hn : n < 1000000 := by have := val_lt hd; rw [hl, hv] at this; exact this
  obtain ⟨_, h2, h3, h4⟩ := six_is hn
  exact val_inj hd h2 (by rw [hl, h3]) (by rw [hv, h4])

def rateText (n : Nat) : List UInt8 := if n = 1000000 then [49] else [48, 46] ++ Lib.trimRightB (six n) 48
def isRate (n : Int) : Bool := decide (1 ≤ n ∧ n ≤ 1000000)
def textR (n : Int) : List UInt8 := if isRate n then rateText n.toNat else []
def errR (n : Int) : Int := if isRate n then 0 else 10

theorem trim_le (l : List UInt8) (c : UInt8) : (Lib.trimRightB l c).length ≤ l.length := by
  unfold Lib.trimRightB
  rw [List.length_reverse]
  have := (List.dropWhile_sublist (l := l.reverse) (· == c)).length_le
  rwa [List.length_reverse] at this

end Go.Proofs.YtmaiggoinjldpaaDoor
