/-
  strings.Cut at one byte. No statement of the seat is proved here.
-/
import Derived.Test.YtmaiggoinjldpaaGreatDoorGrTText
import Derived.Test.YtmaiggoinjldpaaGreatDoorShelf
import Derived.Test.YtmaiggoinjldpaaGreatDoorShelfI
import Derived.Lib.IndexLaws
namespace Go.Proofs.YtmaiggoinjldpaaGreatDoor
open Go.RowKit

theorem index_cases (l : List UInt8) (c : UInt8) : (Lib.indexByte l c = -1 ∧ c ∉ l) ∨ ∃ i : Nat, ∃ h : i < l.length, Lib.indexByte l c = i ∧ l[i] = c ∧ c ∉ l.take i := by
  by_cases h : Lib.indexByte l c = -1
  · refine .inl ⟨h, fun m => ?_⟩
    obtain ⟨i, hi, e⟩ := List.mem_iff_getElem.1 m
    exact Lib.indexByte_none h i (by rw [List.getElem?_eq_getElem hi, e])
  · have := Lib.indexByte_ge l c
    obtain ⟨i, hi⟩ : ∃ i : Nat, Lib.indexByte l c = i := ⟨(Lib.indexByte l c).toNat, by omega⟩
    obtain ⟨h1, h2⟩ := Lib.indexByte_some hi
    obtain ⟨hl, e⟩ := List.getElem?_eq_some_iff.1 h1
    refine .inr ⟨i, hl, hi, e, fun m => ?_⟩
    obtain ⟨j, hj, e'⟩ := List.mem_iff_getElem.1 m
    rw [List.length_take] at hj
    rw [List.getElem_take] at e'
    exact h2 j (by omega) (by rw [List.getElem?_eq_getElem (by omega), e'])

def Cuts (w : World) (c : UInt8) (l : List UInt8) (e : Ending) (w' : World) : Prop :=
  (∃ a b, e = .returned (.tuple #[.string a, .string b, .bool (decide (c ∈ l))]) ∧ Str a (cutC c l).1 ∧ Str b (cutC c l).2) ∧ Below w.heap.size w w'

set_option maxRecDepth 100000 in
set_option maxHeartbeats 2000000 in
theorem cut0_calls {s : ByteArray} {l : List UInt8} (hs : Str s l) (hz : (s.size : Int) ≤ 100000) (c : UInt8) (w : World) : Calls Tryz.prog 60 #[.string s, .string ⟨#[c]⟩] w (Cuts w c l) := by
  have HI := Lib.hid (Tryz.stringslite_Index_one s c w)
  have hd : s.data.toList = l := hs
  rw [hd] at HI
  have hn := hs.size
  rcases index_cases l c with ⟨h1, h2⟩ | ⟨i, hi, h1, h2, h3⟩
  · rw [h1] at HI
    have HR := Lib.hid (show Cuts w c l (.returned (.tuple #[.string s, .string ⟨#[]⟩, .bool false])) w from ⟨⟨s, ⟨#[]⟩, by rw [decide_eq_false h2], by rw [cut_no h2]; exact hs, by rw [cut_no h2]; rfl⟩, Below.refl _ _⟩)
    clear hs hd h1 h2
    go_enter Tryz.func60, Tryz.ntmps60
    go_wp2_with fail
    refine HI.out.mono ?_
    rintro e w1 ⟨rfl, rfl⟩
    clear HI
    go_wp2_with fail
    go_ret3
    exact HR.out
  · rw [h1] at HI
    obtain ⟨a, ha, ka⟩ := hs.to_ (j := (i : Int)) i rfl (by omega)
    obtain ⟨b, hb, kb⟩ := hs.from_ (i := (i : Int) + 1) (i + 1) (by omega) (by omega)
    have HR := Lib.hid (fun n => show Cuts w c l (.returned (.tuple #[.string a, .string b, .bool true])) (w.drewN n) from ⟨⟨a, b, by rw [decide_eq_true (h2 ▸ List.getElem_mem hi)], by rw [cut_yes hi h2 h3]; exact ha, by rw [cut_yes hi h2 h3]; exact hb⟩, (Same.drewN w n).below⟩)
    clear hs hd h1 h2 h3 ha hb
    have hsz : (⟨#[c]⟩ : ByteArray).size = 1 := rfl
    have hi' : (0 : Int) ≤ (i : Int) := by omega
    go_enter Tryz.func60, Tryz.ntmps60
    go_wp2_with fail
    refine HI.out.mono ?_
    rintro e w1 ⟨rfl, rfl⟩
    clear HI
    go_wp2_with fail
    go_quiet (fail)
    go_wp2_with fail
    go_ret3
    exact HR.out _

set_option maxRecDepth 100000 in
theorem cut_calls {s : ByteArray} {l : List UInt8} (hs : Str s l) (hz : (s.size : Int) ≤ 100000) (c : UInt8) (w : World) : Calls Tryz.prog 33 #[.string s, .string ⟨#[c]⟩] w (Cuts w c l) := by
  have HI := Lib.hid (cut0_calls hs hz c w)
  clear hs hz
  go_enter Tryz.func33, Tryz.ntmps33
  go_wp2_with fail
  refine HI.out.mono ?_
  rintro e w1 ⟨⟨a, b, rfl, ha, hb⟩, hk⟩
  have HR := Lib.hid (show Cuts w c l (.returned (.tuple #[.string a, .string b, .bool (decide (c ∈ l))])) w1 from ⟨⟨a, b, rfl, ha, hb⟩, hk⟩)
  generalize decide (c ∈ l) = q at HR ⊢
  clear HI ha hb hk
  go_wp2_with fail
  go_ret3
  exact HR.out
end Go.Proofs.YtmaiggoinjldpaaGreatDoor
