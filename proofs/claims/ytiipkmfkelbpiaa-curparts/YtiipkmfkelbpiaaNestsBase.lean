/-
  Bytes that are taken one by one; what stays over calls that touch a few blocks. No statement of the seat is proved here.
-/
import Derived.Test.YtiipkmfkelbpiaaKeeps
namespace Go.Proofs.Ytiipkmfkelbpiaa
open Go.RowKit

/-- The state behind k times Byte. -/
def pulls (bs : List Int) (k : Nat) : St := if k ≤ bs.length then ⟨bs, k, 0, 0⟩ else ⟨bs, bs.length, 13, bs.length⟩

theorem pulls_zero (bs : List Int) : pulls bs 0 = .start bs := by simp [pulls, St.start]
theorem pulls_succ (bs : List Int) (k : Nat) : (pulls bs k).byte.2 = pulls bs (k + 1) := by
  unfold pulls
  by_cases h : k + 1 ≤ bs.length
  · rw [if_pos (by omega), if_pos h]
    simp [St.byte, show k < bs.length by omega]
  · rw [if_neg h]
    by_cases h' : k ≤ bs.length
    · obtain rfl : k = bs.length := by omega
      rw [if_pos h']
      simp [St.byte, St.fail]
    · rw [if_neg h']
      simp [St.byte, St.fail]
theorem pulls_c (bs : List Int) (k : Nat) : (pulls bs k).c ≠ 0 ↔ bs.length < k := by
  unfold pulls
  split <;> simp <;> omega

/-- A block that holds no bytes. -/
def NoBytes (w : World) (g : Nat) : Prop := ∃ t cs, Box w g t cs ∧ ∀ z, Value.int .u8 z ∉ cs

theorem CurOk.keeps {R : Option Addr} {w w' : World} {p : Nat} {s : St} {tr : Option Addr} {S : List Nat} (h : CurOk R w p s tr) (hb : Keeps S w w') (hp : p ∉ S) (hS : ∀ g ∈ S, g < w.heap.size → NoBytes w g) : CurOk R w' p s tr := by
  obtain ⟨A, cap, h1, h2, h3, h4⟩ := h.is_
  refine ⟨⟨A, cap, Box.keeps h1 hb hp, ?_, h3, h4⟩, h.2, h.3, h.4⟩
  intro i u hu
  obtain ⟨b, off, e, hc⟩ := h2 i u hu
  refine ⟨b, off, e, ?_⟩
  have hlt : b < w.heap.size := cell_lt hc
  have hn : b ∉ S := by
    intro hm
    obtain ⟨t, cs, hbx, hno⟩ := hS b hm hlt
    have := hbx.cell (off + i)
    rw [hc] at this
    have hmem := List.mem_of_getElem? this.symm
    simp only [by8, List.getElem?_map, Option.map_eq_some_iff] at hu
    obtain ⟨z, _, rfl⟩ := hu
    exact hno z hmem
  exact (World.cell?_of_block (a := ⟨b, off + i, none⟩) (hb.block b hlt hn)).trans hc

theorem CurOk.nobytes {R : Option Addr} {w : World} {p : Nat} {s : St} {tr : Option Addr} (h : CurOk R w p s tr) : NoBytes w p := by
  obtain ⟨A, cap, h1, _⟩ := h.is_
  exact ⟨_, _, h1, by simp⟩
theorem Box.nobytes {w : World} {g : Nat} {t : TypeId} {cs : List Value} (h : Box w g t cs) (hc : ∀ z, Value.int .u8 z ∉ cs) : NoBytes w g := ⟨t, cs, h, hc⟩
theorem Keeps.mono {S S' : List Nat} {w w' : World} (h : Keeps S w w') (hs : ∀ x ∈ S, x ∈ S') : Keeps S' w w' := ⟨h.os, h.tape, h.output, h.size, fun k hk hn => h.block k hk (fun hm => hn (hs k hm))⟩
end Go.Proofs.Ytiipkmfkelbpiaa
