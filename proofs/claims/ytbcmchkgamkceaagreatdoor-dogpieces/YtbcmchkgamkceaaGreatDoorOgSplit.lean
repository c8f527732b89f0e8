/-
  strings.Split at one byte, and strings.CutPrefix at one: what a text is cut into. No statement of the seat is proved here.
-/
import Derived.Test.YtbcmchkgamkceaaGreatDoorGrSdMath
import Derived.Test.YtbcmchkgamkceaaGreatDoorShelfP
namespace Go.Proofs.YtbcmchkgamkceaaGreatDoor
open Go.RowKit
open Dc (D D0)

theorem splitK_cuts (c : UInt8) : ∀ l : List UInt8, Lib.splitK [c] 0 (Lib.count l [c]) l = cutsB c l
  | [] => by rw [Lib.count_miss (by simp [Lib.index])]; rfl
  | b :: l => by
    have ih := splitK_cuts c l
    by_cases h : b = c
    · subst h
      rw [Lib.count_cons_eq, Nat.add_comm]
      have hix : Lib.index (b :: l) [b] = 0 := by rw [Lib.index]; simp [List.isPrefixOf]
      rw [Lib.splitK, hix, cutsB, if_pos rfl, ← ih]
      rfl
    · rw [Lib.count_cons_ne b c l h]
      have hp : ([c] : List UInt8).isPrefixOf (b :: l) = false := by simp [List.isPrefixOf, Ne.symm h]
      have hix : Lib.index (b :: l) [c] = if Lib.index l [c] == -1 then -1 else Lib.index l [c] + 1 := by rw [Lib.index, hp]; simp
      rw [cutsB, if_neg h, ← ih]
      by_cases hm : Lib.index l [c] = -1
      · rw [Lib.count_miss hm]; rfl
      · have hge := Lib.index_ge l [c]
        obtain ⟨j, hj⟩ : ∃ j : Nat, Lib.index l [c] = j := ⟨(Lib.index l [c]).toNat, by omega⟩
        have hix' : Lib.index (b :: l) [c] = ((j + 1 : Nat) : Int) := by rw [hix, if_neg (fun e => hm (beq_iff_eq.1 e)), hj]; omega
        rw [Lib.count_hit (by simp) hj, Nat.add_comm, Lib.splitK, Lib.splitK, hix', hj, if_neg (by simp; omega), if_neg (by simp)]
        simp
/-- Texts as cells. -/
def ostrsV (ps : List (List UInt8)) : List Value := ps.map fun p => .string ⟨p.toArray⟩
theorem ostrsV_get (ps : List (List UInt8)) {i : Nat} (hi : i < ps.length) : (ostrsV ps)[i]? = some (.string ⟨ps[i].toArray⟩) := by
  unfold ostrsV
  rw [List.getElem?_map, List.getElem?_eq_getElem hi]; rfl
theorem ostrsV_of {bs : List ByteArray} {ps : List (List UInt8)} (h : bs.map (·.data.toList) = ps) : bs.map Value.string = ostrsV ps := by
  subst h
  unfold ostrsV
  rw [List.map_map]
  apply List.map_congr_left
  intro b _
  obtain ⟨⟨x⟩⟩ := b
  rfl
theorem cutsB_size {s : ByteArray} {l : List UInt8} (hs : Str s l) (c : UInt8) : Lib.countB s ⟨#[c]⟩ + 1 = (cutsB c l).length ∧ (Lib.splitB ⟨#[c]⟩ 0 (Lib.countB s ⟨#[c]⟩) s).map Value.string = ostrsV (cutsB c l) := by
  have e : (Lib.splitB ⟨#[c]⟩ 0 (Lib.countB s ⟨#[c]⟩) s).map (·.data.toList) = cutsB c l := by
    rw [Lib.splitB_data]
    show Lib.splitK [c] 0 (Lib.count s.data.toList [c]) s.data.toList = _
    rw [show s.data.toList = l from hs, splitK_cuts]
  refine ⟨?_, ostrsV_of e⟩
  rw [← e, List.length_map, Lib.splitB_all ⟨#[c]⟩ (by show 1 ≤ 1; omega) 0 _ s rfl]
set_option maxRecDepth 100000 in
set_option maxHeartbeats 2000000 in
theorem split_calls {s : ByteArray} {l : List UInt8} (hs : Str s l) (hl : l.length ≤ 100000) (c : UInt8) (w : World) :
    Calls Tryz.prog 42 #[.string s, .string ⟨#[c]⟩] w fun e w' => e = .returned (.slice (some ⟨w.heap.size, 0, none⟩) (cutsB c l).length (cutsB c l).length) ∧ w' = w.alloc (.cells (ostrsV (cutsB c l)).toArray 9) := by
  have hn := hs.size
  obtain ⟨e1, e2⟩ := cutsB_size hs c
  have hle := Lib.countB_le ⟨#[c]⟩ (by show 1 ≤ 1; omega) s.size s (Nat.le_refl _)
  have hlen := Lib.splitB_all ⟨#[c]⟩ (by show 1 ≤ 1; omega) 0 (Lib.countB s ⟨#[c]⟩) s rfl
  have hC : Calls Tryz.prog 119 #[.string s, .string ⟨#[c]⟩] w fun e w' => e = .returned (.int .i64 (Lib.countB s ⟨#[c]⟩)) ∧ w' = w := by
    refine (Tryz.strings_Count_one s c w).mono fun e w' ⟨he, hw⟩ => ⟨?_, hw⟩
    rw [he]
    show _ = Ending.returned (Value.int .i64 ((Lib.count s.data.toList [c] : Nat) : Int))
    rw [Lib.count_one]
    rfl
  have hI : ∀ (x : ByteArray) (cs : Array Value), x.size ≤ s.size → Calls Tryz.prog 120 #[.string x, .string ⟨#[c]⟩] (w.alloc (.cells cs 9)) fun e w' => e = .returned (.int .i64 (Lib.indexB x ⟨#[c]⟩)) ∧ w' = w.alloc (.cells cs 9) := fun x cs _ => by
    refine (Tryz.strings_Index_one x c _).mono fun e w' ⟨he, hw⟩ => ⟨?_, hw⟩
    rw [he]
    show _ = Ending.returned (Value.int .i64 (Lib.index x.data.toList [c]))
    rw [Lib.index_one]
  have hG : Calls Tryz.prog 75 #[.string s, .string ⟨#[c]⟩, .int .i64 0, .int .i64 (-1)] w fun e w' =>
      e = .returned (.slice (some ⟨w.heap.size, 0, none⟩) (Lib.splitB ⟨#[c]⟩ 0 (Lib.countB s ⟨#[c]⟩ + 1 - 1) s).length (Lib.countB s ⟨#[c]⟩ + 1)) ∧ w' = w.alloc (.cells (Lib.cellsOf (Lib.splitB ⟨#[c]⟩ 0 (Lib.countB s ⟨#[c]⟩ + 1 - 1) s) (Lib.countB s ⟨#[c]⟩ + 1)) 9) :=
    Any.strings_genSplit_core Tryz.lays221 (by kernel_rfl) s ⟨#[c]⟩ 0 (-1) (Lib.countB s ⟨#[c]⟩ + 1) w (by omega) (by show 1 ≤ 1; omega) (Nat.zero_le _) hI hC (by decide) (by decide) (by rw [if_pos (by decide)]; omega)
  rw [Nat.add_sub_cancel, hlen, show Lib.cellsOf (Lib.splitB ⟨#[c]⟩ 0 (Lib.countB s ⟨#[c]⟩) s) (Lib.countB s ⟨#[c]⟩ + 1) = ((Lib.splitB ⟨#[c]⟩ 0 (Lib.countB s ⟨#[c]⟩) s).map Value.string).toArray from by rw [← hlen]; exact Lib.cellsOf_full _, e2, e1] at hG
  have HG := Lib.hid hG
  clear hG hC hI hlen hle e1 e2 hs hn hl
  generalize (cutsB c l).length = n at HG ⊢
  go_enter Tryz.func42, Tryz.ntmps42
  go_wp2_with fail
  refine HG.out.mono ?_
  rintro e w1 ⟨rfl, rfl⟩
  clear HG
  go_wp2_with fail
  go_ret
  exact ⟨rfl, rfl⟩

/-! What begins with a byte. -/
theorem oprefix_one (c : UInt8) (l : List UInt8) : Lib.hasPrefix l [c] = decide (l.head? = some c) := by
  unfold Lib.hasPrefix
  cases l with
  | nil => rfl
  | cons b r =>
    show (c == b && [].isPrefixOf r) = _
    by_cases h : c = b
    · subst h; simp
    · have h2 : ¬ b = c := fun e => h e.symm
      simp [h, h2]
/-- What a prefix of one byte leaves. -/
def ocutP (c : UInt8) (l : List UInt8) : List UInt8 := if l.head? = some c then l.tail else l
theorem ocutpre_calls {s : ByteArray} {l : List UInt8} (hs : Str s l) (c : UInt8) (w : World) : Calls Tryz.prog 71 #[.string s, .string ⟨#[c]⟩] w fun e w' => (∃ t, e = .returned (.tuple #[.string t, .bool (decide (l.head? = some c))]) ∧ Str t (ocutP c l)) ∧ w' = w := by
  refine (Tryz.strings_CutPrefix s ⟨#[c]⟩ w).mono fun e w' ⟨he, hw⟩ => ⟨?_, hw⟩
  rw [show s.data.toList = l from hs, show (⟨#[c]⟩ : ByteArray).data.toList = [c] from rfl, oprefix_one] at he
  refine ⟨_, he, ?_⟩
  unfold Lib.trimPrefix ocutP
  rw [oprefix_one]
  by_cases h : l.head? = some c
  · rw [if_pos h, if_pos (decide_eq_true h)]
    cases l with
    | nil => cases h
    | cons b r => exact Str.mk _
  · rw [if_neg h, decide_eq_false h]
    exact Str.mk _
end Go.Proofs.YtbcmchkgamkceaaGreatDoor
