/-
  Package class: Bad, Text, Count. No statement of the seat is proved here.
-/
import Derived.Test.YtgnpakcofkhdkaaKIs2
import Derived.Test.YtgnpakcofkhdkaaKStr
namespace Go.Proofs.Ytgnpakcofkhdkaa
open Go.RowKit

/-- The first byte that is not of a class; -1: none. -/
def bad (c : Int) (l : List UInt8) : Int := match l.findIdx? (fun b => !isOf c b.toNat) with | some i => (i : Int) | none => -1
theorem bad_at {c : Int} {l : List UInt8} {k : Nat} (hk : k < l.length) (ha : ∀ i (h : i < l.length), i < k → isOf c l[i].toNat = true) (hb : isOf c l[k].toNat = false) : bad c l = k := by
  unfold bad
  rw [(List.findIdx?_eq_some_iff_getElem (i := k)).mpr ⟨hk, by simp [hb], fun j hj => by simp [ha j (by omega) hj]⟩]
theorem bad_none {c : Int} {l : List UInt8} (ha : ∀ i (h : i < l.length), isOf c l[i].toNat = true) : bad c l = -1 := by
  unfold bad
  rw [List.findIdx?_eq_none_iff.mpr]
  intro x hx
  obtain ⟨i, hi, rfl⟩ := List.mem_iff_getElem.mp hx
  simp [ha i hi]
theorem bad_cases (c : Int) (l : List UInt8) : (∃ k : Nat, ∃ h : k < l.length, bad c l = k ∧ isOf c l[k].toNat = false ∧ ∀ i (h : i < l.length), i < k → isOf c l[i].toNat = true) ∨ (bad c l = -1 ∧ ∀ i (h : i < l.length), isOf c l[i].toNat = true) := by
  cases hf : l.findIdx? (fun b => !isOf c b.toNat) with
  | none =>
    refine .inr ⟨by unfold bad; rw [hf], fun i h => ?_⟩
    have := List.findIdx?_eq_none_iff.mp hf l[i] (List.getElem_mem h)
    simpa using this
  | some k =>
    obtain ⟨hk, hp, hj⟩ := List.findIdx?_eq_some_iff_getElem.mp hf
    refine .inl ⟨k, hk, by unfold bad; rw [hf], by simpa using hp, fun i h hi => ?_⟩
    have := hj i hi
    simpa using this

/-- What Bad answers. -/
def badC (c : Int) (l : List UInt8) : Int := if isCls c then bad c l else 0
def errC (c : Int) : Int := if isCls c then 0 else 1
def Bads (w : World) (c : Int) (l : List UInt8) (e : Ending) (w' : World) : Prop := e = .returned (.tuple #[.int .i64 (badC c l), .int .i64 (errC c)]) ∧ Below w.heap.size w w'
theorem bads_of {w w' : World} {c : Int} {l : List UInt8} {n : Int} (hc : isCls c = true) (h : bad c l = n) (hb : Below w.heap.size w w') : Bads w c l (.returned (.tuple #[.int .i64 n, .int .i64 0])) w' := by
  refine ⟨?_, hb⟩
  unfold badC errC
  rw [if_pos hc, if_pos hc, h]
theorem bads_none {w w' : World} {c : Int} {l : List UInt8} (hc : isCls c = false) (hb : Below w.heap.size w w') : Bads w c l (.returned (.tuple #[.int .i64 0, .int .i64 1])) w' := by
  refine ⟨?_, hb⟩
  unfold badC errC
  rw [hc]
  rfl

set_option maxRecDepth 100000 in
set_option maxHeartbeats 2000000 in
theorem bad_calls (c : Int) (s : ByteArray) (l : List UInt8) (h : Str s l) (hz : (s.size : Int) ≤ 100000) (w : World) : Calls Try.prog 56 #[.int .i64 c, .string s] w (Bads w c l) := by
  have HS := Lib.hid h
  have hn : s.size = l.length := h.size
  have HC := Lib.hid (isClass_calls c w)
  clear h
  obtain ⟨q, hq⟩ : ∃ q, q = isCls c := ⟨_, rfl⟩
  rw [← hq] at HC
  have HQ := Lib.hid hq
  clear hq
  rcases q with _ | _
  · go_enter Try.func56, Try.ntmps56
    go_wp2_with fail
    refine HC.out.mono ?_
    rintro e w1 ⟨rfl, hb⟩
    have HB := Lib.hid hb
    clear hb HC
    go_wp2_with fail
    go_ret2
    exact bads_none HQ.out.symm HB.out
  · go_enter Try.func56, Try.ntmps56
    go_wp2_with fail
    refine HC.out.mono ?_
    rintro e w1 ⟨rfl, hb⟩
    have HB := Lib.hid hb
    clear hb HC
    go_wp2_with fail
    go_loopw [12] (fun v12 wr => ∃ k : Nat, v12 = .int .i64 k ∧ k ≤ l.length ∧ Hid (Below w.heap.size w wr ∧ ∀ i (h : i < l.length), i < k → isOf c l[i].toNat = true)) (fun v12 _ => l.length - (intOf v12).toNat)
    case atStart => exact ⟨0, rfl, by omega, ⟨HB.out, fun i h hi => absurd hi (by omega)⟩⟩
    case round =>
      obtain ⟨k, rfl, hkl, hrel⟩ := hrel
      clear HB
      by_cases hlt : k < l.length
      · have hidx := HS.out.index (i := (k : Int)) k rfl hlt
        have hlt' : (k : Int) < (s.size : Int) := by omega
        have hbb := is_calls c (l[k].toNat : Int) wr
        obtain ⟨x, hx⟩ : ∃ x : Int, x = (l[k].toNat : Int) := ⟨_, rfl⟩
        rw [← hx] at hidx hbb
        obtain ⟨o, ho⟩ : ∃ o, o = isOf c x := ⟨_, rfl⟩
        rw [← ho] at hbb
        have HO := Lib.hid (And.intro hx ho)
        have HI := Lib.hid hbb
        clear hx ho hbb
        rcases o with _ | _
        · go_wp2_with fail
          refine HI.out.mono ?_
          rintro e w2 ⟨rfl, hb⟩
          have HB := Lib.hid (Below.trans hrel.out.1 (hb.mono hrel.out.1.size))
          clear hb HI
          go_wp2_with fail
          go_ret2
          exact bads_of HQ.out.symm (bad_at hlt hrel.out.2 (by have := HO.out; rw [← this.1]; exact this.2.symm)) HB.out
        · go_wp2_with fail
          refine HI.out.mono ?_
          rintro e w2 ⟨rfl, hb⟩
          have HB := Lib.hid (Below.trans hrel.out.1 (hb.mono hrel.out.1.size))
          clear hb HI
          go_wp2_with fail
          refine ⟨⟨k + 1, by go_num, by omega, ⟨HB.out, ?_⟩⟩, by simp [intOf]; omega⟩
          intro i hi hik
          rcases Nat.lt_or_ge i k with h1 | h1
          · exact hrel.out.2 i hi h1
          · obtain rfl : k = i := by omega
            have := HO.out; rw [← this.1]; exact this.2.symm
      · have hlt' : ¬ (k : Int) < (s.size : Int) := by omega
        go_wp2_with fail
        go_ret2
        exact bads_of HQ.out.symm (bad_none (fun i hi => hrel.out.2 i hi (by omega))) hrel.out.1
end Go.Proofs.Ytgnpakcofkhdkaa
