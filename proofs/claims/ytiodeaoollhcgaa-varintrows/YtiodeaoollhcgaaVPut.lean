/-
  Contracts of package varint's Len and Put, and of the document's Put. No statement of the seat is proved here.
-/
import Derived.Test.YtiodeaoollhcgaaRows1
import Derived.Test.YtiodeaoollhcgaaVLen64
import Derived.Lib.QuoteBits
import Derived.Laws.MakeOwn
namespace Go.Proofs.Ytiodeaoollhcgaa
open Go.RowKit

/-- A number that has 64 bits. -/
def U64 (n : Nat) : Prop := n < 18446744073709551616

theorem or_one_u64 (n : Nat) (h : U64 n) : bits .or .u64 (n : Int) 1 = ((n / 2 * 2 + 1 : Nat) : Int) := by
  have := u64_or_nat n 1 h (by omega)
  rw [Lib.or_one_nat] at this
  exact this

theorem len_calls (n : Nat) (w : World) (h : U64 n) :
    Calls Try.prog 13 #[.int .u64 n] w fun e w' => e = .returned (.int .i64 (digs n).length) ∧ w = w' := by
  have hor := or_one_u64 n h
  have H := Lib.hid h
  have HB := Lib.hid (digs_bits n h)
  have hb : Lib.bitLen (n / 2 * 2 + 1) ≤ 64 := Lib.bitLen_le _ 64 (by omega) (by unfold U64 at h; omega)
  clear h
  generalize hx : n / 2 * 2 + 1 = x at hor hb HB
  have HX := Lib.hid hx
  clear hx
  go_enter Try.func13, Try.ntmps13
  go_wp2_with fail
  refine (len64_calls x w (by omega) (by have := H.out; unfold U64 at this; have := HX.out; omega)).mono ?_
  rintro e w' ⟨rfl, rfl⟩
  rw [Int.toNat_natCast]
  clear hor
  generalize Lib.bitLen x = r at hb HB
  have hr0 : (0 : Int) ≤ (r : Int) := by omega
  have hr1 : (r : Int) ≤ 64 := by omega
  go_wp2
  go_ret
  refine ⟨congrArg (fun z => Ending.returned (.int .i64 z)) ?_, rfl⟩
  rw [HB.out]
  omega

theorem or_more (m : Nat) : bits .or .u8 ((m : Int) % 256) 128 = ((m % 128 + 128 : Nat) : Int) := by
  have e : ((m : Int) % 256) = ((m % 256 : Nat) : Int) := by omega
  rw [e]
  have h := u8_or_nat (m % 256) 128 (by omega) (by omega)
  refine h.trans ?_
  have h1 : m % 256 ||| 128 = m % 128 + 128 := by
    have key : ∀ k : Fin 256, k.val ||| 128 = k.val % 128 + 128 := by decide +kernel
    have := key ⟨m % 256, by omega⟩
    simp only at this
    rw [this]
    omega
  rw [h1]

/-- What holds at each round's head: what was written, and what is left to write, are all bytes. -/
def PutInv (w : World) (n m : Nat) (v : Value) (wr : World) : Prop :=
  ∃ xs : List Int, wr.ownsRow w.heap.size 5 1 v xs.length (by8 xs) ∧ xs ++ digs m = digs n ∧ U64 m ∧ Below w.heap.size w wr

theorem own_blocks {w : World} {base n : Nat} {e : TypeId} {v : Value} {xs : List Value} (h : w.ownsRow base e 1 v n xs) : ∀ g, v.ownBlock = some g → base ≤ g := by
  intro g hg
  rcases h.2 with ⟨hq, _⟩ | ⟨g', c, cur, hq, hg', _⟩
  · rw [hq] at hg; cases hg
  · rw [hq] at hg; injection hg with hg; simp only [] at hg; omega

theorem own_row {w w' : World} {base n : Nat} {v : Value} {xs : List Value} (h : w'.ownsRow base 5 1 v n xs) (hb : base = w.heap.size) (hk : Below w.heap.size w w') : GivesRow w xs (.returned v) w' := by
  subst hb
  obtain rfl : n = xs.length := by have := h.1; omega
  obtain ⟨A, cap, rfl, _⟩ := own_slice h
  exact ⟨A, cap, rfl, h, hk⟩

/-- An append of one byte onto the row. -/
theorem PutInv.more {w wr w5 : World} {n m : Nat} {v v5 : Value} {xs : List Int} (hxs : xs ++ digs m = digs n) (hu : U64 m) (hb : Below w.heap.size w wr) (o : Obj)
    (hown : w5.ownsRow w.heap.size 5 1 v5 (xs.length + 1) (by8 xs ++ by8 [(m : Int) % 128 + 128])) (hg : (wr.alloc o).grownBy w5 v.ownBlock) (hv : ∀ g, v.ownBlock = some g → w.heap.size ≤ g) (hm : 128 ≤ m) : PutInv w n (m / 128) v5 w5 := by
  have e : ((m % 128 + 128 : Nat) : Int) = (m : Int) % 128 + 128 := by omega
  refine ⟨xs ++ [(m : Int) % 128 + 128], by rw [by8_append]; simpa using hown, ?_, ?_, ?_⟩
  · rw [digs_ge hm, e] at hxs
    rw [List.append_assoc, ← hxs]
    rfl
  · unfold U64 at hu ⊢
    omega
  · exact (hb.alloc hb.size o).grown hg (by have := hb.size; simp; omega) hv

theorem PutInv.done {w wr w5 : World} {n m : Nat} {v v5 : Value} {xs : List Int} (hxs : xs ++ digs m = digs n) (hb : Below w.heap.size w wr) (o : Obj)
    (hown : w5.ownsRow w.heap.size 5 1 v5 (xs.length + 1) (by8 xs ++ by8 [(m : Int)])) (hg : (wr.alloc o).grownBy w5 v.ownBlock) (hv : ∀ g, v.ownBlock = some g → w.heap.size ≤ g) (hm : m < 128) : GivesRow w (by8 (digs n)) (.returned v5) w5 := by
  rw [digs_lt hm] at hxs
  rw [← by8_append, hxs] at hown
  exact own_row hown rfl ((hb.alloc hb.size o).grown hg (by have := hb.size; simp; omega) hv)

theorem put_calls (n : Nat) (w : World) (h : U64 n) : Calls Try.prog 12 #[.int .u64 n] w (GivesRow w (by8 (digs n))) := by
  have H := Lib.hid h
  have HT := Lib.hid (digs_ten h)
  clear h
  go_enter Try.func12, Try.ntmps12
  go_wp2_with fail
  refine (len_calls n w H.out).mono ?_
  rintro e w' ⟨rfl, rfl⟩
  have hk10 := HT.out
  have hk0 := digs_pos n
  generalize hk : (digs n).length = k at hk10 hk0
  have HK := Lib.hid hk
  clear hk
  obtain ⟨ti, hi, hz, hs1, hb1⟩ := info_u8
  obtain ⟨wm, hmk, hown, hgr⟩ := run_make_own (P := Try.prog) w w.heap.size 23 5 ti (.int .u8 0) 1 Try.underlying23 hi hz hs1 .i64 .i64 k (by rw [hb1]; omega) (by unfold maxLen; omega) (Nat.le_refl _)
  have HI0 := Lib.hid (show PutInv w n n (.slice (some ⟨w.heap.size, 0, none⟩) 0 k) wm from ⟨[], hown, rfl, H.out, (Below.refl _ _).grown hgr (Nat.le_refl _) (by intro g hg; cases hg)⟩)
  clear hi hz hs1 hb1 hown hgr
  go_wp2_with fail
  clear hmk
  go_loopw [0, 3] (fun v0 v3 wr => ∃ m : Nat, v0 = .int .u64 m ∧ PutInv w n m v3 wr) (fun v0 _ _ => (intOf v0).toNat)
  case atStart => exact ⟨n, rfl, HI0.out⟩
  case round =>
    obtain ⟨m, rfl, xs, hown, hxs, hu, hb⟩ := hrel
    clear HI0
    have HXS := Lib.hid hxs
    have HU := Lib.hid hu
    have hlx : xs.length ≤ 10 := by have := congrArg List.length hxs; rw [List.length_append] at this; have := HK.out; omega
    have hsz := hb.size
    have hvb := own_blocks hown
    have HB := Lib.hid hb
    have HVB := Lib.hid hvb
    have HO := Lib.hid hown
    clear hxs hu hb hvb hown
    by_cases hm : 128 ≤ m
    · have hm' : (128 : Int) ≤ (m : Int) := by omega
      have hor := or_more m
      have HL := Lib.hid (lies_one wr ((m : Int) % 128 + 128) rfl)
      have hsz1 : w.heap.size ≤ (wr.alloc (.cells #[.int .u8 ((m : Int) % 128 + 128)] 5)).heap.size := by simp; omega
      have HO1 := Lib.hid (own_keep HO.out ((Below.refl _ _).alloc (Nat.le_refl _) (.cells #[.int .u8 ((m : Int) % 128 + 128)] 5)))
      go_wp2_with (at_builtin; refine wpList_append_row _ rfl (.tmp 9) (.tmp 13) rfl w.heap.size u3 xs.length (by8 xs) rfl HO1.out (some ⟨wr.heap.size, 0, none⟩) 1 1 (by8 [(m : Int) % 128 + 128]) rfl rfl HL.out by8_one (by omega) hsz1 ?_; intro v5 w5 hown5 hgr5 hob5; have HF := Lib.hid (PutInv.more HXS.out HU.out HB.out _ hown5 hgr5 HVB.out hm); clear hown5 hgr5 hob5 HO1 HL hsz1)
      exact ⟨⟨m / 128, by go_num, HF.out⟩, by simp [intOf]; omega⟩
    · have hm' : ¬ (128 : Int) ≤ (m : Int) := by omega
      have HL := Lib.hid (lies_one wr (m : Int) rfl)
      have hsz1 : w.heap.size ≤ (wr.alloc (.cells #[.int .u8 (m : Int)] 5)).heap.size := by simp; omega
      have HO1 := Lib.hid (own_keep HO.out ((Below.refl _ _).alloc (Nat.le_refl _) (.cells #[.int .u8 (m : Int)] 5)))
      go_wp2_with (at_builtin; refine wpList_append_row _ rfl (.tmp 17) (.tmp 20) rfl w.heap.size u3 xs.length (by8 xs) rfl HO1.out (some ⟨wr.heap.size, 0, none⟩) 1 1 (by8 [(m : Int)]) rfl rfl HL.out by8_one (by omega) hsz1 ?_; intro v5 w5 hown5 hgr5 hob5; have HF := Lib.hid (PutInv.done HXS.out HB.out _ hown5 hgr5 HVB.out (by omega)); clear hown5 hgr5 hob5 HO1 HL hsz1)
      go_ret
      exact HF.out

end Go.Proofs.Ytiodeaoollhcgaa
