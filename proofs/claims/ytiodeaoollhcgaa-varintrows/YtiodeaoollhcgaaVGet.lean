/-
  The contract of package varint's Get. No statement of the seat is proved here.
-/
import Derived.Test.YtiodeaoollhcgaaVNumber
namespace Go.Proofs.Ytiodeaoollhcgaa
open Go.RowKit

/-- What Get answers: nothing beside an error. -/
def got (bs : List Int) : Nat × Nat × Int := if (scan 0 0 bs).2.2 = 0 then scan 0 0 bs else (0, 0, (scan 0 0 bs).2.2)

/-- What Get hands back; nothing old is changed. -/
def Gets (w : World) (r : Nat × Nat × Int) (e : Ending) (w' : World) : Prop :=
  e = .returned (.tuple #[.int .u64 r.1, .int .i64 r.2.1, .int .i64 r.2.2]) ∧ Below w.heap.size w w'

/-- Where Get stands: k bytes were told. -/
structure GetAt (w : World) (A : Option Addr) (n cap g q : Nat) (bs : List Int) (k : Nat) (w1 : World) : Prop where
  kept : Below w.heap.size w w1
  lies : Lies w1 A (by8 bs)
  row : Box w1 g 23 [.slice A n cap]
  at_ : Box w1 q 3 [.int .i64 k]

section
variable {w w1 : World} {A : Option Addr} {n cap g q k : Nat} {bs : List Int}
theorem by8_noti {bs : List Int} {k : Int} : ∀ u ∈ by8 bs, u ∉ [Value.int .i64 k] := by
  intro u hu
  simp only [by8, List.mem_map] at hu
  obtain ⟨z, _, rfl⟩ := hu
  simp

theorem GetAt.set (h : GetAt w A n cap g q bs k w1) (hq : w.heap.size ≤ q) (m : Nat) : GetAt w A n cap g q bs m (w1.setCell ⟨q, 0, none⟩ (.int .i64 m)) :=
  ⟨h.kept.setCell (p := ⟨q, 0, none⟩) hq _, h.lies.but ((But.refl q w1).set 0 _) h.at_ by8_noti, h.row.far (q := ⟨q, 0, none⟩) (h.row.ne h.at_ (by decide)) _, h.at_.set 0 _⟩

theorem get1_next (h : GetAt w A n cap g q bs k w1) (hl : bs.length = n) (hq : w.heap.size ≤ q) (hk : k < bs.length) (hn : n ≤ maxLen) :
    Calls Try.prog 29 #[.pointer (some ⟨q, 0, none⟩), .pointer (some ⟨g, 0, none⟩)] w1 (Tells (bs.getD k 0) true (GetAt w A n cap g q bs (k + 1))) := by
  unfold maxLen at hn
  have HH := Lib.hid h
  have c0 : w1.cell? ⟨q, 0, none⟩ = some (.int .i64 k) := h.at_.cell 0
  have f0 := h.at_.frozen 0
  have c1 : w1.cell? ⟨g, 0, none⟩ = some (.slice A n cap) := h.row.cell 0
  have hne : g ≠ q := h.row.ne h.at_ (by decide)
  have HS := Lib.hid (h.set hq (k + 1))
  obtain ⟨b, off, rfl, hcell⟩ := HS.out.lies.at_ (i := k) (by rw [by8_length]; exact hk)
  have hcell' : (w1.setCell ⟨q, 0, none⟩ (.int .i64 ((k : Int) + 1))).cell? ⟨b, off + k, none⟩ = some (.int .u8 (bs.getD k 0)) := by
    have e : (((k + 1 : Nat)) : Int) = (k : Int) + 1 := by omega
    rw [e] at hcell
    rw [hcell]
    simp [by8, hk]
  generalize bs.getD k 0 = x at hcell' ⊢
  have hlt : (k : Int) < (n : Int) := by omega
  have hge : (0 : Int) ≤ (k : Int) := by omega
  have hne' : ((k : Int) == (n : Int)) = false := by simp; omega
  clear h hcell
  go_enter Try.func29, Try.ntmps29
  go_wp2_with fail
  go_ret2
  exact ⟨rfl, by have := HS.out; simpa using this⟩

theorem get1_end (h : GetAt w A n cap g q bs bs.length w1) (hl : bs.length = n) :
    Calls Try.prog 29 #[.pointer (some ⟨q, 0, none⟩), .pointer (some ⟨g, 0, none⟩)] w1 (Tells 0 false (fun w2 => Below w.heap.size w w2)) := by
  subst hl
  have c0 : w1.cell? ⟨q, 0, none⟩ = some (.int .i64 bs.length) := h.at_.cell 0
  have c1 : w1.cell? ⟨g, 0, none⟩ = some (.slice A bs.length cap) := h.row.cell 0
  have HK := Lib.hid h.kept
  have hne' : ((bs.length : Int) == (bs.length : Int)) = true := by simp
  clear h
  go_enter Try.func29, Try.ntmps29
  go_wp2_with fail
  go_ret2
  exact ⟨rfl, HK.out⟩

set_option maxRecDepth 100000 in
theorem get_calls (w : World) (A : Option Addr) (n cap : Nat) (bs : List Int) (hl : bs.length = n) (hv : Lies w A (by8 bs)) (hs : ∀ z ∈ bs, 0 ≤ z ∧ z < 256) (hn : n ≤ maxLen) :
    Calls Try.prog 15 #[.slice A n cap] w (Gets w (got bs)) := by
  have hmf : ∀ (fn : Fn) (first cap : Array Value) (w : World), (Instr.makeFunc fn first cap).run Try.prog w = .ok (.func fn first cap) w := fun _ _ _ _ => rfl
  have hk1 : Below w.heap.size w (w.alloc (.cells #[.slice A n cap] 23)) := (Below.refl _ _).alloc (Nat.le_refl _) _
  have b1 := (Box.new w 23 [.slice A n cap]).alloc (.cells #[.int .i64 0] 3)
  have b2 := Box.new (w.alloc (.cells #[.slice A n cap] 23)) 3 [.int .i64 0]
  rw [size_alloc] at b2
  have hk2 := hk1.alloc (by rw [size_alloc]; omega) (.cells #[.int .i64 0] 3)
  have HG := Lib.hid (show GetAt w A n cap w.heap.size (w.heap.size + 1) bs 0 ((w.alloc (.cells #[.slice A n cap] 23)).alloc (.cells #[.int .i64 0] 3)) from ⟨hk2, hv.keep hk2, b1, b2⟩)
  have HL := Lib.hid hl
  have HS := Lib.hid hs
  have HN := Lib.hid hn
  clear hk1 b1 b2 hk2 hl hv hs hn
  go_enter Try.func15, Try.ntmps15
  go_wp2_with fail
  refine (number_calls _ 29 #[.pointer (some ⟨w.heap.size + 1, 0, none⟩), .pointer (some ⟨w.heap.size, 0, none⟩)] (fun _ _ => by kernel_rfl) bs HS.out (GetAt w A n cap w.heap.size (w.heap.size + 1) bs) (fun w2 => Below w.heap.size w w2)
    (fun k w1 hk h => get1_next h HL.out (by omega) hk HN.out) (fun w1 h => get1_end h HL.out) HG.out).mono ?_
  rintro e w1 ⟨rfl, hw1⟩
  have hg : got bs = got bs := rfl
  conv at hg => rhs; unfold got
  generalize scan 0 0 bs = t at hg hw1 ⊢
  obtain ⟨x, j, c⟩ := t
  simp only at hw1 hg ⊢
  have HW := Lib.hid hw1
  clear hw1 HG hmf HL HS HN
  by_cases hc : c = 0
  · rw [if_pos hc] at hg
    subst hc
    have HGO := Lib.hid hg
    clear hg
    have HW1 : GetAt w A n cap w.heap.size (w.heap.size + 1) bs j w1 := by
      have := HW.out
      rw [if_neg (by decide)] at this
      exact this
    have c0 : w1.cell? ⟨w.heap.size + 1, 0, none⟩ = some (.int .i64 j) := HW1.at_.cell 0
    have HK := Lib.hid HW1.kept
    clear HW1 HW
    go_wp2_with fail
    go_quiet (fail)
    go_wp2_with fail
    exact bodyPost_ret (v := .tuple #[.int .u64 x, .int .i64 j, .int .i64 0]) (by simp [results, Try.results15, go_sem]) rfl ⟨by rw [HGO.out], HK.out.trans (Same.drewN _ _).below⟩
  · rw [if_neg hc] at hg
    have HGO := Lib.hid hg
    clear hg
    have hc' : (c != 0) = true := by simp [hc]
    have hk : Below w.heap.size w w1 := by
      have := HW.out
      by_cases h13 : c = 13
      · rw [if_pos h13] at this; exact this
      · rw [if_neg h13] at this; exact this.kept
    have HK := Lib.hid hk
    clear hk
    clear HW hc
    go_wp2_with fail
    exact bodyPost_ret (v := .tuple #[.int .u64 0, .int .i64 0, .int .i64 c]) (by simp [results, Try.results15, go_sem]) rfl ⟨by rw [HGO.out]; rfl, HK.out⟩
end
end Go.Proofs.Ytiodeaoollhcgaa
