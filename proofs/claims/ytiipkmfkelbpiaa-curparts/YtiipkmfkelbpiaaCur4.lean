/-
  Contracts of bytes.IndexByte, and of package cur's Until and New. No statement of the seat is proved here.
-/
import Derived.Test.YtiipkmfkelbpiaaCur3
import Derived.Lib.BytesEntry
namespace Go.Proofs.Ytiipkmfkelbpiaa
open Go.RowKit

/-- Where the first x is, or -1. -/
def idx (x : Int) (l : List Int) : Int := if St.ahead x l < l.length then St.ahead x l else -1

theorem ahead_le (x : Int) (l : List Int) : St.ahead x l ≤ l.length := by
  unfold St.ahead
  exact (List.takeWhile_sublist _).length_le

theorem ahead_cons (x z : Int) (l : List Int) : St.ahead x (z :: l) = if z = x then 0 else St.ahead x l + 1 := by
  unfold St.ahead
  by_cases h : z = x <;> simp [h]

theorem indexByte_idx (x : Int) (hx : 0 ≤ x ∧ x < 256) : ∀ l : List Int, (∀ z ∈ l, 0 ≤ z ∧ z < 256) → Lib.indexByte (Lib.bytesOf l) x.toNat.toUInt8 = idx x l
  | [], _ => by simp [Lib.bytesOf, Lib.indexByte, idx]
  | z :: l, h => by
    have ih := indexByte_idx x hx l (fun y hy => h y (List.mem_cons_of_mem _ hy))
    have hz := h z (List.mem_cons_self ..)
    have e : (z.toNat.toUInt8 == x.toNat.toUInt8) = decide (z = x) := by
      have h1 : z.toNat.toUInt8.toNat = z.toNat := by simp; omega
      have h2 : x.toNat.toUInt8.toNat = x.toNat := by simp; omega
      rw [Bool.eq_iff_iff]
      simp only [beq_iff_eq, decide_eq_true_eq]
      constructor
      · intro h'
        have := congrArg UInt8.toNat h'
        rw [h1, h2] at this
        omega
      · rintro rfl; rfl
    have hb : Lib.bytesOf (z :: l) = z.toNat.toUInt8 :: Lib.bytesOf l := by simp [Lib.bytesOf]
    rw [hb]
    simp only [Lib.indexByte, e, ih]
    have hle := ahead_le x l
    unfold idx
    rw [ahead_cons]
    by_cases hzx : z = x
    · simp [hzx]
    · by_cases hlt : St.ahead x l < l.length
      · have h1 : ¬ ((St.ahead x l : Int) = -1) := by omega
        simp [hzx, hlt, h1]
      · simp [hzx, hlt]

section
variable {R : Option Addr} {w w' : World} {p : Nat} {s : St} {tr : Option Addr}

theorem run_indexByte (w : World) (A : Option Addr) (n cap : Nat) (l : List Int) (hl : l.length = n) (hv : Lies w A (by8 l)) (hs : ∀ z ∈ l, 0 ≤ z ∧ z < 256) (x : Int) (hx : 0 ≤ x ∧ x < 256) :
    (callFunc 40 #[.slice A n cap, .int .u8 x]).run Try.prog w = .ok (.value (.int .i64 (idx x l))) w := by
  rw [run_callFunc_extern (e := Extern.BytealgIndexByte.indexByte) Try.func40 (by kernel_rfl) (by kernel_rfl) (by kernel_rfl) (by kernel_rfl)]
  have key : (Extern.BytealgIndexByte.indexByte #[.slice A n cap, .int .u8 x]).run Try.prog w = .ok (.int .i64 (idx x l)) w := by
    rcases l with _ | ⟨z, l⟩
    · simp at hl
      subst hl
      rcases A with _ | a
      · rfl
      · rfl
    · obtain ⟨b, off, rfl, _⟩ := hv 0 (.int .u8 z) rfl
      rw [← indexByte_idx x hx _ hs]
      refine Lib.run_indexByteSlice w b off n cap (z :: l) hl (fun i hi => ?_) x
      obtain ⟨b', off', e, hc⟩ := hv i (.int .u8 ((z :: l).getD i 0)) (by rw [by8_get, List.getD_eq_getElem?_getD, List.getElem?_eq_getElem (by omega)]; rfl)
      injection e with e
      injection e with e1 e2
      subst e1 e2
      exact hc
  rw [key]
  rfl

theorem indexByte_calls (w : World) (A : Option Addr) (n cap : Nat) (l : List Int) (hl : l.length = n) (hv : Lies w A (by8 l)) (hs : ∀ z ∈ l, 0 ≤ z ∧ z < 256) (x : Int) (hx : 0 ≤ x ∧ x < 256) :
    Calls Try.prog 38 #[.slice A n cap, .int .u8 x] w fun e w' => e = .returned (.int .i64 (idx x l)) ∧ w' = w := by
  have hr := run_indexByte w A n cap l hl hv hs x hx
  go_enter Try.func38, Try.ntmps38
  go_wp2
  go_ret
  exact ⟨rfl, rfl⟩

/-- What Until hands back: a row of the call's own, and whether. -/
def HandsRowIs (R : Option Addr) (w : World) (p : Nat) (out : List Int) (is : Bool) (s' : St) (tr : Option Addr) (e : Ending) (w' : World) : Prop :=
  ∃ A cap, e = .returned (.tuple #[.slice A out.length cap, .bool is]) ∧ w'.ownsRow w.heap.size 5 1 (.slice A out.length cap) out.length (by8 out) ∧ CurOk R w' p s' tr ∧ But p w w'

theorem until_calls (h : CurOk R w p s tr) (x : Int) (hx : 0 ≤ x ∧ x < 256) :
    Calls Try.prog 24 #[.pointer (some ⟨p, 0, none⟩), .int .u8 x] w (HandsRowIs R w p (s.until_ x).1 (s.until_ x).2.1 (s.until_ x).2.2 tr) := by
  have hw := wrong_calls h
  have htk := h.taken
  have hfw := h.few
  have hplt := h.lt
  by_cases hc : s.c = 0
  · have hc1 : (s.c != 0) = false := by simp [hc]
    rw [hc1] at hw
    have Hw := Lib.hid hw
    clear hw hc1
    have hle := ahead_le x (s.bs.drop s.t)
    rw [List.length_drop] at hle
    have hsm : ∀ z ∈ s.bs.drop s.t, 0 ≤ z ∧ z < 256 := fun z hz => h.small z (List.mem_of_mem_drop hz)
    by_cases hlt : St.ahead x (s.bs.drop s.t) < s.bs.length - s.t
    · have e1 : idx x (s.bs.drop s.t) = ((St.ahead x (s.bs.drop s.t) : Nat) : Int) := by unfold idx; rw [if_pos (by simpa using hlt)]
      have hr : s.until_ x = (((s.bs.drop s.t).take (St.ahead x (s.bs.drop s.t))), true, { s with t := s.t + St.ahead x (s.bs.drop s.t) + 1 }) := by
        rw [St.until_, if_neg (by simp [hc]), if_pos (by simpa using hlt)]
      rw [hr]
      clear hr
      generalize St.ahead x (s.bs.drop s.t) = k at e1 hle hlt ⊢
      have hk0 : ¬ (k : Int) < 0 := by omega
      have HE := Lib.hid e1
      clear e1
      go_enter Try.func24, Try.ntmps24
      go_wp2_with fail
      refine Hw.out.mono ?_
      rintro e w1 ⟨rfl, hb⟩
      have h1 := h.keep hb
      obtain ⟨A, cap, g1, g2, g3, g4, g5⟩ := h1.is_
      have c0 : w1.cell? ⟨p, 0, none⟩ = some (.slice A s.bs.length cap) := g1.cell 0
      have c1 : w1.cell? ⟨p, 1, none⟩ = some (.int .i64 s.t) := g1.cell 1
      have hsl := fun W => run_slice_from W A s.bs.length cap s.t htk
      have hlies := g2.cut cap s.t (s.bs.length - s.t) (by rw [by8_length]; omega) (by rw [by8_length]; exact g4)
      have hvl : ((by8 s.bs).drop s.t).take (s.bs.length - s.t) = by8 (s.bs.drop s.t) := by
        rw [List.take_of_length_le (by simp [by8_length])]
        simp [by8]
      rw [hvl] at hlies
      have hcall := fun W hW => indexByte_calls W (cutA A cap s.t) (s.bs.length - s.t) (cap - s.t) (s.bs.drop s.t) (by simp) hW hsm x hx
      have HC := Lib.hid hcall
      have HL := Lib.hid hlies
      have H1 := Lib.hid h1
      have HB := Lib.hid hb
      clear hvl hlies hcall g1 g2 g3 g4 g5 h h1 hsm hb hc
      go_wp2_with fail
      go_quiet ((go_at_call 38; exact Calls.quiet_of_same (HC.out _ HL.out)))
      have hs : Same w1 (w1.drewN nq) := .drewN _ _
      have h2 := H1.out.same hs
      have hb2 : But p w (w1.drewN nq) := (But.of_below HB.out).trans (.of_same hs)
      generalize w1.drewN nq = w2 at h2 hb2 ⊢
      clear hs c0 c1 HC HL H1 HB Hw hsl
      rw [HE.out]
      go_wp2_with fail
      refine (next_calls h2 k (by omega)).mono ?_
      rintro e w3 ⟨A', cap', rfl, hown, h3, hb3⟩
      have hlen : (s.next k).1.length = k := by simp only [St.next, List.length_take, List.length_drop]; omega
      rw [hlen] at hown
      rw [hlen]
      obtain ⟨B, capB, g1, _⟩ := h3.is_
      have c1 : w3.cell? ⟨p, 1, none⟩ = some (.int .i64 ((s.t : Int) + (k : Int))) := by
        have := g1.cell 1
        simpa [St.next] using this
      have f1 := g1.frozen 1
      have HO := Lib.hid hown
      have HN := Lib.hid hlen
      have H3 := Lib.hid h3
      have HB2 := Lib.hid hb2
      have HB3 := Lib.hid hb3
      clear g1 hown hlen h3 hb2 hb3 h2
      go_wp2
      go_ret2
      have e1 : ((s.bs.drop s.t).take k).length = k := HN.out
      have hz2 : w.heap.size ≤ w2.heap.size := HB2.out.size
      refine ⟨A', cap', by rw [e1]; rfl, ?_, ?_, (HB2.out.trans HB3.out).set 1 _⟩
      · rw [e1]
        exact ownsRow_setCell_below (own_base HO.out hz2) (by exact hplt) _
      · have := H3.out.set_taken (s.t + k + 1) (by simp only [St.next]; omega)
        simpa [St.next] using this
    · have e1 : idx x (s.bs.drop s.t) = -1 := by unfold idx; rw [if_neg (by simpa using hlt)]
      have hr : s.until_ x = (s.bs.drop s.t, false, { s with t := s.bs.length }) := by
        rw [St.until_, if_neg (by simp [hc]), if_neg (by simpa using hlt)]
      rw [hr]
      have HE := Lib.hid e1
      clear hr hlt hle e1
      go_enter Try.func24, Try.ntmps24
      go_wp2_with fail
      refine Hw.out.mono ?_
      rintro e w1 ⟨rfl, hb⟩
      have h1 := h.keep hb
      obtain ⟨A, cap, g1, g2, g3, g4, g5⟩ := h1.is_
      have c0 : w1.cell? ⟨p, 0, none⟩ = some (.slice A s.bs.length cap) := g1.cell 0
      have c1 : w1.cell? ⟨p, 1, none⟩ = some (.int .i64 s.t) := g1.cell 1
      have hsl := fun W => run_slice_from W A s.bs.length cap s.t htk
      have hlies := g2.cut cap s.t (s.bs.length - s.t) (by rw [by8_length]; omega) (by rw [by8_length]; exact g4)
      have hvl : ((by8 s.bs).drop s.t).take (s.bs.length - s.t) = by8 (s.bs.drop s.t) := by
        rw [List.take_of_length_le (by simp [by8_length])]
        simp [by8]
      rw [hvl] at hlies
      have hcall := fun W hW => indexByte_calls W (cutA A cap s.t) (s.bs.length - s.t) (cap - s.t) (s.bs.drop s.t) (by simp) hW hsm x hx
      have HC := Lib.hid hcall
      have HL := Lib.hid hlies
      have H1 := Lib.hid h1
      have HB := Lib.hid hb
      clear hvl hlies hcall g1 g2 g3 g4 g5 h h1 hsm hb hc
      go_wp2_with fail
      go_quiet ((go_at_call 38; exact Calls.quiet_of_same (HC.out _ HL.out)))
      have hs : Same w1 (w1.drewN nq) := .drewN _ _
      have h2 := H1.out.same hs
      have hb2 : But p w (w1.drewN nq) := (But.of_below HB.out).trans (.of_same hs)
      generalize w1.drewN nq = w2 at h2 hb2 ⊢
      clear hs c0 c1 HC HL H1 HB Hw hsl
      rw [HE.out]
      go_wp2_with fail
      refine h2.left.mono ?_
      rintro e w3 ⟨rfl, hs3⟩
      go_wp2_with fail
      obtain ⟨k, hk⟩ : ∃ k : Nat, s.bs.length = s.t + k := ⟨s.bs.length - s.t, by omega⟩
      rw [show ((s.bs.length : Int) - (s.t : Int)) = ((k : Nat) : Int) by omega]
      refine (next_calls (h2.same hs3) k (by omega)).mono ?_
      rintro e w4 ⟨A', cap', rfl, hown, h4, hb4⟩
      have e2 : (s.next k).1 = s.bs.drop s.t := by simp only [St.next]; exact List.take_of_length_le (by simp; omega)
      have e3 : (s.next k).2 = { s with t := s.bs.length } := by simp only [St.next, hk]
      rw [e2] at hown ⊢
      rw [e3] at h4
      have HO := Lib.hid hown
      have H4 := Lib.hid h4
      have HB2 := Lib.hid hb2
      have HB4 := Lib.hid hb4
      have HS3 := Lib.hid hs3
      clear hown h4 hb2 hb4 hs3 e2 e3 hk h2
      go_wp2
      go_ret2
      have hz2 : w.heap.size ≤ w3.heap.size := by rw [HS3.out.heap]; exact HB2.out.size
      exact ⟨A', cap', by rw [List.length_drop]; rfl, own_base HO.out hz2, H4.out, (HB2.out.trans (.of_same HS3.out)).trans HB4.out⟩
  · have hc1 : (s.c != 0) = true := by simp [hc]
    rw [hc1] at hw
    have Hw := Lib.hid hw
    have hf : s.until_ x = ([], false, s) := by simp [St.until_, hc]
    rw [hf]
    clear hw hc1 hc hf
    go_enter Try.func24, Try.ntmps24
    go_wp2_with fail
    refine Hw.out.mono ?_
    rintro e w1 ⟨rfl, hb⟩
    go_wp2
    go_ret2
    exact ⟨none, 0, rfl, ⟨rfl, .inl ⟨rfl, rfl⟩⟩, h.keep hb, .of_below hb⟩

theorem until_nil (w : World) (x : Int) : Calls Try.prog 24 #[.pointer none, .int .u8 x] w fun e w' => e = .returned (.tuple #[.slice none 0 0, .bool false]) ∧ Below w.heap.size w w' := by
  go_enter Try.func24, Try.ntmps24
  go_wp2_with fail
  refine (wrong_nil w).mono ?_
  rintro e w1 ⟨rfl, hb⟩
  go_wp2
  go_ret2
  exact ⟨rfl, hb⟩

/-- What New hands back. -/
def GivesCur (w : World) (bs : List Int) (e : Ending) (w' : World) : Prop :=
  ∃ p R, w.heap.size ≤ p ∧ (∀ x : Addr, R = some x → w.heap.size ≤ x.block ∧ x.block < p) ∧ e = .returned (.pointer (some ⟨p, 0, none⟩)) ∧ CurOk R w' p (.start bs) none ∧ Below w.heap.size w w'

theorem new_calls (w : World) (A : Option Addr) (n cap : Nat) (bs : List Int) (hl : bs.length = n) (hv : Lies w A (by8 bs)) (hs : ∀ z ∈ bs, 0 ≤ z ∧ z < 256) (hfew : n ≤ 1099511627776) (hnil : A = none → cap = 0) :
    Calls Try.prog 10 #[.slice A n cap] w (GivesCur w bs) := by
  subst hl
  have hcl := clone_calls w A bs.length cap (by8 bs) (by rw [by8_length]) hv by8_one (by omega) hnil
  have HC := Lib.hid hcl
  clear hcl
  go_enter Try.func10, Try.ntmps10
  go_wp2_with fail
  refine HC.out.mono ?_
  rintro e w1 ⟨A', cap', rfl, hown, hb⟩
  rw [by8_length] at hown
  rw [by8_length]
  have HO := Lib.hid hown
  have HB := Lib.hid hb
  clear hown hb
  go_wp2
  go_ret
  have hsz : w.heap.size ≤ w1.heap.size := HB.out.size
  refine ⟨w1.heap.size, A', hsz, ?_, rfl, ?_, HB.out.trans ((Below.refl _ _).alloc hsz _)⟩
  · intro x hx
    subst hx
    rcases HO.out.2 with ⟨hq, _⟩ | ⟨g, c, cur, hq, hg, hh, _⟩
    · cases hq
    · injection hq with hq
      injection hq with hq
      subst hq
      exact ⟨hg, own_lt hh⟩
  have hk : Below w1.heap.size w1 (w1.alloc (.cells #[.slice A' bs.length cap', .int .i64 0, .int .i64 0, .int .i64 0, .pointer none] 65)) := (Below.refl _ _).alloc (Nat.le_refl _) _
  have hcap : bs.length ≤ cap' ∧ cap' ≤ maxLen ∧ Based A' A' cap' := by
    rcases HO.out.2 with ⟨hv, hn⟩ | ⟨g, c, cur, hv, _, _, h1, h2, _⟩
    · injection hv with e1 e2 e3
      exact ⟨by omega, by rw [e3]; exact Nat.zero_le _, ⟨(fun _ => e3), rfl⟩⟩
    · injection hv with e1 _ e3
      subst e3
      exact ⟨h1, h2, ⟨(fun h => by rw [h] at e1; cases e1), rfl⟩⟩
  refine ⟨⟨A', cap', Box.new w1 65 [.slice A' bs.length cap', .int .i64 0, .int .i64 0, .int .i64 0, .pointer none], (Lies.of_own HO.out).keep hk, hcap.2.2, hcap.1, hcap.2.1⟩, Nat.zero_le _, hfew, hs⟩
end
end Go.Proofs.Ytiipkmfkelbpiaa
