/-
  The walk through CurPlays: whatever bytes and calls it is handed, it returns true, and changes nothing that was there. The statement itself is proved in the last text.
-/
import Derived.Test.YtiipkmfkelbpiaaAwake
import Derived.Test.YtiipkmfkelbpiaaActs
import Derived.Test.YtiipkmfkelbpiaaPlays
import Derived.Test.YtiipkmfkelbpiaaDoesMath
import Derived.Deep.RegionHeld3
namespace Go.Proofs.Ytiipkmfkelbpiaa
open Go.RowKit

theorem CurOk.fault' {R : Option Addr} {w : World} {p : Nat} {s : St} {tr : Option Addr} (h : CurOk R w p s tr) :
    Calls Try.prog 13 #[.pointer (some ⟨p, 0, none⟩)] w fun e w' => e = .returned (.agg #[.int .i64 s.c, .int .i64 s.a]) ∧ Below w.heap.size w w' := by
  obtain ⟨A, cap, h1, _⟩ := h.is_
  exact fault_calls h1

theorem RefOk.but_cur {A R : Option Addr} {cap : Nat} {w w' : World} {p r : Nat} {s s' : St} {tr : Option Addr} (h : RefOk A cap w r s) (hc : CurOk R w p s' tr) (hb : But p w w') (hne : r ≠ p) : RefOk A cap w' r s := by
  obtain ⟨A', cap', g1, _⟩ := hc.is_
  exact ⟨h.is_.but hb hne, h.lies.but hb g1 by8_not, h.3, h.4⟩
theorem CurOk.but_ref {A R : Option Addr} {cap : Nat} {w w' : World} {p r : Nat} {s s' : St} {tr : Option Addr} (h : CurOk R w p s tr) (hr : RefOk A cap w r s') (hb : But r w w') : CurOk R w' p s tr :=
  h.elsewhere hr.is_ (by decide) (by simp) hb

/-- What holds at each round's head. -/
def PlaysInv (w : World) (A R : Option Addr) (cap p r : Nat) (bs : List Int) (wr : World) : Prop :=
  Below w.heap.size w wr ∧ ∃ s, CurOk R wr p s none ∧ RefOk A cap wr r s ∧ s.bs = bs

/-- What stays while both are only looked at. -/
structure BothSo (we : World) (A R : Option Addr) (cap p r : Nat) (s : St) (B C : Option Addr) (out : List Int) (w' : World) : Prop where
  kept : Below we.heap.size we w'
  cur : CurOk R w' p s none
  ref : RefOk A cap w' r s
  told : Lies w' B (by8 out)
  said : Lies w' C (by8 out)

section
variable {we w' w'' : World} {A R : Option Addr} {cap p r : Nat} {s : St} {B C : Option Addr} {out : List Int}
theorem BothSo.keep (h : BothSo we A R cap p r s B C out w') (hb : Below w'.heap.size w' w'') : BothSo we A R cap p r s B C out w'' :=
  ⟨below_then h.kept hb, h.cur.keep hb, h.ref.keep hb, h.told.keep hb, h.said.keep hb⟩
theorem BothSo.same (h : BothSo we A R cap p r s B C out w') (hs : Same w' w'') : BothSo we A R cap p r s B C out w'' := h.keep hs.below
theorem BothSo.drew (h : BothSo we A R cap p r s B C out w') : BothSo we A R cap p r s B C out w'.drew := h.same ⟨rfl, rfl, rfl, rfl⟩
theorem BothSo.cells (h : BothSo we A R cap p r s B C out w') :
    w'.cell? ⟨r, 1, none⟩ = some (.int .i64 s.t) ∧ w'.cell? ⟨r, 2, none⟩ = some (.int .i64 s.c) ∧ w'.cell? ⟨r, 3, none⟩ = some (.int .i64 s.a) ∧ BothSo we A R cap p r s B C out w' := ⟨h.ref.is_.cell 1, h.ref.is_.cell 2, h.ref.is_.cell 3, h⟩
theorem BothSo.of (h : w'.cell? ⟨r, 1, none⟩ = some (.int .i64 s.t) ∧ w'.cell? ⟨r, 2, none⟩ = some (.int .i64 s.c) ∧ w'.cell? ⟨r, 3, none⟩ = some (.int .i64 s.a) ∧ BothSo we A R cap p r s B C out w') : BothSo we A R cap p r s B C out w' := h.2.2.2
theorem BothSo.fault (h : BothSo we A R cap p r s B C out w') :
    Calls Try.prog 13 #[.pointer (some ⟨p, 0, none⟩)] w' fun e w'' => e = .returned (.agg #[.int .i64 s.c, .int .i64 s.a]) ∧ BothSo we A R cap p r s B C out w'' :=
  h.cur.fault'.mono fun _ _ ⟨he, hb⟩ => ⟨he, h.keep hb⟩
theorem BothSo.at_ (h : BothSo we A R cap p r s B C out w') :
    Calls Try.prog 11 #[.pointer (some ⟨p, 0, none⟩)] w' fun e w'' => e = .returned (.int .i64 s.t) ∧ BothSo we A R cap p r s B C out w'' :=
  h.cur.at_.mono fun _ _ ⟨he, hw⟩ => ⟨he, by rw [← hw]; exact h⟩
theorem BothSo.left (h : BothSo we A R cap p r s B C out w') :
    Calls Try.prog 12 #[.pointer (some ⟨p, 0, none⟩)] w' fun e w'' => e = .returned (.int .i64 ((s.bs.length : Int) - s.t)) ∧ BothSo we A R cap p r s B C out w'' :=
  h.cur.left.mono fun _ _ ⟨he, hs⟩ => ⟨he, h.same hs⟩
theorem BothSo.same_ (h : BothSo we A R cap p r s B C out w') (n cb cc : Nat) (hn : out.length = n) (hm : n ≤ maxLen) :
    Calls Try.prog 16 #[.slice B n cb, .slice C n cc] w' fun e w'' => e = .returned (.bool true) ∧ BothSo we A R cap p r s B C out w'' :=
  (same_calls w' B C n n cb cc out out hn hn h.told h.said hm hm).mono fun _ _ ⟨he, hs⟩ => ⟨by rw [he]; simp, h.same hs⟩
end

set_option maxRecDepth 100000 in
set_option maxHeartbeats 4000000 in
theorem plays_walk (A L : Option Addr) (n cap m capL : Nat) (bs : List Int) (l : List (Int × Int × Int)) (w : World) (hl : bs.length = n) (hv : Lies w A (by8 bs)) (hs : ∀ z ∈ bs, 0 ≤ z ∧ z < 256) (hnil : A = none → cap = 0)
    (hm : l.length = m) (hL : LiesActs w L l) :
    Calls Try.prog 3 #[.slice A n cap, .slice L m capL] w fun e w' => e = .returned (.bool true) ∧ Below w.heap.size w w' := by
  have HV := Lib.hid hv
  have HL := Lib.hid hl
  have HS := Lib.hid hs
  have HM := Lib.hid hm
  have HLA := Lib.hid hL
  have HN := Lib.hid hnil
  clear hv hl hs hnil hm hL
  by_cases h300 : 300 < n
  · have h3 : (300 : Int) < (n : Int) := by omega
    go_enter Try.func3, Try.ntmps3
    go_wp2_with fail
    refine (awake_calls _).mono ?_
    rintro e w9 ⟨rfl, hb9⟩
    go_wp2
    go_ret
    exact ⟨rfl, hb9⟩
  by_cases h100 : 100 < m
  · have h3 : ¬ (300 : Int) < (n : Int) := by omega
    have h4 : (100 : Int) < (m : Int) := by omega
    go_enter Try.func3, Try.ntmps3
    go_wp2_with fail
    refine (awake_calls _).mono ?_
    rintro e w9 ⟨rfl, hb9⟩
    go_wp2
    go_ret
    exact ⟨rfl, hb9⟩
  have h3 : ¬ (300 : Int) < (n : Int) := by omega
  have h4 : ¬ (100 : Int) < (m : Int) := by omega
  go_enter Try.func3, Try.ntmps3
  go_wp2_with fail
  refine (new_calls w A n cap bs HL.out HV.out HS.out (by omega) HN.out).mono ?_
  rintro e w1 ⟨p, R, hp, _, rfl, hc1, hb1⟩
  go_wp2_with fail
  have hbk : Below w1.heap.size w1 (w1.alloc (.cells #[.slice A n cap, .int .i64 0, .int .i64 0, .int .i64 0] 32)) := (Below.refl _ _).alloc (Nat.le_refl _) _
  have bx := Box.new w1 32 [.slice A n cap, .int .i64 0, .int .i64 0, .int .i64 0]
  have hc2 := hc1.keep hbk
  have b2 := below_then hb1 hbk
  have hplt := hc1.lt
  generalize hr : w1.heap.size = r at bx hplt ⊢
  generalize w1.alloc (.cells #[.slice A n cap, .int .i64 0, .int .i64 0, .int .i64 0] 32) = w2 at bx hc2 b2 ⊢
  have hr2 : RefOk A cap w2 r (.start bs) := ⟨by rw [← HL.out] at bx; exact bx, HV.out.keep b2, Nat.zero_le _, by show bs.length ≤ _; rw [HL.out]; omega⟩
  clear hr hbk bx hc1 hb1
  refine hc2.at_.mono ?_
  rintro e w' ⟨rfl, rfl⟩
  go_wp2_with fail
  refine hc2.left.mono ?_
  rintro e w3 ⟨rfl, hs3⟩
  have hc3 := hc2.same hs3
  have hr3 := hr2.same hs3
  have b3 := b2.trans hs3.below
  clear hs3 hc2 hr2 b2
  have e3 : (((St.start bs).bs.length : Int) - ((St.start bs).t : Int)) = (n : Int) := by show ((bs.length : Int) - ((0 : Nat) : Int)) = n; rw [HL.out]; omega
  rw [e3]
  have t1 : ((n : Int) != (n : Int)) = false := by simp
  clear e3
  go_wp2_with fail
  refine hc3.fault'.mono ?_
  rintro e w4 ⟨rfl, hb4⟩
  have I0 : PlaysInv w A R cap p r bs w4 := ⟨below_then b3 hb4, _, hc3.keep hb4, hr3.keep hb4, rfl⟩
  clear hc3 hr3 b3 hb4
  have hp4 : w.heap.size ≤ p := hp
  go_wp2_with fail
  go_loopw [7] (fun i wr => ∃ k : Nat, k ≤ m ∧ i = .int .i64 k ∧ PlaysInv w A R cap p r bs wr) (fun i _ => m - (intOf i).toNat)
  case atStart => exact ⟨0, Nat.zero_le _, rfl, I0⟩
  case round =>
    obtain ⟨k, hk, rfl, hb, s, hc, hrf, hbs⟩ := hrel
    clear I0
    by_cases hlt : k < m
    · obtain ⟨⟨d, nn, cc⟩, hx⟩ : ∃ x, l[k]? = some x := ⟨_, List.getElem?_eq_getElem (by rw [HM.out]; exact hlt)⟩
      have hlt' : (k : Int) < (m : Int) := by omega
      have hge' : (0 : Int) ≤ (k : Int) := by omega
      obtain ⟨lb, lo, rfl, y0, y1, y2⟩ := HLA.out.keep hb k _ hx
      simp only [] at y0 y1 y2
      go_wp2_with fail
      refine (does_calls hc d nn cc).mono ?_
      rintro e wa ⟨B, capB, rfl, hownB, ha, hba⟩
      have hra := hrf.but_cur hc hba (by omega)
      have ba := hb.trans (hba.below hp4 hb.size)
      obtain ⟨lb', lo', e', z0, z1, z2⟩ := HLA.out.keep ba k _ hx
      injection e' with e'
      injection e' with e1 e2
      subst e1 e2
      simp only [] at z0 z1 z2
      have hlB := Lies.of_own hownB
      clear y0 y1 y2 hc hrf hb hba hownB
      go_wp2_with fail
      refine (plays_calls hra d nn cc).mono ?_
      rintro e wb ⟨C, capC, rfl, hownC, hrb, hbb⟩
      have hcb := ha.but_ref hra hbb
      have hlBb := hlB.but hbb hra.is_ by8_notr
      have hlCb := Lies.of_own hownC
      have bb : Below w.heap.size w wb := ba.trans (hbb.below (by omega) ba.size)
      generalize hres : s.does d nn cc = res at hcb hrb hlBb hlCb hownC ⊢
      have hbs2 : res.2.2.bs = bs := by rw [← hres, (does_bs s d nn cc hra.taken).1, hbs]
      obtain ⟨out, is, s2⟩ := res
      simp only [] at hcb hrb hlBb hlCb hownC hbs2 ⊢
      have holen : out.length ≤ maxLen := by
        obtain ⟨_, _, hq, h1, h2, _⟩ := own_slice hownC
        omega
      have hsl : s2.bs.length = n := by rw [hbs2, HL.out]
      have HSL := Lib.hid hsl
      have HBS := Lib.hid hbs2
      have HOL := Lib.hid holen
      have hk0 : BothSo wb A R cap p r s2 B C out wb := ⟨Below.refl _ _, hcb, hrb, hlBb, hlCb⟩
      have HK0 := Lib.hid hk0
      have HBB := Lib.hid bb
      have htk := hcb.taken
      rw [hsl] at htk
      clear hbs2 hsl holen hk0 bb hlB hownC hlBb hlCb hcb hrb hbb hra ha ba z0 z1 z2 hres hbs hx
      have u1 : (is != is) = false := by simp
      have u2 : ((s2.t : Int) != (s2.t : Int)) = false := by simp
      have u3 : ((n : Int) - (s2.t : Int) != (n : Int) - (s2.t : Int)) = false := by simp
      have hwr : IntKind.i64.wrap ((n : Int) - (s2.t : Int)) = (n : Int) - (s2.t : Int) := IntWalk.i64_in _ (by omega)
      go_wp2_with fail
      go_region_held3 (fun w' => w'.cell? ⟨r, 1, none⟩ = some (.int .i64 s2.t) ∧ w'.cell? ⟨r, 2, none⟩ = some (.int .i64 s2.c) ∧ w'.cell? ⟨r, 3, none⟩ = some (.int .i64 s2.a) ∧ BothSo wb A R cap p r s2 B C out w')
        (first | exact HK0.out.drew.cells | exact BothSo.cells (by assumption) | assumption)
        (first | (go_at_call 16; refine (BothSo.same_ (we := wb) (A := A) (R := R) (cap := cap) (p := p) (r := r) (s := s2) (B := B) (C := C) (out := out) ?_ out.length _ _ rfl HOL.out).mono ?_; exact BothSo.of (by assumption); rintro e w' ⟨rfl, hb⟩) | (go_at_call 11; refine (BothSo.at_ (we := wb) (A := A) (R := R) (cap := cap) (p := p) (r := r) (s := s2) (B := B) (C := C) (out := out) ?_).mono ?_; exact BothSo.of (by assumption); rintro e w' ⟨rfl, hb⟩) | (go_at_call 12; refine (BothSo.left (we := wb) (A := A) (R := R) (cap := cap) (p := p) (r := r) (s := s2) (B := B) (C := C) (out := out) ?_).mono ?_; exact BothSo.of (by assumption); rw [HSL.out]; rintro e w' ⟨rfl, hb⟩) | (go_at_call 13; refine (BothSo.fault (we := wb) (A := A) (R := R) (cap := cap) (p := p) (r := r) (s := s2) (B := B) (C := C) (out := out) ?_).mono ?_; exact BothSo.of (by assumption); rintro e w' ⟨rfl, hb⟩))
      have HFIN := Lib.hid (show PlaysInv w A R cap p r bs w' from ⟨HBB.out.trans (hb.kept.mono HBB.out.size), s2, hb.cur, hb.ref, HBS.out⟩)
      clear hb HK0 HBB
      go_wp2
      exact ⟨⟨k + 1, by omega, by go_num, HFIN.out⟩, by simp [intOf]; omega⟩
    · have HB := Lib.hid hb
      clear hc hrf hb
      go_wp2_with fail
      refine (awake_calls wr).mono ?_
      rintro e wz ⟨rfl, hbz⟩
      go_wp2
      go_ret
      exact ⟨rfl, below_then HB.out hbz⟩
end Go.Proofs.Ytiipkmfkelbpiaa
