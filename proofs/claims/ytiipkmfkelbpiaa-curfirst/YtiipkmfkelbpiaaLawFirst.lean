/-
  The walk through CurFirst: whatever bytes, calls and fault it is handed, it returns true, and changes nothing that was there. The statement itself is proved in the last text.
-/
import Derived.Test.YtiipkmfkelbpiaaAwake
import Derived.Test.YtiipkmfkelbpiaaActs
import Derived.Test.YtiipkmfkelbpiaaDoesMath
import Derived.Deep.RegionHeld3
namespace Go.Proofs.Ytiipkmfkelbpiaa
open Go.RowKit

/-- What holds at each round's head. -/
def FirstInv (w : World) (p : Nat) (R : Option Addr) (bs : List Int) (g : Nat) (code at_ behind : Int) (k : Nat) (wr : World) : Prop :=
  Below w.heap.size w wr ∧ Box wr g 48 [.int .i64 code, .int .i64 at_, .int .i64 behind] ∧
  ∃ s, CurOk R wr p s none ∧ s.bs = bs ∧ (s.c = 0 → s.a = 0) ∧ (code ≠ 0 → 0 ≤ behind → behind < k → s.c ≠ 0)

theorem CurOk.fault {R : Option Addr} {w : World} {p : Nat} {s : St} {tr : Option Addr} (h : CurOk R w p s tr) :
    Calls Try.prog 13 #[.pointer (some ⟨p, 0, none⟩)] w fun e w' => e = .returned (.agg #[.int .i64 s.c, .int .i64 s.a]) ∧ Below w.heap.size w w' := by
  obtain ⟨A, cap, h1, _⟩ := h.is_
  exact fault_calls h1

/-- What stays while the state is only looked at. -/
structure StillSo (w we : World) (p q : Nat) (R : Option Addr) (s : St) (lb lo k : Nat) (d : Int) (A2 : Option Addr) (out : List Int) (code at_ behind : Int) (w' : World) : Prop where
  kept : Below we.heap.size we w'
  cur : CurOk R w' p s none
  act : w'.cell? ⟨lb, lo + k * 3, none⟩ = some (.int .i64 d)
  was0 : w'.cell? ⟨q, 0, none⟩ = some (.int .i64 s.c)
  was1 : w'.cell? ⟨q, 1, none⟩ = some (.int .i64 s.a)
  told : Lies w' A2 (by8 out)
  noted : Box w' w.heap.size 48 [.int .i64 code, .int .i64 at_, .int .i64 behind]

theorem StillSo.fault {w we : World} {p q : Nat} {R : Option Addr} {s : St} {lb lo k : Nat} {d : Int} {A2 : Option Addr} {out : List Int} {code at_ behind : Int} {w' : World} (h : StillSo w we p q R s lb lo k d A2 out code at_ behind w') :
    Calls Try.prog 13 #[.pointer (some ⟨p, 0, none⟩)] w' fun e w'' => e = .returned (.agg #[.int .i64 s.c, .int .i64 s.a]) ∧ StillSo w we p q R s lb lo k d A2 out code at_ behind w'' := by
  obtain ⟨h1, h2, h3, h4, h5, h6, h7⟩ := h
  refine h2.fault.mono ?_
  rintro e w'' ⟨rfl, hb⟩
  exact ⟨rfl, below_then h1 hb, h2.keep hb, (hb.cell (p := ⟨lb, lo + k * 3, none⟩) (cell_lt h3)).trans h3, (hb.cell (p := ⟨q, 0, none⟩) (cell_lt h4)).trans h4, (hb.cell (p := ⟨q, 1, none⟩) (cell_lt h5)).trans h5, h6.keep hb, h7.keep hb⟩
theorem StillSo.drew {w we : World} {p q : Nat} {R : Option Addr} {s : St} {lb lo k : Nat} {d : Int} {A2 : Option Addr} {out : List Int} {code at_ behind : Int} {w' : World} (h : StillSo w we p q R s lb lo k d A2 out code at_ behind w') : StillSo w we p q R s lb lo k d A2 out code at_ behind w'.drew := by
  obtain ⟨h1, h2, h3, h4, h5, h6, h7⟩ := h
  exact ⟨h1.drew, h2.same ⟨rfl, rfl, rfl, rfl⟩, h3, h4, h5, h6, h7⟩
theorem StillSo.cells {w we : World} {p q : Nat} {R : Option Addr} {s : St} {lb lo k : Nat} {d : Int} {A2 : Option Addr} {out : List Int} {code at_ behind : Int} {w' : World} (h : StillSo w we p q R s lb lo k d A2 out code at_ behind w') :
    w'.cell? ⟨q, 0, none⟩ = some (.int .i64 s.c) ∧ w'.cell? ⟨q, 1, none⟩ = some (.int .i64 s.a) ∧ StillSo w we p q R s lb lo k d A2 out code at_ behind w' := ⟨h.was0, h.was1, h⟩
theorem StillSo.of {w we : World} {p q : Nat} {R : Option Addr} {s : St} {lb lo k : Nat} {d : Int} {A2 : Option Addr} {out : List Int} {code at_ behind : Int} {w' : World}
    (h : w'.cell? ⟨q, 0, none⟩ = some (.int .i64 s.c) ∧ w'.cell? ⟨q, 1, none⟩ = some (.int .i64 s.a) ∧ StillSo w we p q R s lb lo k d A2 out code at_ behind w') : StillSo w we p q R s lb lo k d A2 out code at_ behind w' := h.2.2
theorem StillSo.at_ {w we : World} {p q : Nat} {R : Option Addr} {s : St} {lb lo k : Nat} {d : Int} {A2 : Option Addr} {out : List Int} {code at_ behind : Int} {w' : World} (h : StillSo w we p q R s lb lo k d A2 out code at_ behind w') :
    Calls Try.prog 11 #[.pointer (some ⟨p, 0, none⟩)] w' fun e w'' => e = .returned (.int .i64 s.t) ∧ w' = w'' := h.cur.at_

set_option maxRecDepth 100000 in
set_option maxHeartbeats 4000000 in
theorem first_walk (A L : Option Addr) (n cap m capL : Nat) (bs : List Int) (l : List (Int × Int × Int)) (code at_ behind : Int) (w : World) (hl : bs.length = n) (hv : Lies w A (by8 bs)) (hs : ∀ z ∈ bs, 0 ≤ z ∧ z < 256) (hnil : A = none → cap = 0)
    (hm : l.length = m) (hL : LiesActs w L l) :
    Calls Try.prog 5 #[.slice A n cap, .slice L m capL, .agg #[.int .i64 code, .int .i64 at_, .int .i64 behind]] w fun e w' => e = .returned (.bool true) ∧ Below w.heap.size w w' := by
  have hb0 : Below w.heap.size w (w.alloc (.cells #[.int .i64 code, .int .i64 at_, .int .i64 behind] 48)) := (Below.refl _ _).alloc (Nat.le_refl _) _
  have bx := Box.new w 48 [.int .i64 code, .int .i64 at_, .int .i64 behind]
  have HV := Lib.hid hv
  have HL := Lib.hid hl
  have HS := Lib.hid hs
  have HM := Lib.hid hm
  have HLA := Lib.hid hL
  have HN := Lib.hid hnil
  have HB0 := Lib.hid hb0
  have HBX := Lib.hid bx
  clear hv hl hs hnil hm hL hb0 bx
  by_cases h300 : 300 < n
  · have h3 : (300 : Int) < (n : Int) := by omega
    go_enter Try.func5, Try.ntmps5
    go_wp2_with fail
    refine (awake_calls _).mono ?_
    rintro e w9 ⟨rfl, hb9⟩
    go_wp2
    go_ret
    exact ⟨rfl, below_then HB0.out hb9⟩
  by_cases h100 : 100 < m
  · have h3 : ¬ (300 : Int) < (n : Int) := by omega
    have h4 : (100 : Int) < (m : Int) := by omega
    go_enter Try.func5, Try.ntmps5
    go_wp2_with fail
    refine (awake_calls _).mono ?_
    rintro e w9 ⟨rfl, hb9⟩
    go_wp2
    go_ret
    exact ⟨rfl, below_then HB0.out hb9⟩
  have h3 : ¬ (300 : Int) < (n : Int) := by omega
  have h4 : ¬ (100 : Int) < (m : Int) := by omega
  go_enter Try.func5, Try.ntmps5
  go_wp2_with fail
  refine (new_calls _ A n cap bs HL.out (HV.out.keep HB0.out) HS.out (by omega) HN.out).mono ?_
  rintro e w1 ⟨p, R, hp, _, rfl, hc1, hb1⟩
  rw [size_alloc] at hp
  have I0 : FirstInv w p R bs w.heap.size code at_ behind 0 w1 := ⟨HB0.out.trans (hb1.mono (by rw [size_alloc]; omega)), HBX.out.keep hb1, _, hc1, rfl, fun _ => rfl, fun _ h1 h2 => by simp only [Int.ofNat_zero] at h2; omega⟩
  clear hc1 hb1
  go_wp2_with fail
  go_loopw [8] (fun i wr => ∃ k : Nat, k ≤ m ∧ i = .int .i64 k ∧ FirstInv w p R bs w.heap.size code at_ behind k wr) (fun i _ => m - (intOf i).toNat)
  case atStart => exact ⟨0, Nat.zero_le _, rfl, I0⟩
  case round =>
    obtain ⟨k, hk, rfl, hb, hbx, s, hc, hbs, hz, hset⟩ := hrel
    clear I0
    by_cases hlt : k < m
    · obtain ⟨⟨d, nn, cc⟩, hx⟩ : ∃ x, l[k]? = some x := ⟨_, List.getElem?_eq_getElem (by rw [HM.out]; exact hlt)⟩
      have hlt' : (k : Int) < (m : Int) := by omega
      have hge' : (0 : Int) ≤ (k : Int) := by omega
      have x0 : wr.cell? ⟨w.heap.size, 0, none⟩ = some (.int .i64 code) := hbx.cell 0
      have x1 : wr.cell? ⟨w.heap.size, 1, none⟩ = some (.int .i64 at_) := hbx.cell 1
      have x2 : wr.cell? ⟨w.heap.size, 2, none⟩ = some (.int .i64 behind) := hbx.cell 2
      -- behind the fault that is noted, or not
      obtain ⟨s1, hs1⟩ : ∃ s1, s1 = if (k : Int) = behind then s.fail code at_ else s := ⟨_, rfl⟩
      have hf1 : s1.bs = bs ∧ (s1.c = 0 → s1.a = 0) ∧ (code ≠ 0 → 0 ≤ behind → behind < (k : Int) + 1 → s1.c ≠ 0) := by
        subst hs1
        split
        · exact ⟨(fail_bs s code at_).1.trans hbs, fail_zero s _ _ hz, fun h _ _ => fail_set s _ _ h⟩
        · exact ⟨hbs, hz, fun h1 h2 h3 => hset h1 h2 (by omega)⟩
      have HF1 := Lib.hid hf1
      have HXX := Lib.hid hx
      have HBX1 := Lib.hid hbx
      have HBW := Lib.hid hb
      clear hf1 hx hbx hb hbs hz hset
      by_cases hkb : (k : Int) = behind
      · have kb : ((k : Int) == behind) = true := by simp [hkb]
        rw [if_pos hkb] at hs1
        have HS1 := Lib.hid hs1
        clear hs1 hkb
        go_wp2_with fail
        refine (fail_calls hc code at_).mono ?_
        rw [← HS1.out]
        rintro e wa ⟨rfl, ha, hba⟩
        clear kb hc x0 x1 x2 HS1
        have HFA := Lib.hid (And.intro ha hba)
        clear ha hba
        obtain ⟨ha, hba⟩ := HFA.out
        have hpw : w.heap.size ≠ p := by omega
        have ba : Below w.heap.size w wa := HBW.out.trans (hba.below (by omega) HBW.out.size)
        have bxa := HBX1.out.but hba hpw
        clear hba
        go_wp2_with fail
        refine ha.fault.mono ?_
        rintro e wb ⟨rfl, hbb⟩
        have hb := ha.keep hbb
        have bb := below_then ba hbb
        have bxb := bxa.keep hbb
        clear hbb ba bxa ha
        go_wp2_with fail
        have bq := Box.new wb 30 [.int .i64 s1.c, .int .i64 s1.a]
        have hbc : Below wb.heap.size wb (wb.alloc (.cells #[.int .i64 s1.c, .int .i64 s1.a] 30)) := (Below.refl _ _).alloc (Nat.le_refl _) _
        have hc := hb.keep hbc
        have bc := below_then bb hbc
        have bxc := bxb.keep hbc
        generalize hq : wb.heap.size = q at bq ⊢
        have hqp : q ≠ p := by have := hb.lt; omega
        clear hq hbc bb bxb hb
        generalize wb.alloc (.cells #[.int .i64 s1.c, .int .i64 s1.a] 30) = wc at bq hc bc bxc ⊢
        refine hc.at_.mono ?_
        rintro e w' ⟨rfl, rfl⟩
        obtain ⟨lb, lo, rfl, y0, y1, y2⟩ := HLA.out.keep bc k _ HXX.out
        simp only [] at y0 y1 y2
        go_wp2_with fail
        refine (does_calls hc d nn cc).mono ?_
        rintro e wd ⟨A2, cap2, rfl, hown, h2, hb2⟩
        have hd2 := does_bs s1 d nn cc hc.taken
        have hz2 := does_zero s1 d nn cc HF1.out.2.1
        have hst := does_wrong_st s1 d nn cc
        have hwr := does_wrong s1 d nn cc
        have bd : Below w.heap.size w wd := bc.trans (hb2.below (by omega) bc.size)
        have bxd := bxc.but hb2 hpw
        have bqd := bq.but hb2 hqp
        have hl2 := Lies.of_own hown
        generalize hres : s1.does d nn cc = res at hown h2 hd2 hz2 hst hwr hl2 ⊢
        obtain ⟨out, is, s2⟩ := res
        simp only [] at hown h2 hd2 hz2 hst hwr hl2 ⊢
        have htk := h2.taken
        have hsl : s2.bs.length = n := by rw [hd2.1, HF1.out.1, HL.out]
        obtain ⟨z0, z1, z2⟩ : wd.cell? ⟨lb, lo + k * 3, none⟩ = some (.int .i64 d) ∧ wd.cell? ⟨q, 0, none⟩ = some (.int .i64 s1.c) ∧ wd.cell? ⟨q, 1, none⟩ = some (.int .i64 s1.a) := by
          obtain ⟨lb', lo', e', y0', _⟩ := HLA.out.keep bd k _ HXX.out
          injection e' with e'
          injection e' with e1 e2
          subst e1 e2
          exact ⟨y0', bqd.cell 0, bqd.cell 1⟩
        have HD := Lib.hid (And.intro hd2 (And.intro hz2 (And.intro hst hwr)))
        have HOUT := Lib.hid (And.intro hl2 bxd)
        have HBD := Lib.hid bd
        have HSL := Lib.hid hsl
        have HBQ := Lib.hid bqd
        have htk' : s2.t ≤ n := by rw [hsl] at htk; exact htk
        clear hd2 hz2 hst hwr hl2 hown hb2 bq bqd bxc bxd bc hres y0 y1 y2 hc htk hsl bd
        go_wp2_with fail
        refine h2.at_.mono ?_
        rintro e w' ⟨rfl, rfl⟩
        go_wp2_with fail
        refine h2.left.mono ?_
        rintro e we ⟨rfl, hse⟩
        rw [HSL.out]
        have t1 : ((s2.t : Int) + ((n : Int) - (s2.t : Int)) != (n : Int)) = false := by simp; omega
        have t1b : ((s2.t : Int) + ((n : Int) - (s2.t : Int))) = (n : Int) := by omega
        have he := h2.same hse
        have z0e := (hse.cell ⟨lb, lo + k * 3, none⟩).trans z0
        have z1e := (hse.cell ⟨q, 0, none⟩).trans z1
        have z2e := (hse.cell ⟨q, 1, none⟩).trans z2
        have HBE := Lib.hid (HBD.out.trans hse.below)
        have HBQE := Lib.hid (HBQ.out.same hse)
        have HOUTE := Lib.hid (And.intro (HOUT.out.1.same hse) (HOUT.out.2.same hse))
        clear hse h2 z0 z1 z2 HBQ HOUT HBD
        go_wp2_with fail
        refine he.at_.mono ?_
        rintro e w' ⟨rfl, rfl⟩
        have t2 : ¬ (s2.t : Int) < (s1.t : Int) := by have := HD.out.1.2; omega
        have t3 : ¬ s2.t < s1.t := by have := HD.out.1.2; omega
        by_cases hc0 : s1.c = 0
        · have ha0 := HF1.out.2.1 hc0
          go_wp2_with fail
          refine ⟨⟨k + 1, by omega, by go_num, HBE.out, HOUTE.out.2, s2, he, HD.out.1.1.trans HF1.out.1, HD.out.2.1, ?_⟩, by simp [intOf]; omega⟩
          intro g1 g2 g3
          exact absurd hc0 (HF1.out.2.2 g1 g2 (by omega))
        · have hne : (s1.c == 0) = false := by simp [hc0]
          have hs2 := HD.out.2.2.1 hc0
          subst hs2
          have hwr := HD.out.2.2.2 hc0
          have HWR := Lib.hid hwr
          have HC0 := Lib.hid hc0
          clear hwr t3 t2 hc0 HD HFA
          go_wp2_with fail
          have hk0 : StillSo w we p q R s2 lb lo k d A2 out code at_ behind we := ⟨Below.refl _ _, he, z0e, z1e, z2e, HOUTE.out.1, HOUTE.out.2⟩
          have HK0 := Lib.hid hk0
          clear he z0e z1e z2e hk0
          go_region_held3 (fun w' => w'.cell? ⟨q, 0, none⟩ = some (.int .i64 s2.c) ∧ w'.cell? ⟨q, 1, none⟩ = some (.int .i64 s2.a) ∧ StillSo w we p q R s2 lb lo k d A2 out code at_ behind w') (first | exact HK0.out.drew.cells | exact StillSo.cells (by assumption) | assumption) (first | (go_at_call 13; refine (StillSo.fault (w := w) (we := we) (p := p) (q := q) (R := R) (s := s2) (lb := lb) (lo := lo) (k := k) (d := d) (A2 := A2) (out := out) (code := code) (at_ := at_) (behind := behind) ?_).mono ?_; exact StillSo.of (by assumption); rintro e w' ⟨rfl, hb⟩) | (go_at_call 11; refine (StillSo.at_ (w := w) (we := we) (p := p) (q := q) (R := R) (s := s2) (lb := lb) (lo := lo) (k := k) (d := d) (A2 := A2) (out := out) (code := code) (at_ := at_) (behind := behind) ?_).mono ?_; exact StillSo.of (by assumption); rintro e w' ⟨rfl, rfl⟩))
          have HFIN := Lib.hid (show FirstInv w p R bs w.heap.size code at_ behind (k + 1) w' from ⟨HBE.out.trans (hb.kept.mono HBE.out.size), hb.noted, s2, hb.cur, HF1.out.1, HF1.out.2.1, fun _ _ _ => HC0.out⟩)
          have ya : w'.cell? ⟨lb, lo + k * 3, none⟩ = some (.int .i64 d) := hb.act
          have HTOLD := Lib.hid hb.told
          clear hb HK0 HC0 HBE HBQE HOUTE
          by_cases d0 : d = 0
          · have k0 : (d == 0) = true := by simp [d0]
            have ho : out = [0] := by have := HWR.out; rw [if_pos d0] at this; injection this
            subst ho
            obtain ⟨ob, oo, rfl, oc⟩ := HTOLD.out.at_ (i := 0) (by decide)
            have oc' : w'.cell? ⟨ob, oo, none⟩ = some (.int .u8 0) := oc
            clear d0 HWR HTOLD oc
            go_wp2
            exact ⟨⟨k + 1, by omega, by go_num, HFIN.out⟩, by simp [intOf]; omega⟩
          by_cases d1 : d = 1
          · have k0 : (d == 0) = false := by simp [d0]
            have k1 : (d == 1) = true := by simp [d1]
            have ho : out = [0] ∧ is = false := by have := HWR.out; rw [if_neg d0, if_pos d1] at this; injection this with e1 e2; injection e2 with e2 _; exact ⟨e1, e2⟩
            obtain ⟨rfl, rfl⟩ := ho
            obtain ⟨ob, oo, rfl, oc⟩ := HTOLD.out.at_ (i := 0) (by decide)
            have oc' : w'.cell? ⟨ob, oo, none⟩ = some (.int .u8 0) := oc
            clear d0 d1 HWR HTOLD oc
            go_wp2
            exact ⟨⟨k + 1, by omega, by go_num, HFIN.out⟩, by simp [intOf]; omega⟩
          by_cases d2 : d = 2
          · have k0 : (d == 0) = false := by simp [d0]
            have k1 : (d == 1) = false := by simp [d1]
            have k2 : (d == 2) = true := by simp [d2]
            have ho : out = [] := by have := HWR.out; rw [if_neg d0, if_neg d1, if_pos d2] at this; injection this
            subst ho
            clear d0 d1 d2 HWR HTOLD
            go_wp2
            exact ⟨⟨k + 1, by omega, by go_num, HFIN.out⟩, by simp [intOf]; omega⟩
          by_cases d3 : d = 3
          · have k0 : (d == 0) = false := by simp [d0]
            have k1 : (d == 1) = false := by simp [d1]
            have k2 : (d == 2) = false := by simp [d2]
            have k3 : (d == 3) = true := by simp [d3]
            have ho : out = [] ∧ is = false := by have := HWR.out; rw [if_neg d0, if_neg d1, if_neg d2, if_pos d3] at this; injection this with e1 e2; injection e2 with e2 _; exact ⟨e1, e2⟩
            obtain ⟨rfl, rfl⟩ := ho
            clear d0 d1 d2 d3 HWR HTOLD
            go_wp2
            exact ⟨⟨k + 1, by omega, by go_num, HFIN.out⟩, by simp [intOf]; omega⟩
          have k0 : (d == 0) = false := by simp [d0]
          have k1 : (d == 1) = false := by simp [d1]
          have k2 : (d == 2) = false := by simp [d2]
          have k3 : (d == 3) = false := by simp [d3]
          clear d0 d1 d2 d3 HWR HTOLD
          go_wp2
          exact ⟨⟨k + 1, by omega, by go_num, HFIN.out⟩, by simp [intOf]; omega⟩
      · have kb : ((k : Int) == behind) = false := by simp [hkb]
        rw [if_neg hkb] at hs1
        subst hs1
        clear hkb
        have HFA := Lib.hid (And.intro hc (But.refl p wr))
        clear hc
        obtain ⟨wa, hwa⟩ : ∃ wa, wa = wr := ⟨_, rfl⟩
        subst hwa
        obtain ⟨ha, hba⟩ := HFA.out
        have hpw : w.heap.size ≠ p := by omega
        have ba : Below w.heap.size w wa := HBW.out.trans (hba.below (by omega) HBW.out.size)
        have bxa := HBX1.out.but hba hpw
        clear hba
        go_wp2_with fail
        refine ha.fault.mono ?_
        rintro e wb ⟨rfl, hbb⟩
        have hb := ha.keep hbb
        have bb := below_then ba hbb
        have bxb := bxa.keep hbb
        clear hbb ba bxa ha
        go_wp2_with fail
        have bq := Box.new wb 30 [.int .i64 s1.c, .int .i64 s1.a]
        have hbc : Below wb.heap.size wb (wb.alloc (.cells #[.int .i64 s1.c, .int .i64 s1.a] 30)) := (Below.refl _ _).alloc (Nat.le_refl _) _
        have hc := hb.keep hbc
        have bc := below_then bb hbc
        have bxc := bxb.keep hbc
        generalize hq : wb.heap.size = q at bq ⊢
        have hqp : q ≠ p := by have := hb.lt; omega
        clear hq hbc bb bxb hb
        generalize wb.alloc (.cells #[.int .i64 s1.c, .int .i64 s1.a] 30) = wc at bq hc bc bxc ⊢
        refine hc.at_.mono ?_
        rintro e w' ⟨rfl, rfl⟩
        obtain ⟨lb, lo, rfl, y0, y1, y2⟩ := HLA.out.keep bc k _ HXX.out
        simp only [] at y0 y1 y2
        go_wp2_with fail
        refine (does_calls hc d nn cc).mono ?_
        rintro e wd ⟨A2, cap2, rfl, hown, h2, hb2⟩
        have hd2 := does_bs s1 d nn cc hc.taken
        have hz2 := does_zero s1 d nn cc HF1.out.2.1
        have hst := does_wrong_st s1 d nn cc
        have hwr := does_wrong s1 d nn cc
        have bd : Below w.heap.size w wd := bc.trans (hb2.below (by omega) bc.size)
        have bxd := bxc.but hb2 hpw
        have bqd := bq.but hb2 hqp
        have hl2 := Lies.of_own hown
        generalize hres : s1.does d nn cc = res at hown h2 hd2 hz2 hst hwr hl2 ⊢
        obtain ⟨out, is, s2⟩ := res
        simp only [] at hown h2 hd2 hz2 hst hwr hl2 ⊢
        have htk := h2.taken
        have hsl : s2.bs.length = n := by rw [hd2.1, HF1.out.1, HL.out]
        obtain ⟨z0, z1, z2⟩ : wd.cell? ⟨lb, lo + k * 3, none⟩ = some (.int .i64 d) ∧ wd.cell? ⟨q, 0, none⟩ = some (.int .i64 s1.c) ∧ wd.cell? ⟨q, 1, none⟩ = some (.int .i64 s1.a) := by
          obtain ⟨lb', lo', e', y0', _⟩ := HLA.out.keep bd k _ HXX.out
          injection e' with e'
          injection e' with e1 e2
          subst e1 e2
          exact ⟨y0', bqd.cell 0, bqd.cell 1⟩
        have HD := Lib.hid (And.intro hd2 (And.intro hz2 (And.intro hst hwr)))
        have HOUT := Lib.hid (And.intro hl2 bxd)
        have HBD := Lib.hid bd
        have HSL := Lib.hid hsl
        have HBQ := Lib.hid bqd
        have htk' : s2.t ≤ n := by rw [hsl] at htk; exact htk
        clear hd2 hz2 hst hwr hl2 hown hb2 bq bqd bxc bxd bc hres y0 y1 y2 hc htk hsl bd
        go_wp2_with fail
        refine h2.at_.mono ?_
        rintro e w' ⟨rfl, rfl⟩
        go_wp2_with fail
        refine h2.left.mono ?_
        rintro e we ⟨rfl, hse⟩
        rw [HSL.out]
        have t1 : ((s2.t : Int) + ((n : Int) - (s2.t : Int)) != (n : Int)) = false := by simp; omega
        have t1b : ((s2.t : Int) + ((n : Int) - (s2.t : Int))) = (n : Int) := by omega
        have he := h2.same hse
        have z0e := (hse.cell ⟨lb, lo + k * 3, none⟩).trans z0
        have z1e := (hse.cell ⟨q, 0, none⟩).trans z1
        have z2e := (hse.cell ⟨q, 1, none⟩).trans z2
        have HBE := Lib.hid (HBD.out.trans hse.below)
        have HBQE := Lib.hid (HBQ.out.same hse)
        have HOUTE := Lib.hid (And.intro (HOUT.out.1.same hse) (HOUT.out.2.same hse))
        clear hse h2 z0 z1 z2 HBQ HOUT HBD
        go_wp2_with fail
        refine he.at_.mono ?_
        rintro e w' ⟨rfl, rfl⟩
        have t2 : ¬ (s2.t : Int) < (s1.t : Int) := by have := HD.out.1.2; omega
        have t3 : ¬ s2.t < s1.t := by have := HD.out.1.2; omega
        by_cases hc0 : s1.c = 0
        · have ha0 := HF1.out.2.1 hc0
          go_wp2_with fail
          refine ⟨⟨k + 1, by omega, by go_num, HBE.out, HOUTE.out.2, s2, he, HD.out.1.1.trans HF1.out.1, HD.out.2.1, ?_⟩, by simp [intOf]; omega⟩
          intro g1 g2 g3
          exact absurd hc0 (HF1.out.2.2 g1 g2 (by omega))
        · have hne : (s1.c == 0) = false := by simp [hc0]
          have hs2 := HD.out.2.2.1 hc0
          subst hs2
          have hwr := HD.out.2.2.2 hc0
          have HWR := Lib.hid hwr
          have HC0 := Lib.hid hc0
          clear hwr t3 t2 hc0 HD HFA
          go_wp2_with fail
          have hk0 : StillSo w we p q R s2 lb lo k d A2 out code at_ behind we := ⟨Below.refl _ _, he, z0e, z1e, z2e, HOUTE.out.1, HOUTE.out.2⟩
          have HK0 := Lib.hid hk0
          clear he z0e z1e z2e hk0
          go_region_held3 (fun w' => w'.cell? ⟨q, 0, none⟩ = some (.int .i64 s2.c) ∧ w'.cell? ⟨q, 1, none⟩ = some (.int .i64 s2.a) ∧ StillSo w we p q R s2 lb lo k d A2 out code at_ behind w') (first | exact HK0.out.drew.cells | exact StillSo.cells (by assumption) | assumption) (first | (go_at_call 13; refine (StillSo.fault (w := w) (we := we) (p := p) (q := q) (R := R) (s := s2) (lb := lb) (lo := lo) (k := k) (d := d) (A2 := A2) (out := out) (code := code) (at_ := at_) (behind := behind) ?_).mono ?_; exact StillSo.of (by assumption); rintro e w' ⟨rfl, hb⟩) | (go_at_call 11; refine (StillSo.at_ (w := w) (we := we) (p := p) (q := q) (R := R) (s := s2) (lb := lb) (lo := lo) (k := k) (d := d) (A2 := A2) (out := out) (code := code) (at_ := at_) (behind := behind) ?_).mono ?_; exact StillSo.of (by assumption); rintro e w' ⟨rfl, rfl⟩))
          have HFIN := Lib.hid (show FirstInv w p R bs w.heap.size code at_ behind (k + 1) w' from ⟨HBE.out.trans (hb.kept.mono HBE.out.size), hb.noted, s2, hb.cur, HF1.out.1, HF1.out.2.1, fun _ _ _ => HC0.out⟩)
          have ya : w'.cell? ⟨lb, lo + k * 3, none⟩ = some (.int .i64 d) := hb.act
          have HTOLD := Lib.hid hb.told
          clear hb HK0 HC0 HBE HBQE HOUTE
          by_cases d0 : d = 0
          · have k0 : (d == 0) = true := by simp [d0]
            have ho : out = [0] := by have := HWR.out; rw [if_pos d0] at this; injection this
            subst ho
            obtain ⟨ob, oo, rfl, oc⟩ := HTOLD.out.at_ (i := 0) (by decide)
            have oc' : w'.cell? ⟨ob, oo, none⟩ = some (.int .u8 0) := oc
            clear d0 HWR HTOLD oc
            go_wp2
            exact ⟨⟨k + 1, by omega, by go_num, HFIN.out⟩, by simp [intOf]; omega⟩
          by_cases d1 : d = 1
          · have k0 : (d == 0) = false := by simp [d0]
            have k1 : (d == 1) = true := by simp [d1]
            have ho : out = [0] ∧ is = false := by have := HWR.out; rw [if_neg d0, if_pos d1] at this; injection this with e1 e2; injection e2 with e2 _; exact ⟨e1, e2⟩
            obtain ⟨rfl, rfl⟩ := ho
            obtain ⟨ob, oo, rfl, oc⟩ := HTOLD.out.at_ (i := 0) (by decide)
            have oc' : w'.cell? ⟨ob, oo, none⟩ = some (.int .u8 0) := oc
            clear d0 d1 HWR HTOLD oc
            go_wp2
            exact ⟨⟨k + 1, by omega, by go_num, HFIN.out⟩, by simp [intOf]; omega⟩
          by_cases d2 : d = 2
          · have k0 : (d == 0) = false := by simp [d0]
            have k1 : (d == 1) = false := by simp [d1]
            have k2 : (d == 2) = true := by simp [d2]
            have ho : out = [] := by have := HWR.out; rw [if_neg d0, if_neg d1, if_pos d2] at this; injection this
            subst ho
            clear d0 d1 d2 HWR HTOLD
            go_wp2
            exact ⟨⟨k + 1, by omega, by go_num, HFIN.out⟩, by simp [intOf]; omega⟩
          by_cases d3 : d = 3
          · have k0 : (d == 0) = false := by simp [d0]
            have k1 : (d == 1) = false := by simp [d1]
            have k2 : (d == 2) = false := by simp [d2]
            have k3 : (d == 3) = true := by simp [d3]
            have ho : out = [] ∧ is = false := by have := HWR.out; rw [if_neg d0, if_neg d1, if_neg d2, if_pos d3] at this; injection this with e1 e2; injection e2 with e2 _; exact ⟨e1, e2⟩
            obtain ⟨rfl, rfl⟩ := ho
            clear d0 d1 d2 d3 HWR HTOLD
            go_wp2
            exact ⟨⟨k + 1, by omega, by go_num, HFIN.out⟩, by simp [intOf]; omega⟩
          have k0 : (d == 0) = false := by simp [d0]
          have k1 : (d == 1) = false := by simp [d1]
          have k2 : (d == 2) = false := by simp [d2]
          have k3 : (d == 3) = false := by simp [d3]
          clear d0 d1 d2 d3 HWR HTOLD
          go_wp2
          exact ⟨⟨k + 1, by omega, by go_num, HFIN.out⟩, by simp [intOf]; omega⟩
    · have x0 : wr.cell? ⟨w.heap.size, 0, none⟩ = some (.int .i64 code) := hbx.cell 0
      have x2 : wr.cell? ⟨w.heap.size, 2, none⟩ = some (.int .i64 behind) := hbx.cell 2
      have HBW := Lib.hid hb
      have hset' : code ≠ 0 → 0 ≤ behind → behind < (m : Int) → s.c ≠ 0 := fun h1 h2 h3 => hset h1 h2 (by omega)
      have HSET := Lib.hid hset'
      have fin : ∀ (wz : World), Below w.heap.size w wz → Calls Try.prog 9 #[] wz fun e w' => e = .returned (.bool true) ∧ Below w.heap.size w w' := fun wz hz => (awake_calls wz).mono fun e w' ⟨he, h'⟩ => ⟨he, below_then hz h'⟩
      have FIN := Lib.hid fin
      clear hbx hb hbs hz hset fin hset'
      by_cases g0 : 0 ≤ behind
      · by_cases g1 : behind < (m : Int)
        · by_cases g2 : code = 0
          · have t2 : (code != 0) = false := by simp [g2]
            clear g2
            go_wp2_with fail
            refine (FIN.out _ HBW.out).mono ?_
            rintro e wz ⟨rfl, hbz⟩
            go_wp2
            go_ret
            exact ⟨rfl, hbz⟩
          · have t2 : (code != 0) = true := by simp [g2]
            have hsc := HSET.out g2 g0 g1
            have t3 : (s.c == 0) = false := by simp [hsc]
            clear g2 hsc
            go_wp2_with fail
            refine hc.fault.mono ?_
            rintro e wy ⟨rfl, hby⟩
            clear x0 x2
            go_wp2_with fail
            refine (FIN.out _ (HBW.out.trans (hby.mono HBW.out.size))).mono ?_
            rintro e wz ⟨rfl, hbz⟩
            go_wp2
            go_ret
            exact ⟨rfl, hbz⟩
        · have t1 : ¬ behind < (m : Int) := g1
          clear g1
          go_wp2_with fail
          refine (FIN.out _ HBW.out).mono ?_
          rintro e wz ⟨rfl, hbz⟩
          go_wp2
          go_ret
          exact ⟨rfl, hbz⟩
      · have t0 : behind < 0 := by omega
        clear g0
        go_wp2_with fail
        refine (FIN.out _ HBW.out).mono ?_
        rintro e wz ⟨rfl, hbz⟩
        go_wp2
        go_ret
        exact ⟨rfl, hbz⟩
end Go.Proofs.Ytiipkmfkelbpiaa
