/-
  Package metric: Check. No statement of the seat is proved here.
-/
import Derived.Test.YteffankkelbhiaaMPa
namespace Go.Proofs.Yteffankkelbhiaa
open Go.RowKit
open Dc (D D0)

theorem check_first {m : Mt} {c0 c1 c2 c3 c4 c5 : Int} (h0 : codeIf (nameR m.name) 15 = c0) (h1 : codeIf (kindR m.kind) 16 = c1) (h2 : codeIf (valsR (okV m.vals) m.vals.length) 17 = c2) (h3 : codeIf (rateR m.kind m.rate) 18 = c3) (h4 : codeIf (tagsR m.tags) 19 = c4) (h5 : codeIf (timeR m.time) 20 = c5) :
    checkM m = if c0 ≠ 0 then c0 else if c1 ≠ 0 then c1 else if c2 ≠ 0 then c2 else if c3 ≠ 0 then c3 else if c4 ≠ 0 then c4 else if c5 ≠ 0 then c5 else 0 := by
  subst h0 h1 h2 h3 h4 h5
  unfold checkM restM codeIf
  cases nameR m.name <;> cases kindR m.kind <;> cases valsR (okV m.vals) m.vals.length <;> cases rateR m.kind m.rate <;> cases tagsR m.tags <;> cases timeR m.time <;> simp

/-- The row of what has to be right. -/
def rowV (v : Value) : List Value := [.func (.func 34) #[v] #[], .func (.func 35) #[v] #[], .func (.func 36) #[v] #[], .func (.func 37) #[v] #[], .func (.func 38) #[v] #[], .func (.func 39) #[v] #[]]

set_option maxRecDepth 100000 in
set_option maxHeartbeats 8000000 in
theorem mcheck_calls {w : World} {s : ByteArray} {A B : Option Addr} {n k ca cb : Nat} {m : Mt} (h : MIs w s A n B k m) (hz : Small m) :
    Calls Try.prog 21 #[mV s m.kind A n ca m.rate B k cb m.time] w fun e w' => e = .returned (.int .i64 (checkM m)) ∧ Below w.heap.size w w' := by
  obtain ⟨c0, h0⟩ : ∃ c, codeIf (nameR m.name) 15 = c := ⟨_, rfl⟩
  obtain ⟨c1, h1⟩ : ∃ c, codeIf (kindR m.kind) 16 = c := ⟨_, rfl⟩
  obtain ⟨c2, h2⟩ : ∃ c, codeIf (valsR (okV m.vals) m.vals.length) 17 = c := ⟨_, rfl⟩
  obtain ⟨c3, h3⟩ : ∃ c, codeIf (rateR m.kind m.rate) 18 = c := ⟨_, rfl⟩
  obtain ⟨c4, h4⟩ : ∃ c, codeIf (tagsR m.tags) 19 = c := ⟨_, rfl⟩
  obtain ⟨c5, h5⟩ : ∃ c, codeIf (timeR m.time) 20 = c := ⟨_, rfl⟩
  have hq := check_first h0 h1 h2 h3 h4 h5
  obtain ⟨q, hq0⟩ : ∃ q, checkM m = q := ⟨_, rfl⟩
  rw [hq0] at hq ⊢
  have HQ := Lib.hid hq
  have hN := fun W => name_calls (kd := m.kind) (A := A) (n := n) (ca := ca) (rt := m.rate) (B := B) (k := k) (cb := cb) (tm := m.time) h.name hz.name W
  have hK := fun W => kind_calls (s := s) (kd := m.kind) (A := A) (n := n) (ca := ca) (rt := m.rate) (B := B) (k := k) (cb := cb) (tm := m.time) W
  have hV := fun W (b : Below w.heap.size w W) => values_calls (s := s) (kd := m.kind) (ca := ca) (rt := m.rate) (B := B) (k := k) (cb := cb) (tm := m.time) h.vlen (h.vals.keep b) (by have := h.vlen; have := hz.vals; omega) hz.fits
  have hR := fun W => rate_calls (s := s) (kd := m.kind) (A := A) (n := n) (ca := ca) (rt := m.rate) (B := B) (k := k) (cb := cb) (tm := m.time) W
  have hT := fun W (b : Below w.heap.size w W) => tags_calls (s := s) (kd := m.kind) (A := A) (n := n) (ca := ca) (rt := m.rate) (cb := cb) (tm := m.time) h.tlen (h.tags.keep b) (by have := h.tlen; have := hz.tags; omega) hz.lens
  have hM := fun W => time_calls (s := s) (kd := m.kind) (A := A) (n := n) (ca := ca) (rt := m.rate) (B := B) (k := k) (cb := cb) (tm := m.time) W
  rw [h0] at hN
  rw [h1] at hK
  rw [h2] at hV
  rw [h3] at hR
  rw [h4] at hT
  rw [h5] at hM
  clear h0 h1 h2 h3 h4 h5 hq hq0 h hz
  generalize m.kind = kd at *
  generalize m.rate = rt at *
  generalize m.time = tm at *
  have HB0 := Lib.hid (((Kb.start w).push 25 (mC s kd A n ca rt B k cb tm)).push 61 (mC s kd A n ca rt B k cb tm) |>.push 62 (rowV (mV s kd A n ca rt B k cb tm)))
  rw [size_alloc, size_alloc] at HB0
  unfold mC rowV at HB0
  unfold mV at HB0 hN hK hV hR hT hM ⊢
  have HN := Lib.hid hN
  have HK := Lib.hid hK
  have HV := Lib.hid hV
  have HR := Lib.hid hR
  have HT := Lib.hid hT
  have HM := Lib.hid hM
  clear hN hK hV hR hT hM
  go_enter Try.func21, Try.ntmps21
  go_wp2_with fail
  go_loopw [22] (fun v wr => ∃ i : Nat, v = .int .i64 i ∧ i ≤ 6 ∧ Hid (Below w.heap.size w wr ∧ Box wr (w.heap.size + 1 + 1) 62 (rowV (.agg #[.string s, .int .i64 kd, .slice A n ca, .int .i64 rt, .slice B k cb, .int .i64 tm])) ∧ (0 < i → c0 = 0) ∧ (1 < i → c1 = 0) ∧ (2 < i → c2 = 0) ∧ (3 < i → c3 = 0) ∧ (4 < i → c4 = 0) ∧ (5 < i → c5 = 0))) (fun v _ => 6 - (intOf v).toNat)
  case atStart => exact ⟨0, rfl, by omega, ⟨HB0.out.kept, HB0.out.box _ (by simp; left; rfl), by omega, by omega, by omega, by omega, by omega, by omega⟩⟩
  case round =>
    obtain ⟨i, rfl, hi, hrel⟩ := hrel
    clear HB0
    obtain ⟨k0, k1, k2, k3, k4, k5⟩ := hrel.out.2.2
    rcases (by omega : i = 0 ∨ i = 1 ∨ i = 2 ∨ i = 3 ∨ i = 4 ∨ i = 5 ∨ i = 6) with rfl | rfl | rfl | rfl | rfl | rfl | rfl
    · have cc : wr.cell? ⟨w.heap.size + 1 + 1, 0, none⟩ = some (.func (.func 34) #[.agg #[.string s, .int .i64 kd, .slice A n ca, .int .i64 rt, .slice B k cb, .int .i64 tm]] #[]) := hrel.out.2.1.cell 0
      have HKK := Lib.hid (And.intro k0 (And.intro k1 (And.intro k2 (And.intro k3 (And.intro k4 k5)))))
      clear k0 k1 k2 k3 k4 k5
      go_wp2_with fail
      refine (HN.out _).mono ?_
      rintro e w2 ⟨rfl, hb⟩
      have HB2 := Lib.hid (And.intro (below_then hrel.out.1 hb) (hrel.out.2.1.keep hb))
      clear hb cc
      by_cases hc : c0 = 0
      · have HC := Lib.hid hc
        go_wp2_with fail
        refine ⟨⟨1, by first | rfl | go_num, by omega, ⟨HB2.out.1, HB2.out.2, fun _ => HC.out, by omega, by omega, by omega, by omega, by omega⟩⟩, by simp [intOf]⟩
      · have HE := Lib.hid (show q = c0 by
          have h := HQ.out
          obtain ⟨k0, k1, k2, k3, k4, k5⟩ := HKK.out
          rw [ if_pos hc] at h
          exact h)
        go_wp2_with fail
        go_ret
        exact ⟨by rw [HE.out]; rfl, HB2.out.1⟩
    · have cc : wr.cell? ⟨w.heap.size + 1 + 1, 1, none⟩ = some (.func (.func 35) #[.agg #[.string s, .int .i64 kd, .slice A n ca, .int .i64 rt, .slice B k cb, .int .i64 tm]] #[]) := hrel.out.2.1.cell 1
      have HKK := Lib.hid (And.intro k0 (And.intro k1 (And.intro k2 (And.intro k3 (And.intro k4 k5)))))
      clear k0 k1 k2 k3 k4 k5
      go_wp2_with fail
      refine (HK.out _).mono ?_
      rintro e w2 ⟨rfl, hb⟩
      have HB2 := Lib.hid (And.intro (below_then hrel.out.1 hb) (hrel.out.2.1.keep hb))
      clear hb cc
      by_cases hc : c1 = 0
      · have HC := Lib.hid hc
        go_wp2_with fail
        refine ⟨⟨2, by first | rfl | go_num, by omega, ⟨HB2.out.1, HB2.out.2, fun _ => HKK.out.1 (by omega), fun _ => HC.out, by omega, by omega, by omega, by omega⟩⟩, by simp [intOf]⟩
      · have HE := Lib.hid (show q = c1 by
          have h := HQ.out
          obtain ⟨k0, k1, k2, k3, k4, k5⟩ := HKK.out
          rw [if_neg (not_not_intro (k0 (by omega))), if_pos hc] at h
          exact h)
        go_wp2_with fail
        go_ret
        exact ⟨by rw [HE.out]; rfl, HB2.out.1⟩
    · have cc : wr.cell? ⟨w.heap.size + 1 + 1, 2, none⟩ = some (.func (.func 36) #[.agg #[.string s, .int .i64 kd, .slice A n ca, .int .i64 rt, .slice B k cb, .int .i64 tm]] #[]) := hrel.out.2.1.cell 2
      have HKK := Lib.hid (And.intro k0 (And.intro k1 (And.intro k2 (And.intro k3 (And.intro k4 k5)))))
      clear k0 k1 k2 k3 k4 k5
      go_wp2_with fail
      refine (HV.out _ hrel.out.1).mono ?_
      rintro e w2 ⟨rfl, hb⟩
      have HB2 := Lib.hid (And.intro (below_then hrel.out.1 hb) (hrel.out.2.1.keep hb))
      clear hb cc
      by_cases hc : c2 = 0
      · have HC := Lib.hid hc
        go_wp2_with fail
        refine ⟨⟨3, by first | rfl | go_num, by omega, ⟨HB2.out.1, HB2.out.2, fun _ => HKK.out.1 (by omega), fun _ => HKK.out.2.1 (by omega), fun _ => HC.out, by omega, by omega, by omega⟩⟩, by simp [intOf]⟩
      · have HE := Lib.hid (show q = c2 by
          have h := HQ.out
          obtain ⟨k0, k1, k2, k3, k4, k5⟩ := HKK.out
          rw [if_neg (not_not_intro (k0 (by omega))), if_neg (not_not_intro (k1 (by omega))), if_pos hc] at h
          exact h)
        go_wp2_with fail
        go_ret
        exact ⟨by rw [HE.out]; rfl, HB2.out.1⟩
    · have cc : wr.cell? ⟨w.heap.size + 1 + 1, 3, none⟩ = some (.func (.func 37) #[.agg #[.string s, .int .i64 kd, .slice A n ca, .int .i64 rt, .slice B k cb, .int .i64 tm]] #[]) := hrel.out.2.1.cell 3
      have HKK := Lib.hid (And.intro k0 (And.intro k1 (And.intro k2 (And.intro k3 (And.intro k4 k5)))))
      clear k0 k1 k2 k3 k4 k5
      go_wp2_with fail
      refine (HR.out _).mono ?_
      rintro e w2 ⟨rfl, hb⟩
      have HB2 := Lib.hid (And.intro (below_then hrel.out.1 hb) (hrel.out.2.1.keep hb))
      clear hb cc
      by_cases hc : c3 = 0
      · have HC := Lib.hid hc
        go_wp2_with fail
        refine ⟨⟨4, by first | rfl | go_num, by omega, ⟨HB2.out.1, HB2.out.2, fun _ => HKK.out.1 (by omega), fun _ => HKK.out.2.1 (by omega), fun _ => HKK.out.2.2.1 (by omega), fun _ => HC.out, by omega, by omega⟩⟩, by simp [intOf]⟩
      · have HE := Lib.hid (show q = c3 by
          have h := HQ.out
          obtain ⟨k0, k1, k2, k3, k4, k5⟩ := HKK.out
          rw [if_neg (not_not_intro (k0 (by omega))), if_neg (not_not_intro (k1 (by omega))), if_neg (not_not_intro (k2 (by omega))), if_pos hc] at h
          exact h)
        go_wp2_with fail
        go_ret
        exact ⟨by rw [HE.out]; rfl, HB2.out.1⟩
    · have cc : wr.cell? ⟨w.heap.size + 1 + 1, 4, none⟩ = some (.func (.func 38) #[.agg #[.string s, .int .i64 kd, .slice A n ca, .int .i64 rt, .slice B k cb, .int .i64 tm]] #[]) := hrel.out.2.1.cell 4
      have HKK := Lib.hid (And.intro k0 (And.intro k1 (And.intro k2 (And.intro k3 (And.intro k4 k5)))))
      clear k0 k1 k2 k3 k4 k5
      go_wp2_with fail
      refine (HT.out _ hrel.out.1).mono ?_
      rintro e w2 ⟨rfl, hb⟩
      have HB2 := Lib.hid (And.intro (below_then hrel.out.1 hb) (hrel.out.2.1.keep hb))
      clear hb cc
      by_cases hc : c4 = 0
      · have HC := Lib.hid hc
        go_wp2_with fail
        refine ⟨⟨5, by first | rfl | go_num, by omega, ⟨HB2.out.1, HB2.out.2, fun _ => HKK.out.1 (by omega), fun _ => HKK.out.2.1 (by omega), fun _ => HKK.out.2.2.1 (by omega), fun _ => HKK.out.2.2.2.1 (by omega), fun _ => HC.out, by omega⟩⟩, by simp [intOf]⟩
      · have HE := Lib.hid (show q = c4 by
          have h := HQ.out
          obtain ⟨k0, k1, k2, k3, k4, k5⟩ := HKK.out
          rw [if_neg (not_not_intro (k0 (by omega))), if_neg (not_not_intro (k1 (by omega))), if_neg (not_not_intro (k2 (by omega))), if_neg (not_not_intro (k3 (by omega))), if_pos hc] at h
          exact h)
        go_wp2_with fail
        go_ret
        exact ⟨by rw [HE.out]; rfl, HB2.out.1⟩
    · have cc : wr.cell? ⟨w.heap.size + 1 + 1, 5, none⟩ = some (.func (.func 39) #[.agg #[.string s, .int .i64 kd, .slice A n ca, .int .i64 rt, .slice B k cb, .int .i64 tm]] #[]) := hrel.out.2.1.cell 5
      have HKK := Lib.hid (And.intro k0 (And.intro k1 (And.intro k2 (And.intro k3 (And.intro k4 k5)))))
      clear k0 k1 k2 k3 k4 k5
      go_wp2_with fail
      refine (HM.out _).mono ?_
      rintro e w2 ⟨rfl, hb⟩
      have HB2 := Lib.hid (And.intro (below_then hrel.out.1 hb) (hrel.out.2.1.keep hb))
      clear hb cc
      by_cases hc : c5 = 0
      · have HC := Lib.hid hc
        go_wp2_with fail
        refine ⟨⟨6, by first | rfl | go_num, by omega, ⟨HB2.out.1, HB2.out.2, fun _ => HKK.out.1 (by omega), fun _ => HKK.out.2.1 (by omega), fun _ => HKK.out.2.2.1 (by omega), fun _ => HKK.out.2.2.2.1 (by omega), fun _ => HKK.out.2.2.2.2.1 (by omega), fun _ => HC.out⟩⟩, by simp [intOf]⟩
      · have HE := Lib.hid (show q = c5 by
          have h := HQ.out
          obtain ⟨k0, k1, k2, k3, k4, k5⟩ := HKK.out
          rw [if_neg (not_not_intro (k0 (by omega))), if_neg (not_not_intro (k1 (by omega))), if_neg (not_not_intro (k2 (by omega))), if_neg (not_not_intro (k3 (by omega))), if_neg (not_not_intro (k4 (by omega))), if_pos hc] at h
          exact h)
        go_wp2_with fail
        go_ret
        exact ⟨by rw [HE.out]; rfl, HB2.out.1⟩
    · have HE := Lib.hid (show q = 0 by
        have h := HQ.out
        rw [if_neg (not_not_intro (k0 (by omega))), if_neg (not_not_intro (k1 (by omega))), if_neg (not_not_intro (k2 (by omega))), if_neg (not_not_intro (k3 (by omega))), if_neg (not_not_intro (k4 (by omega))), if_neg (not_not_intro (k5 (by omega)))] at h
        exact h)
      clear k0 k1 k2 k3 k4 k5
      go_wp2_with fail
      go_ret
      exact ⟨by rw [HE.out]; first | done | rfl, hrel.out.1⟩
end Go.Proofs.Yteffankkelbhiaa
