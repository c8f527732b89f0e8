/-
  Layer 7: Few and awake. No statement of the seat is proved here.
-/
import Derived.Test.YtikdolgcdkmmaaaMSame
import Derived.Test.YtikdolgcdkmmaaaMRefEq
import Derived.Test.YtikdolgcdkmmaaaTKeep
namespace Go.Proofs.Ytikdolgcdkmmaaa
open Go.RowKit
open Dc (D D0)

/-- A name of up to 300 bytes, up to 80 values, up to 40 tags of up to 150 bytes each. -/
def fewM (m : Mt) : Bool := decide (m.name.length ≤ 300 ∧ m.vals.length ≤ 80 ∧ m.tags.length ≤ 40 ∧ ∀ t ∈ m.tags, t.1.length ≤ 150 ∧ t.2.length ≤ 150)
theorem few_small {m : Mt} (h : fewM m = true) (hf : ∀ d ∈ m.vals, d.Fits) : Small m := by
  obtain ⟨h1, h2, h3, h4⟩ := of_decide_eq_true h
  exact ⟨by omega, by omega, hf, by omega, fun t ht => by have := h4 t ht; omega⟩

section
variable {w : World} {s : ByteArray} {A B : Option Addr} {n k ca cb : Nat} {m : Mt}
set_option maxRecDepth 100000 in
set_option maxHeartbeats 4000000 in
theorem fewm_calls (h : MIs w s A n B k m) : Calls Try.prog 9 #[mV s m.kind A n ca m.rate B k cb m.time] w fun e w' => e = .returned (.bool (fewM m)) ∧ Below w.heap.size w w' := by
  obtain ⟨q, hq⟩ : ∃ q, fewM m = q := ⟨_, rfl⟩
  rw [hq]
  have HQ := Lib.hid hq
  have n1 := h.name.size
  generalize m.kind = kd
  generalize m.rate = rt
  generalize m.time = tm
  have b0 := (Kb.start w).push 25 (mC s kd A n ca rt B k cb tm)
  unfold mC at b0
  have HB := Lib.hid b0
  have HH := Lib.hid (And.intro h n1)
  unfold mV
  clear b0 hq h n1
  go_enter Try.func9, Try.ntmps9
  rcases (by omega : 300 < (s.size : Int) ∨ (¬ 300 < (s.size : Int) ∧ 80 < (n : Int)) ∨ (¬ 300 < (s.size : Int) ∧ ¬ 80 < (n : Int) ∧ 40 < (k : Int)) ∨ (¬ 300 < (s.size : Int) ∧ ¬ 80 < (n : Int) ∧ ¬ 40 < (k : Int))) with h1 | ⟨h1, h2⟩ | ⟨h1, h2, h3⟩ | ⟨h1, h2, h3⟩
  · have HE := Lib.hid (show q = false by rw [← HQ.out]; exact decide_eq_false fun ⟨h, _⟩ => by have := HH.out.2; omega)
    go_wp2_with fail
    go_ret
    exact ⟨by rw [HE.out]; first | done | rfl, HB.out.kept⟩
  · have HE := Lib.hid (show q = false by rw [← HQ.out]; exact decide_eq_false fun ⟨_, h, _⟩ => by have := HH.out.1.vlen; omega)
    go_wp2_with fail
    go_ret
    exact ⟨by rw [HE.out]; first | done | rfl, HB.out.kept⟩
  · have HE := Lib.hid (show q = false by rw [← HQ.out]; exact decide_eq_false fun ⟨_, _, h, _⟩ => by have := HH.out.1.tlen; omega)
    go_wp2_with fail
    go_ret
    exact ⟨by rw [HE.out]; first | done | rfl, HB.out.kept⟩
  · have HZ := Lib.hid (show m.name.length ≤ 300 ∧ m.vals.length ≤ 80 ∧ m.tags.length ≤ 40 by
      have a1 := HH.out.2
      have a2 := HH.out.1.vlen
      have a3 := HH.out.1.tlen
      omega)
    go_wp2_with fail
    go_loopw [3] (fun v wr => ∃ i : Nat, v = .int .i64 i ∧ i ≤ k ∧ Hid (Kb w [(w.heap.size, 25, [.string s, .int .i64 kd, .slice A n ca, .int .i64 rt, .slice B k cb, .int .i64 tm])] [] wr ∧ ∀ j (h : j < m.tags.length), j < i → m.tags[j].1.length ≤ 150 ∧ m.tags[j].2.length ≤ 150)) (fun v _ => k - (intOf v).toNat)
    case atStart => exact ⟨0, rfl, by omega, ⟨HB.out, fun j _ hj => absurd hj (by omega)⟩⟩
    case round =>
      obtain ⟨i, rfl, hin, hrel⟩ := hrel
      clear HB
      have c4 : wr.cell? ⟨w.heap.size, 4, none⟩ = some (.slice B k cb) := hrel.out.1.cell (.head _) rfl
      by_cases hlt : i < k
      · have g1 : (i : Int) < (k : Int) := by omega
        have g2 : (0 : Int) ≤ (i : Int) := by omega
        have hm := HH.out.1
        have l0 : i < m.tags.length := by rw [hm.tlen]; exact hlt
        obtain ⟨b, off, s1, t1, e1, d0, d1, hs, ht⟩ := (hm.tags.keep hrel.out.1.kept).get l0
        subst e1
        have z1 := hs.size
        have z2 := ht.size
        rcases (by omega : 150 < (s1.size : Int) ∨ (¬ 150 < (s1.size : Int) ∧ 150 < (t1.size : Int)) ∨ (¬ 150 < (s1.size : Int) ∧ ¬ 150 < (t1.size : Int))) with k1 | ⟨k1, k2⟩ | ⟨k1, k2⟩
        · have HE := Lib.hid (show q = false by
            rw [← HQ.out]
            exact decide_eq_false fun ⟨_, _, _, h⟩ => by have := (h _ (List.getElem_mem l0)).1; omega)
          clear hm hs ht z1 z2
          go_wp2_with fail
          go_ret
          exact ⟨by rw [HE.out]; first | done | rfl, hrel.out.1.kept⟩
        · have HE := Lib.hid (show q = false by
            rw [← HQ.out]
            exact decide_eq_false fun ⟨_, _, _, h⟩ => by have := (h _ (List.getElem_mem l0)).2; omega)
          clear hm hs ht z1 z2
          go_wp2_with fail
          go_ret
          exact ⟨by rw [HE.out]; first | done | rfl, hrel.out.1.kept⟩
        · have HE := Lib.hid (show m.tags[i].1.length ≤ 150 ∧ m.tags[i].2.length ≤ 150 by omega)
          clear hm hs ht z1 z2
          go_wp2_with fail
          refine ⟨⟨i + 1, by go_num, by omega, ⟨hrel.out.1, fun j h hj => ?_⟩⟩, by simp [intOf]; omega⟩
          rcases Nat.lt_or_ge j i with h' | h'
          · exact hrel.out.2 j h h'
          · obtain rfl : i = j := by omega
            exact HE.out
      · have g1 : ¬ (i : Int) < (k : Int) := by omega
        have HE := Lib.hid (show q = true by
          rw [← HQ.out]
          obtain ⟨z1, z2, z3⟩ := HZ.out
          refine decide_eq_true ⟨z1, z2, z3, fun t ht => ?_⟩
          obtain ⟨j, hj, rfl⟩ := List.mem_iff_getElem.1 ht
          exact hrel.out.2 j hj (by have := HH.out.1.tlen; omega))
        go_wp2_with fail
        go_ret
        exact ⟨by rw [HE.out]; first | done | rfl, hrel.out.1.kept⟩
end

def mA : Mt := ⟨[97], 1, [⟨false, 10, 0⟩], 1000000, [([98], []), ([97], []), ([98], [])], 0⟩
def mB : Mt := ⟨[97], 1, [⟨false, 1, 1⟩], 1000000, [([97], []), ([98], [])], 0⟩
theorem awN : Dc.normal ⟨false, 10, 0⟩ = some ⟨false, 1, 1⟩ := by
  unfold Dc.normal
  show Option.map _ (Dc.norm (1 * 10) 0) = _
  rw [Dc.norm_ten, Dc.norm_fix (.inr ⟨by decide, by decide, by decide, by decide, by decide⟩)]
  rfl
theorem awH : hasN mA.vals = true := by unfold hasN mA; simp [awN]
theorem awC : codeM mA = 0 := by
  show restM mA (hasN mA.vals) = 0
  rw [awH]; decide +kernel
theorem awF : nM mA = mB := by
  rw [nM_ok awC]
  unfold formM mA mB
  simp only [List.map_cons, List.map_nil, Mt.mk.injEq, true_and, and_true]
  refine ⟨by unfold form; rw [awN]; rfl, by decide +kernel⟩
theorem awK : checkM mA = 17 := by
  show restM mA (okV mA.vals) = 17
  have : okV mA.vals = false := by
    unfold okV mA
    simp only [List.all_cons, List.all_nil, Bool.and_true]
    refine decide_eq_false fun h => ?_
    have := Dc.normal_fix (Dc.check_ok.1 h)
    rw [awN] at this
    cases this
  rw [this]; decide +kernel
theorem small_mA : Small mA := ⟨by decide, by decide, by intro d hd; simp [mA] at hd; subst hd; exact ⟨by decide, by decide, by decide⟩, by decide, by decide⟩
theorem small_mB : Small mB := ⟨by decide, by decide, by intro d hd; simp [mB] at hd; subst hd; exact ⟨by decide, by decide, by decide⟩, by decide, by decide⟩
theorem mis_mA {w : World} {g h : Nat} (hg : w.heap.size = g) (hh : w.heap.size + 1 = h) : MIs ((w.alloc (.cells #[.bool false, .int .u64 10, .int .i64 0] 39)).alloc (.cells #[.string ⟨#[98]⟩, .string ⟨#[]⟩, .string ⟨#[97]⟩, .string ⟨#[]⟩, .string ⟨#[98]⟩, .string ⟨#[]⟩] 33)) ⟨#[97]⟩ (some ⟨g, 0, none⟩) 1 (some ⟨h, 0, none⟩) 3 mA :=
  ⟨rfl, rfl, (decs_lit (w := w) hg [⟨false, 10, 0⟩]).alloc _, rfl, tags_lit (by rw [size_alloc]; exact hh) [([98], []), ([97], []), ([98], [])]⟩
theorem mis_mB {w : World} {g h : Nat} (hg : w.heap.size = g) (hh : w.heap.size + 1 = h) : MIs ((w.alloc (.cells #[.bool false, .int .u64 1, .int .i64 1] 39)).alloc (.cells #[.string ⟨#[97]⟩, .string ⟨#[]⟩, .string ⟨#[98]⟩, .string ⟨#[]⟩] 33)) ⟨#[97]⟩ (some ⟨g, 0, none⟩) 1 (some ⟨h, 0, none⟩) 2 mB :=
  ⟨rfl, rfl, (decs_lit (w := w) hg [⟨false, 1, 1⟩]).alloc _, rfl, tags_lit (by rw [size_alloc]; exact hh) [([97], []), ([98], [])]⟩

set_option maxRecDepth 100000 in
set_option maxHeartbeats 4000000 in
theorem awake_calls (w : World) : Calls Try.prog 10 #[] w fun e w' => e = .returned (.bool true) ∧ Below w.heap.size w w' := by
  have b0 := (((Kb.start w).push 39 [.bool false, .int .u64 10, .int .i64 0]).push 33 [.string ⟨#[98]⟩, .string ⟨#[]⟩, .string ⟨#[97]⟩, .string ⟨#[]⟩, .string ⟨#[98]⟩, .string ⟨#[]⟩]).mAdd (mis_mA (w := w) rfl rfl) |>.push 25 (mC ⟨#[97]⟩ 1 (some ⟨w.heap.size, 0, none⟩) 1 1 1000000 (some ⟨w.heap.size + 1, 0, none⟩) 3 3 0)
  rw [size_alloc, size_alloc] at b0
  have hN := mnormal_calls (ca := 1) (cb := 3) (b0.m (.head _)) small_mA
  unfold mC at b0 hN
  unfold NormMP at hN
  rw [awF, awC] at hN
  unfold mV at hN
  simp only [show mB.kind = 1 from rfl, show mB.rate = 1000000 from rfl, show mB.time = 0 from rfl, show mA.kind = 1 from rfl, show mA.rate = 1000000 from rfl, show mA.time = 0 from rfl] at hN
  have HN := Lib.hid hN
  have HB := Lib.hid b0
  clear hN b0
  go_enter Try.func10, Try.ntmps10
  go_wp2_with fail
  refine HN.out.mono ?_
  rintro e w1 ⟨⟨s1, A1, n1, ca1, B1, k1, cb1, rfl, hm1⟩, hb⟩
  have b1 := ((HB.out.next hb).mAdd hm1).push 25 (mC s1 1 A1 n1 ca1 1000000 B1 k1 cb1 0)
  have b2 := ((b1.push 39 [.bool false, .int .u64 1, .int .i64 1]).push 33 [.string ⟨#[97]⟩, .string ⟨#[]⟩, .string ⟨#[98]⟩, .string ⟨#[]⟩]).mAdd (mis_mB rfl rfl) |>.push 25 (mC ⟨#[97]⟩ 1 (some ⟨w1.heap.size + 1, 0, none⟩) 1 1 1000000 (some ⟨w1.heap.size + 1 + 1, 0, none⟩) 2 2 0)
  simp only [size_alloc] at b2
  unfold mC at b2
  have HC := Lib.hid (fun W (b : Below _ _ W) => mcheck_calls (ca := 1) (cb := 3) ((b2.next b).m (.tail _ (.tail _ (.head _)))) small_mA)
  rw [awK] at HC
  unfold mV mA at HC
  have c0 := b2.cell (g := w.heap.size + 1 + 1) (i := 0) (.tail _ (.tail _ (.tail _ (.tail _ (.head _))))) rfl
  have c1 := b2.cell (g := w.heap.size + 1 + 1) (i := 1) (.tail _ (.tail _ (.tail _ (.tail _ (.head _))))) rfl
  have c2 := b2.cell (g := w.heap.size + 1 + 1) (i := 2) (.tail _ (.tail _ (.tail _ (.tail _ (.head _))))) rfl
  have c3 := b2.cell (g := w.heap.size + 1 + 1) (i := 3) (.tail _ (.tail _ (.tail _ (.tail _ (.head _))))) rfl
  have c4 := b2.cell (g := w.heap.size + 1 + 1) (i := 4) (.tail _ (.tail _ (.tail _ (.tail _ (.head _))))) rfl
  have c5 := b2.cell (g := w.heap.size + 1 + 1) (i := 5) (.tail _ (.tail _ (.tail _ (.tail _ (.head _))))) rfl
  have HB2 := Lib.hid b2
  clear hb HB HN b1 b2 hm1
  go_wp2_with fail
  refine (HC.out _ (Below.refl _ _)).mono ?_
  rintro e w2 ⟨rfl, hb⟩
  clear c0 c1 c2 c3 c4 c5 HC
  have b3 := HB2.out.next hb
  have hE := requal_calls (ca := ca1) (cb := cb1) (ca' := 1) (cb' := 2) (b3.m (.tail _ (.head _))) (b3.m (.head _)) small_mB
  rw [decide_eq_true rfl] at hE
  unfold mV at hE
  simp only [show mB.kind = 1 from rfl, show mB.rate = 1000000 from rfl, show mB.time = 0 from rfl] at hE
  have HE := Lib.hid hE
  have c0 := b3.cell (g := w1.heap.size) (i := 0) (.tail _ (.tail _ (.tail _ (.head _)))) rfl
  have c1 := b3.cell (g := w1.heap.size) (i := 1) (.tail _ (.tail _ (.tail _ (.head _)))) rfl
  have c2 := b3.cell (g := w1.heap.size) (i := 2) (.tail _ (.tail _ (.tail _ (.head _)))) rfl
  have c3 := b3.cell (g := w1.heap.size) (i := 3) (.tail _ (.tail _ (.tail _ (.head _)))) rfl
  have c4 := b3.cell (g := w1.heap.size) (i := 4) (.tail _ (.tail _ (.tail _ (.head _)))) rfl
  have c5 := b3.cell (g := w1.heap.size) (i := 5) (.tail _ (.tail _ (.tail _ (.head _)))) rfl
  have d0 := b3.cell (g := w1.heap.size + 1 + 1 + 1) (i := 0) (.head _) rfl
  have d1 := b3.cell (g := w1.heap.size + 1 + 1 + 1) (i := 1) (.head _) rfl
  have d2 := b3.cell (g := w1.heap.size + 1 + 1 + 1) (i := 2) (.head _) rfl
  have d3 := b3.cell (g := w1.heap.size + 1 + 1 + 1) (i := 3) (.head _) rfl
  have d4 := b3.cell (g := w1.heap.size + 1 + 1 + 1) (i := 4) (.head _) rfl
  have d5 := b3.cell (g := w1.heap.size + 1 + 1 + 1) (i := 5) (.head _) rfl
  have HB3 := Lib.hid b3
  clear hb HB2 b3 hE
  go_wp2_with fail
  refine HE.out.mono ?_
  rintro e w4 ⟨rfl, hb⟩
  have HB4 := Lib.hid (HB3.out.next hb)
  clear hb HB3 HE
  go_wp2_with fail
  go_ret
  exact ⟨rfl, HB4.out.kept⟩
end Go.Proofs.Ytikdolgcdkmmaaa
