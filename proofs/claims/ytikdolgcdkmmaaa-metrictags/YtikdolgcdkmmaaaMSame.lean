/-
  Package metric: Is and Same. No statement of the seat is proved here.
-/
import Derived.Test.YtikdolgcdkmmaaaMNormal
namespace Go.Proofs.Ytikdolgcdkmmaaa
open Go.RowKit
open Dc (D D0)

section
variable {w : World} {s s' : ByteArray} {A B A' B' : Option Addr} {n k ca cb n' k' ca' cb' : Nat} {m a b : Mt}

set_option maxRecDepth 100000 in
set_option maxHeartbeats 4000000 in
theorem same_calls7 (ha : MIs w s A n B k a) (hb : MIs w s' A' n' B' k' b) (za : Small a) (zb : Small b) :
    Calls Try.prog 14 #[mV s a.kind A n ca a.rate B k cb a.time, mV s' b.kind A' n' ca' b.rate B' k' cb' b.time] w fun e w' => e = .returned (.bool (sameM a b)) ∧ Below w.heap.size w w' := by
  have hN := fun W (h : Below w.heap.size w W) => mnormal_calls (ca := ca) (cb := cb) (ha.keep h) za
  have hM := fun W (h : Below w.heap.size w W) => mnormal_calls (ca := ca') (cb := cb') (hb.keep h) zb
  obtain ⟨q, hq⟩ : ∃ q, sameM a b = q := ⟨_, rfl⟩
  obtain ⟨x, hx⟩ : ∃ q, codeM a = q := ⟨_, rfl⟩
  obtain ⟨y, hy⟩ : ∃ q, codeM b = q := ⟨_, rfl⟩
  have hs : q = (decide (x = 0) && decide (y = 0) && decide (nM a = nM b)) := by rw [← hq]; unfold sameM; rw [hx, hy]
  rw [hq]
  unfold NormMP at hN hM
  rw [hx] at hN
  rw [hy] at hM
  have HS := Lib.hid hs
  have HZ := Lib.hid (And.intro za zb)
  unfold mV at hN hM ⊢
  generalize a.kind = kd at *
  generalize a.rate = rt at *
  generalize a.time = tm at *
  generalize b.kind = kd' at *
  generalize b.rate = rt' at *
  generalize b.time = tm' at *
  have HN := Lib.hid hN
  have HM := Lib.hid hM
  have b0 := ((Kb.start w).push 25 (mC s kd A n ca rt B k cb tm)).push 25 (mC s' kd' A' n' ca' rt' B' k' cb' tm')
  rw [size_alloc] at b0
  unfold mC at b0
  have HB := Lib.hid b0
  clear hN hM hq hx hy hs b0 ha hb za zb
  go_enter Try.func14, Try.ntmps14
  go_wp2_with fail
  refine (HN.out _ HB.out.kept).mono ?_
  rintro e w1 ⟨⟨s1, A1, n1, ca1, B1, k1, cb1, rfl, hm1⟩, hb⟩
  have b1 := ((HB.out.next hb).mAdd hm1).push 25 (mC s1 (nM a).kind A1 n1 ca1 (nM a).rate B1 k1 cb1 (nM a).time)
  unfold mC at b1
  have c0 : (w1.alloc (.cells #[.string s1, .int .i64 (nM a).kind, .slice A1 n1 ca1, .int .i64 (nM a).rate, .slice B1 k1 cb1, .int .i64 (nM a).time] 25)).cell? ⟨w.heap.size + 1, 0, none⟩ = some (.string s') := b1.cell (.tail _ (.head _)) rfl
  have c1 : (w1.alloc (.cells #[.string s1, .int .i64 (nM a).kind, .slice A1 n1 ca1, .int .i64 (nM a).rate, .slice B1 k1 cb1, .int .i64 (nM a).time] 25)).cell? ⟨w.heap.size + 1, 1, none⟩ = some (.int .i64 kd') := b1.cell (.tail _ (.head _)) rfl
  have c2 : (w1.alloc (.cells #[.string s1, .int .i64 (nM a).kind, .slice A1 n1 ca1, .int .i64 (nM a).rate, .slice B1 k1 cb1, .int .i64 (nM a).time] 25)).cell? ⟨w.heap.size + 1, 2, none⟩ = some (.slice A' n' ca') := b1.cell (.tail _ (.head _)) rfl
  have c3 : (w1.alloc (.cells #[.string s1, .int .i64 (nM a).kind, .slice A1 n1 ca1, .int .i64 (nM a).rate, .slice B1 k1 cb1, .int .i64 (nM a).time] 25)).cell? ⟨w.heap.size + 1, 3, none⟩ = some (.int .i64 rt') := b1.cell (.tail _ (.head _)) rfl
  have c4 : (w1.alloc (.cells #[.string s1, .int .i64 (nM a).kind, .slice A1 n1 ca1, .int .i64 (nM a).rate, .slice B1 k1 cb1, .int .i64 (nM a).time] 25)).cell? ⟨w.heap.size + 1, 4, none⟩ = some (.slice B' k' cb') := b1.cell (.tail _ (.head _)) rfl
  have c5 : (w1.alloc (.cells #[.string s1, .int .i64 (nM a).kind, .slice A1 n1 ca1, .int .i64 (nM a).rate, .slice B1 k1 cb1, .int .i64 (nM a).time] 25)).cell? ⟨w.heap.size + 1, 5, none⟩ = some (.int .i64 tm') := b1.cell (.tail _ (.head _)) rfl
  have HB1 := Lib.hid b1
  clear hb HB HN b1 hm1
  go_wp2_with fail
  refine (HM.out _ HB1.out.kept).mono ?_
  rintro e w2 ⟨⟨s2, A2, n2, ca2, B2, k2, cb2, rfl, hm2⟩, hb⟩
  have b2 := ((HB1.out.next hb).mAdd hm2).push 25 (mC s2 (nM b).kind A2 n2 ca2 (nM b).rate B2 k2 cb2 (nM b).time)
  unfold mC at b2
  have HB2 := Lib.hid b2
  have HE := Lib.hid (equal_calls (ca := ca1) (cb := cb1) (ca' := ca2) (cb' := cb2) (b2.m (.tail _ (.head _))) (b2.m (.head _)) HZ.out.1.n)
  have d0 : (w2.alloc (.cells #[.string s2, .int .i64 (nM b).kind, .slice A2 n2 ca2, .int .i64 (nM b).rate, .slice B2 k2 cb2, .int .i64 (nM b).time] 25)).cell? ⟨w1.heap.size, 0, none⟩ = some (.string s1) := b2.cell (.tail _ (.head _)) rfl
  have d1 : (w2.alloc (.cells #[.string s2, .int .i64 (nM b).kind, .slice A2 n2 ca2, .int .i64 (nM b).rate, .slice B2 k2 cb2, .int .i64 (nM b).time] 25)).cell? ⟨w1.heap.size, 1, none⟩ = some (.int .i64 (nM a).kind) := b2.cell (.tail _ (.head _)) rfl
  have d2 : (w2.alloc (.cells #[.string s2, .int .i64 (nM b).kind, .slice A2 n2 ca2, .int .i64 (nM b).rate, .slice B2 k2 cb2, .int .i64 (nM b).time] 25)).cell? ⟨w1.heap.size, 2, none⟩ = some (.slice A1 n1 ca1) := b2.cell (.tail _ (.head _)) rfl
  have d3 : (w2.alloc (.cells #[.string s2, .int .i64 (nM b).kind, .slice A2 n2 ca2, .int .i64 (nM b).rate, .slice B2 k2 cb2, .int .i64 (nM b).time] 25)).cell? ⟨w1.heap.size, 3, none⟩ = some (.int .i64 (nM a).rate) := b2.cell (.tail _ (.head _)) rfl
  have d4 : (w2.alloc (.cells #[.string s2, .int .i64 (nM b).kind, .slice A2 n2 ca2, .int .i64 (nM b).rate, .slice B2 k2 cb2, .int .i64 (nM b).time] 25)).cell? ⟨w1.heap.size, 4, none⟩ = some (.slice B1 k1 cb1) := b2.cell (.tail _ (.head _)) rfl
  have d5 : (w2.alloc (.cells #[.string s2, .int .i64 (nM b).kind, .slice A2 n2 ca2, .int .i64 (nM b).rate, .slice B2 k2 cb2, .int .i64 (nM b).time] 25)).cell? ⟨w1.heap.size, 5, none⟩ = some (.int .i64 (nM a).time) := b2.cell (.tail _ (.head _)) rfl
  clear hb HB1 HM b2 hm2 c0 c1 c2 c3 c4 c5
  rcases (by omega : x ≠ 0 ∨ (x = 0 ∧ y ≠ 0) ∨ (x = 0 ∧ y = 0)) with hx | ⟨rfl, hy⟩ | ⟨rfl, rfl⟩
  · have HF := Lib.hid (show q = false by rw [HS.out, decide_eq_false hx]; rfl)
    have h1 : (x == 0) = false := by simpa using hx
    go_wp2_with fail
    go_ret
    exact ⟨by rw [HF.out]; first | done | rfl, HB2.out.kept⟩
  · have HF := Lib.hid (show q = false by rw [HS.out, decide_eq_false hy]; rfl)
    have h1 : (y == 0) = false := by simpa using hy
    go_wp2_with fail
    go_ret
    exact ⟨by rw [HF.out]; first | done | rfl, HB2.out.kept⟩
  · have HF := Lib.hid (show decide (nM a = nM b) = q by rw [HS.out]; simp)
    rw [HF.out] at HE
    go_wp2_with fail
    refine HE.out.mono ?_
    rintro e w3 ⟨rfl, hb⟩
    have HB3 := Lib.hid (HB2.out.next hb)
    clear hb HB2 HE
    go_wp2_with fail
    go_ret
    exact ⟨by first | done | rfl | simp, HB3.out.kept⟩
end
end Go.Proofs.Ytikdolgcdkmmaaa
