/-
  Layer 9's awake. No statement of the seat is proved here.
-/
import Derived.Test.YteffankkelbhiaaECut
import Derived.Test.YteffankkelbhiaaMA0
import Derived.Test.YteffankkelbhiaaEFormats
namespace Go.Proofs.Yteffankkelbhiaa
open Go.RowKit
open Dc (D D0)

/-- The chapter's example. -/
def mE (kd : Int) : Mt := ⟨[97], kd, [⟨false, 1, 0⟩, ⟨true, 1, 0⟩], 1000000, [([107], [])], 5⟩
theorem mE_small (kd : Int) : Small (mE kd) := ⟨by show 1 ≤ 1000; omega, by show 2 ≤ 1000; omega, fun d hd => by
  rcases List.mem_cons.1 hd with rfl | hd
  · exact ⟨by decide, by decide, by decide⟩
  · rcases List.mem_singleton.1 hd with rfl
    exact ⟨by decide, by decide, by decide⟩, by show 1 ≤ 200; omega, fun t ht => by
  rcases List.mem_singleton.1 ht with rfl
  decide⟩
theorem mE_1 : cutE (mE 2) 1 = 0 ∧ cutR (mE 2) 1 = [⟨[97], 2, [⟨false, 1, 0⟩], 1000000, [], 0⟩] := by decide +kernel
theorem mE_3 : cutE (mE 2) 3 = 0 ∧ cutR (mE 2) 3 = [⟨[97], 2, [⟨false, 1, 0⟩], 1000000, [], 5⟩, ⟨[97], 2, [⟨true, 1, 0⟩], 1000000, [], 5⟩] := by decide +kernel
theorem mE_no : cutE (mE 5) 1 = 26 ∧ cutE (mE 5) 3 = 26 := by decide +kernel

theorem lies_set {W : World} {b off g i : Nat} {vs : List Value} (h : Lies W (some ⟨b, off, none⟩) vs) (hb : g ≠ b) (u : Value) : Lies (W.setCell ⟨g, i, none⟩ u) (some ⟨b, off, none⟩) vs := fun j v hv => by
  obtain ⟨b', off', e, hc⟩ := h j v hv
  injection e with e
  injection e with e1 e2
  subst e1 e2
  exact ⟨b, off, rfl, (World.cell?_setCell_far _ _ _ _ hb).trans hc⟩
theorem Cuts.put {base n : Nat} {W : World} {v : Value} {cs : List En} (h : Cuts base W v n cs) {q : Addr} (hq : q.block < base) (u : Value) : Cuts base (W.setCell q u) v n cs := ⟨⟨own_set h.owns.own hq u, fun e he => (h.owns.ent e he).put hq u⟩, h.apart⟩
theorem Cuts.mets {base n cap : Nat} {W : World} {A : Option Addr} {cs : List En} (h : Cuts base W (.slice A n cap) n cs) : Mets W A cs := h.owns.mets
/-- The example lies. -/
theorem mE_lies (w : World) : Kb w [(w.heap.size + 1 + 1, 25, [.string ⟨#[97]⟩, .int .i64 2, .slice (some ⟨w.heap.size, 0, none⟩) 2 2, .int .i64 1000000, .slice (some ⟨w.heap.size + 1, 0, none⟩) 1 1, .int .i64 5])] [(⟨#[97]⟩, some ⟨w.heap.size, 0, none⟩, 2, some ⟨w.heap.size + 1, 0, none⟩, 1, mE 2)]
    (((w.alloc (.cells #[.bool false, .int .u64 1, .int .i64 0, .bool true, .int .u64 1, .int .i64 0] 45)).alloc (.cells #[.string ⟨#[107]⟩, .string ⟨#[]⟩] 47)).alloc (.cells #[.string ⟨#[97]⟩, .int .i64 2, .slice (some ⟨w.heap.size, 0, none⟩) 2 2, .int .i64 1000000, .slice (some ⟨w.heap.size + 1, 0, none⟩) 1 1, .int .i64 5] 25)) := by
  have hd : Decs (w.alloc (.cells #[.bool false, .int .u64 1, .int .i64 0, .bool true, .int .u64 1, .int .i64 0] 45)) (some ⟨w.heap.size, 0, none⟩) [⟨false, 1, 0⟩, ⟨true, 1, 0⟩] := decs_lit rfl [⟨false, 1, 0⟩, ⟨true, 1, 0⟩]
  have ht : Tags ((w.alloc (.cells #[.bool false, .int .u64 1, .int .i64 0, .bool true, .int .u64 1, .int .i64 0] 45)).alloc (.cells #[.string ⟨#[107]⟩, .string ⟨#[]⟩] 47)) (some ⟨w.heap.size + 1, 0, none⟩) [([107], [])] := tags_lit (size_alloc _ _) [([107], [])]
  have k0 := ((Kb.start w).alloc (.cells #[.bool false, .int .u64 1, .int .i64 0, .bool true, .int .u64 1, .int .i64 0] 45)).alloc (.cells #[.string ⟨#[107]⟩, .string ⟨#[]⟩] 47)
  have k1 := k0.mAdd (s := ⟨#[97]⟩) (m := mE 2) ⟨rfl, rfl, hd.alloc _, rfl, ht⟩
  exact k1.pushAt (by rw [size_alloc, size_alloc]) 25 [.string ⟨#[97]⟩, .int .i64 2, .slice (some ⟨w.heap.size, 0, none⟩) 2 2, .int .i64 1000000, .slice (some ⟨w.heap.size + 1, 0, none⟩) 1 1, .int .i64 5]
theorem wf_1 : WfI 1 := wf_few (by omega)
theorem wf_3 : WfI 3 := wf_few (by omega)
/-- Cut at the example. -/
theorem cut_says {w0 W : World} {L : List (Nat × TypeId × List Value)} {M : List (ByteArray × Option Addr × Nat × Option Addr × Nat × Mt)} {s : ByteArray} {A B : Option Addr} {kd : Int} {f : Int} (h : Kb w0 L M W) (hm : MIs W s A 2 B 1 (mE kd)) (hf : WfI f) {c : Int} {r : List Mt} (h1 : cutE (mE kd) f = c) (h2 : cutR (mE kd) f = r) :
    Calls Try.prog 16 #[.agg #[.string s, .int .i64 kd, .slice A 2 2, .int .i64 1000000, .slice B 1 1, .int .i64 5], .int .i64 f] W fun e w' => (∃ A' c' cs, e = .returned (.tuple #[.slice A' r.length c', .int .i64 c]) ∧ Cuts W.heap.size w' (.slice A' r.length c') r.length cs ∧ datM cs = r) ∧ Kb w0 L M w' ∧ Below W.heap.size W w' := by
  have := cut_calls (ca := 2) (cb := 1) hm (mE_small kd) ⟨by omega, by unfold maxLen; omega⟩ hf
  refine this.mono ?_
  rintro e w' ⟨⟨A', n', c', cs, he, hc, hd⟩, hb⟩
  rw [h1] at he
  rw [h2] at hd
  have hl := own_lenM hc.owns.own
  have hl2 : r.length = n' := by rw [← hd, datM_len]; exact hl
  subst hl2
  exact ⟨⟨A', c', cs, he, hc, hd⟩, h.next hb, hb⟩
theorem cs_one {cs : List En} {a : Mt} (h : datM cs = [a]) : ∃ x, cs[0]? = some x ∧ x.m = a := by
  match cs, h with
  | [x], h => exact ⟨x, rfl, by injection h⟩
theorem cs_two {cs : List En} {a b : Mt} (h : datM cs = [a, b]) : ∃ x y, cs[0]? = some x ∧ cs[1]? = some y ∧ x.m = a ∧ y.m = b := by
  match cs, h with
  | [x, y], h => injection h with h1 h2; injection h2 with h2; exact ⟨x, y, rfl, rfl, h1, h2⟩

set_option maxRecDepth 100000 in
set_option maxHeartbeats 4000000 in
theorem awake9_calls (w : World) : Calls Try.prog 9 #[] w fun e w' => e = .returned (.bool true) ∧ Below w.heap.size w w' := by
  have HB := Lib.hid (mE_lies w)
  go_enter Try.func9, Try.ntmps9
  go_wp2_with fail
  refine (cut_says HB.out (HB.out.m (.head _)) wf_1 mE_1.1 mE_1.2).mono ?_
  rintro e w1 ⟨⟨A1, k1, cs1, rfl, hc1, hd1⟩, hb, -⟩
  have HB1 := Lib.hid hb
  have HC1 := Lib.hid (And.intro (hc1.base (base' := w.heap.size + 1 + 1 + 1) (HB.out.lt (.head _))) hd1)
  clear hb hc1 hd1 HB
  obtain ⟨c0, c1, c2, c3, c4, c5⟩ := HB1.out.six (.head _)
  go_wp2_with fail
  refine (cut_says HB1.out (HB1.out.m (.head _)) wf_3 mE_3.1 mE_3.2).mono ?_
  rintro e w2 ⟨⟨A2, k2, cs2, rfl, hc2, hd2⟩, hb, hbel⟩
  have HB2 := Lib.hid hb
  have HC2 := Lib.hid (And.intro (HC1.out.1.keep hbel) (And.intro HC1.out.2 (And.intro (hc2.base (base' := w.heap.size + 1 + 1 + 1) (HB1.out.lt (.head _))) hd2)))
  clear hb hbel hc2 hd2 HB1 HC1 c0 c1 c2 c3 c4 c5
  obtain ⟨c0, c1, c2, c3, c4, c5⟩ := HB2.out.six (.head _)
  have x0 := HB2.out.box _ (.head _)
  have f1 := x0.frozen 1
  have hb5 := below_set HB2.out.kept (show w.heap.size ≤ w.heap.size + 1 + 1 by omega) 1 (.int .i64 5)
  have hm2 := HB2.out.m (.head _)
  have nd : w.heap.size + 1 + 1 ≠ w.heap.size := by omega
  have nt : w.heap.size + 1 + 1 ≠ w.heap.size + 1 := by omega
  have hm5 : MIs (w2.setCell ⟨w.heap.size + 1 + 1, 1, none⟩ (.int .i64 5)) ⟨#[97]⟩ (some ⟨w.heap.size, 0, none⟩) 2 (some ⟨w.heap.size + 1, 0, none⟩) 1 (mE 5) :=
    ⟨hm2.name, hm2.vlen, lies_set hm2.vals nd _, hm2.tlen, lies_set hm2.tags nt _⟩
  have k5 : Kb w [(w.heap.size + 1 + 1, 25, [.string ⟨#[97]⟩, .int .i64 5, .slice (some ⟨w.heap.size, 0, none⟩) 2 2, .int .i64 1000000, .slice (some ⟨w.heap.size + 1, 0, none⟩) 1 1, .int .i64 5])] [(⟨#[97]⟩, some ⟨w.heap.size, 0, none⟩, 2, some ⟨w.heap.size + 1, 0, none⟩, 1, mE 5)] (w2.setCell ⟨w.heap.size + 1 + 1, 1, none⟩ (.int .i64 5)) :=
    ⟨hb5, fun y hy => by rcases List.mem_singleton.1 hy with rfl; exact x0.set 1 _, fun y hy => by rcases List.mem_singleton.1 hy with rfl; exact hm5⟩
  have HB5 := Lib.hid k5
  have HC5 := Lib.hid (And.intro (HC2.out.1.put (q := ⟨w.heap.size + 1 + 1, 1, none⟩) (show w.heap.size + 1 + 1 < w.heap.size + 1 + 1 + 1 by omega) (.int .i64 5)) (HC2.out.2.2.1.put (q := ⟨w.heap.size + 1 + 1, 1, none⟩) (show w.heap.size + 1 + 1 < w.heap.size + 1 + 1 + 1 by omega) (.int .i64 5)))
  clear x0 hb5 hm2 nd nt hm5 k5
  go_wp2_with fail
  refine (cut_says HB5.out (HB5.out.m (.head _)) wf_1 mE_no.1 rfl).mono ?_
  rintro e w6 ⟨⟨A6, k6, cs6, rfl, -, -⟩, hb, hbel⟩
  have HB6 := Lib.hid hb
  have HC6 := Lib.hid (And.intro (HC5.out.1.keep hbel) (HC5.out.2.keep hbel))
  clear hb hbel HB5 HC5 c0 c1 c2 c3 c4 c5 f1
  obtain ⟨c0, c1, c2, c3, c4, c5⟩ := HB6.out.six (.head _)
  go_wp2_with fail
  refine (cut_says HB6.out (HB6.out.m (.head _)) wf_3 mE_no.2 rfl).mono ?_
  rintro e w7 ⟨⟨A7, k7, cs7, rfl, -, -⟩, hb, hbel⟩
  have HB7 := Lib.hid hb
  have hM1 := (HC6.out.1.keep hbel).mets
  have hM2 := (HC6.out.2.keep hbel).mets
  clear hb hbel HB6 HC6 c0 c1 c2 c3 c4 c5
  obtain ⟨x1, hx1, hm1⟩ := cs_one HC2.out.2.1
  obtain ⟨x2, y2, hx2, hy2, hm2, hm3⟩ := cs_two HC2.out.2.2.2
  obtain ⟨b1, o1, e1, a0, a1, a2, a3, a4, a5⟩ := hM1.get hx1
  obtain ⟨b2, o2, e2, d0, d1, d2, d3, d4, d5⟩ := hM2.get hy2
  have ht1 : x1.k = 0 := by rw [← (hM1.one hx1).tlen, hm1]; rfl
  rw [hm1] at a5
  rw [hm3] at d5
  rw [ht1] at a4
  subst e1 e2
  simp only [Nat.zero_mul, Nat.add_zero, Nat.one_mul] at a0 a4 a5 d5
  clear hM1 hM2 hx1 hm1 hx2 hy2 hm2 hm3 a1 a2 a3 d0 d1 d2 d3 d4 ht1
  go_wp2_with fail
  go_ret
  exact ⟨rfl, HB7.out.kept⟩
end Go.Proofs.Yteffankkelbhiaa
