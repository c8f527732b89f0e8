/-
  The walk of DecParses. No statement of the seat is proved here.
-/
import Derived.Test.YtanobfiheepgbaaDoorDAwake
import Derived.Test.YtanobfiheepgbaaDoorDRefParse
namespace Go.Proofs.YtanobfiheepgbaaDoor
open Go.RowKit

set_option maxRecDepth 100000 in
set_option maxHeartbeats 8000000 in
theorem parses_walk (s : ByteArray) (w : World) (ht : Tab w) : Calls Tryd.prog 4 #[.string s] w fun e w' => e = .returned (.bool true) ∧ Below w.heap.size w w' := by
  obtain ⟨l, hs⟩ : ∃ l, Str s l := ⟨_, rfl⟩
  have HS := Lib.hid hs
  have HT := Lib.hid ht
  clear hs ht
  by_cases hlen : (200 : Int) < (s.size : Int)
  · go_enter Tryd.func4, Tryd.ntmps4
    go_wp2_with fail
    refine (awake_calls _ HT.out).mono ?_
    rintro e w1 ⟨rfl, hb⟩
    have HK1 := Lib.hid hb
    clear hb
    go_wp2_with fail
    go_ret
    exact ⟨rfl, HK1.out⟩
  · have HL := Lib.hid (show l.length ≤ 200 by have := HS.out.size; omega)
    obtain ⟨⟨n, f1, f2⟩, hpl⟩ : ∃ t, t = parse l := ⟨_, rfl⟩
    have HPC := Lib.hid (fun W => parse_calls s l HS.out (by have := HL.out; omega) W)
    have HRC := Lib.hid (fun W => rparse_calls s l HS.out HL.out W)
    unfold Parses at HPC HRC
    rw [← hpl] at HPC HRC
    simp only [dV, fV] at HPC HRC
    clear hpl
    go_enter Tryd.func4, Tryd.ntmps4
    go_wp2_with fail
    refine (HPC.out _).mono ?_
    rintro e w1 ⟨rfl, hb⟩
    have B1 := two_boxes w1 (.bool n.neg) (.int .u64 n.c) (.int .i64 n.e) (.int .i64 f1) (.int .i64 f2)
    have HK1 := Lib.hid (And.intro (below_then hb B1.2.2) (And.intro B1.1 B1.2.1))
    clear hb B1 HPC
    go_wp2_with fail
    refine (HRC.out _).mono ?_
    rintro e w2 ⟨rfl, hb⟩
    have B2 := two_boxes w2 (.bool n.neg) (.int .u64 n.c) (.int .i64 n.e) (.int .i64 f1) (.int .i64 f2)
    have hb2 := below_then hb B2.2.2
    have HK2 := Lib.hid (below_then HK1.out.1 hb2)
    have HT2 := Lib.hid (HT.out.keep HK2.out)
    have q1 := HK1.out.2.1.keep hb2
    have q2 := HK1.out.2.2.keep hb2
    have a0 := q1.cell 0
    have a1 := q1.cell 1
    have a2 := q1.cell 2
    have b0 := q2.cell 0
    have b1 := q2.cell 1
    have c0 := B2.1.cell 0
    have c1 := B2.1.cell 1
    have c2 := B2.1.cell 2
    have d0 := B2.2.1.cell 0
    have d1 := B2.2.1.cell 1
    simp only [List.getElem?_cons_zero, List.getElem?_cons_succ] at a0 a1 a2 b0 b1 c0 c1 c2 d0 d1
    clear hb hb2 B2 HK1 HRC q1 q2
    go_wp2_with fail
    refine (awake_calls _ HT2.out).mono ?_
    rintro e w3 ⟨rfl, hb⟩
    have HK3 := Lib.hid (below_then HK2.out hb)
    clear hb HK2 HT2
    go_wp2_with fail
    go_ret
    exact ⟨rfl, HK3.out⟩
end Go.Proofs.YtanobfiheepgbaaDoor
