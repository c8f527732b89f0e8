/-
  Package tag: parseOne. No statement of the seat is proved here.
-/
import Derived.Test.YtapkdghghnmhhaaTCut
import Derived.Test.YtapkdghghnmhhaaTOne
namespace Go.Proofs.Ytapkdghghnmhhaa
open Go.RowKit

/-- What parseOne tells. -/
def OneP (w : World) (l : List UInt8) (e : Ending) (w' : World) : Prop :=
  (∃ k v : ByteArray, e = .returned (.tuple #[.agg #[.string k, .string v], .bool (oneT l).isSome]) ∧ ∀ t, oneT l = some t → Str k t.1 ∧ Str v t.2) ∧ Below w.heap.size w w'

theorem results_cell_tmp {fn : Func} {p u : Tmp} {ty : TypeId} (h : fn.results = #[.cell p ty, .tmp u]) (tmps : Array Value) (w : World) :
    (results fn tmps).run Try.prog w = ((asAddr (tmps.getD p undef)).run Try.prog w).andThen fun a w1 => ((loadVar ty a).run Try.prog w1).andThen fun v w2 => .ok (.tuple #[v, tmps.getD u undef]) w2 := by
  simp only [results, h]
  simp [Sem.run_bind, Result.andThen]
theorem load_tag {w : World} {g : Nat} {x y : Value} (h : Box w g 23 [x, y]) : (loadVar 23 ⟨g, 0, none⟩).run Try.prog w = .ok (.agg #[x, y]) w := by
  have c0 : w.cell? ⟨g, 0, none⟩ = some x := h.cell 0
  have c1 : w.cell? ⟨g, 1, none⟩ = some y := h.cell 1
  simp [go_sem, c0, c1]
/-- A tag and something else are returned. -/
theorem ret_tv {fn : Func} {p u : Tmp} (hres : fn.results = #[.cell p 23, .tmp u]) {R : Ending → World → Prop} {a : Act} {w : World} {g : Nat} {x y v : Value} (hp : a.tmps.getD p undef = .pointer (some ⟨g, 0, none⟩)) (hu : a.tmps.getD u undef = v) (hd : a.defers = [])
    (hb : Box w g 23 [x, y]) (hR : R (.returned (.tuple #[.agg #[x, y], v])) w) : bodyPost Try.prog fn R .ret a w := by
  refine bodyPost_ret ?_ hd hR
  rw [results_cell_tmp hres, hp, hu, addr_is]
  simp only [Result.andThen]
  rw [load_tag hb]

theorem right_ne {p : List UInt8} (h : ¬ (rightT (cutC 58 p) = true ∧ txt (cutC 58 p) = p)) : oneT p = none := by unfold oneT; rw [if_neg h]
theorem right_eq {p : List UInt8} (h : rightT (cutC 58 p) = true) (k : txt (cutC 58 p) = p) : oneT p = some (cutC 58 p) := by unfold oneT; rw [if_pos ⟨h, k⟩]

/-- Where parseOne stands: what is told lies, and the tag lies. -/
structure PAt (w : World) (T : Nat) (k v : ByteArray) (w' : World) : Prop where
  kept : Below w.heap.size w w'
  res : Box w' w.heap.size 23 [.string ⟨#[]⟩, .string ⟨#[]⟩]
  tag : Box w' T 23 [.string k, .string v]
  ne : w.heap.size < T
theorem PAt.next {w w1 w2 : World} {T : Nat} {k v : ByteArray} (h : PAt w T k v w1) (b : Below w1.heap.size w1 w2) : PAt w T k v w2 := ⟨below_then h.kept b, h.res.keep b, h.tag.keep b, h.ne⟩
theorem PAt.cells {w w1 : World} {T : Nat} {k v : ByteArray} (h : PAt w T k v w1) : w1.cell? ⟨T, 0, none⟩ = some (.string k) ∧ w1.cell? ⟨T, 1, none⟩ = some (.string v) ∧ PAt w T k v w1 := ⟨h.tag.cell 0, h.tag.cell 1, h⟩
theorem PAt.of {w w1 : World} {T : Nat} {k v : ByteArray} {P1 P2 : Prop} (h : P1 ∧ P2 ∧ PAt w T k v w1) : PAt w T k v w1 := h.2.2

set_option maxRecDepth 100000 in
set_option maxHeartbeats 4000000 in
theorem parseOne_calls {s : ByteArray} {l : List UInt8} (hs : Str s l) (hz : (s.size : Int) ≤ 100000) (w : World) : Calls Try.prog 32 #[.string s] w (OneP w l) := by
  have hn := hs.size
  have HC := Lib.hid (cut_calls hs (by omega) 58)
  have HS := Lib.hid hs
  clear hs
  have hcl := cut_len 58 l
  go_enter Try.func32, Try.ntmps32
  go_wp2_with fail
  refine (HC.out _).mono ?_
  rintro e w1 ⟨⟨k, v, rfl, hk, hv⟩, hb⟩
  have b0 := Box.new w 23 [.string ⟨#[]⟩, .string ⟨#[]⟩]
  have hlt : w.heap.size < w1.heap.size := (b0.keep hb).lt
  have HP := Lib.hid (show PAt w w1.heap.size k v (w1.alloc (.cells #[.string k, .string v] 23)) from
    ⟨(Below.trans ((Below.refl w.heap.size w).alloc (Nat.le_refl _) (.cells #[.string ⟨#[]⟩, .string ⟨#[]⟩] 23)) (hb.mono (by simp))).alloc (by omega) _, (b0.keep hb).alloc _, Box.new _ _ [_, _], hlt⟩)
  have hkn := hk.size
  have hvn := hv.size
  have HK := Lib.hid (check_calls hk hv (by omega) (by omega))
  have HT := Lib.hid (textOf_calls hk hv (by omega) (by omega))
  have HKV := Lib.hid (And.intro hk hv)
  generalize decide ((58 : UInt8) ∈ l) = q
  obtain ⟨c, hc⟩ : ∃ c, chkT (cutC 58 l) = c := ⟨_, rfl⟩
  rw [hc] at HK
  have HCH := Lib.hid hc
  clear hk hv hb b0 hlt HC hkn hvn hcl hc
  go_wp2_with fail
  refine (HK.out _).mono ?_
  rintro e w2 ⟨rfl, hb⟩
  have HP2 := Lib.hid (HP.out.next hb)
  clear hb HP HK
  have hne := HP2.out.ne
  by_cases hr : rightT (cutC 58 l) = true
  · obtain rfl : (0 : Int) = c := by rw [← HCH.out]; unfold chkT; rw [if_pos hr]
    have c0 : w2.cell? ⟨w1.heap.size, 0, none⟩ = some (.string k) := HP2.out.tag.cell 0
    have c1 : w2.cell? ⟨w1.heap.size, 1, none⟩ = some (.string v) := HP2.out.tag.cell 1
    have HRR := Lib.hid hr
    clear hr
    go_wp2_with fail
    refine (HT.out _).mono ?_
    rintro e w3 ⟨⟨r, rfl, hr⟩, hb⟩
    have HP3 := Lib.hid (HP2.out.next hb)
    have he := str_eq hr HS.out
    clear hb HP2 HT c0 c1
    have c0 : w3.cell? ⟨w1.heap.size, 0, none⟩ = some (.string k) := HP3.out.tag.cell 0
    have c1 : w3.cell? ⟨w1.heap.size, 1, none⟩ = some (.string v) := HP3.out.tag.cell 1
    have d0 : w3.cell? ⟨w.heap.size, 0, none⟩ = some (.string ⟨#[]⟩) := HP3.out.res.cell 0
    have d1 : w3.cell? ⟨w.heap.size, 1, none⟩ = some (.string ⟨#[]⟩) := HP3.out.res.cell 1
    have f0 := HP3.out.res.frozen 0
    have f1 := HP3.out.res.frozen 1
    by_cases ht : txt (cutC 58 l) = l
    · have HO := Lib.hid (right_eq HRR.out ht)
      rw [ht, beq_self_eq_true] at he
      clear ht hr
      go_wp2_with fail
      refine ret_tv rfl rfl rfl rfl ((HP3.out.res.set 0 (.string k)).set 1 (.string v)) ?_
      exact ⟨⟨k, v, by rw [HO.out]; rfl, fun t ht => by rw [HO.out] at ht; injection ht with ht; subst ht; exact HKV.out⟩, (HP3.out.kept.setCell (p := ⟨w.heap.size, 0, none⟩) (Nat.le_refl _) _).setCell (p := ⟨w.heap.size, 1, none⟩) (Nat.le_refl _) _⟩
    · have HO := Lib.hid (right_ne (p := l) (fun h => ht h.2))
      have he' : (r.toList == s.toList) = false := by rw [he]; simpa using ht
      clear ht hr he
      go_wp2_with fail
      refine ret_tv rfl rfl rfl rfl ((HP3.out.res.set 0 (.string ⟨#[]⟩)).set 1 (.string ⟨#[]⟩)) ?_
      exact ⟨⟨⟨#[]⟩, ⟨#[]⟩, by rw [HO.out]; rfl, fun t ht => by rw [HO.out] at ht; cases ht⟩, (HP3.out.kept.setCell (p := ⟨w.heap.size, 0, none⟩) (Nat.le_refl _) _).setCell (p := ⟨w.heap.size, 1, none⟩) (Nat.le_refl _) _⟩
  · obtain rfl : (19 : Int) = c := by rw [← HCH.out]; unfold chkT; rw [if_neg hr]
    have HO := Lib.hid (right_ne (p := l) (fun h => hr h.1))
    have d0 : w2.cell? ⟨w.heap.size, 0, none⟩ = some (.string ⟨#[]⟩) := HP2.out.res.cell 0
    have d1 : w2.cell? ⟨w.heap.size, 1, none⟩ = some (.string ⟨#[]⟩) := HP2.out.res.cell 1
    have f0 := HP2.out.res.frozen 0
    have f1 := HP2.out.res.frozen 1
    clear hr
    go_wp2_with fail
    refine ret_tv rfl rfl rfl rfl ((HP2.out.res.set 0 (.string ⟨#[]⟩)).set 1 (.string ⟨#[]⟩)) ?_
    exact ⟨⟨⟨#[]⟩, ⟨#[]⟩, by rw [HO.out]; rfl, fun t ht => by rw [HO.out] at ht; cases ht⟩, (HP2.out.kept.setCell (p := ⟨w.heap.size, 0, none⟩) (Nat.le_refl _) _).setCell (p := ⟨w.heap.size, 1, none⟩) (Nat.le_refl _) _⟩
end Go.Proofs.Ytapkdghghnmhhaa
