/-
  The document's Equal of batches, and batch.Same. No statement of the seat is proved here.
-/
import Derived.Test.YteffankkelbhiaaBEqual
import Derived.Test.YteffankkelbhiaaMA0
import Derived.Test.YteffankkelbhiaaMLaw
namespace Go.Proofs.Yteffankkelbhiaa
open Go.RowKit Go.Sort
open Dc (D D0)

set_option maxRecDepth 100000 in
set_option maxHeartbeats 8000000 in
theorem rbequal_calls {w : World} {A B : Option Addr} {len lenb cap capb : Nat} {es fs : List En} (hlen : es.length = len) (hlenb : fs.length = lenb) (hz : len ≤ 100000) (hzb : lenb ≤ 100000) (hM : Mets w A es) (hMb : Mets w B fs) (hs : Smalls es) :
    Calls Try.prog 18 #[.slice A len cap, .slice B lenb capb] w fun e w' => e = .returned (.bool (decide (datM es = datM fs))) ∧ Below w.heap.size w w' := by
  obtain ⟨q, hq⟩ : ∃ q, decide (datM es = datM fs) = q := ⟨_, rfl⟩
  rw [hq]
  have HP := Lib.hid (And.intro hq (And.intro hM (And.intro hMb hs)))
  have HL := Lib.hid (And.intro hlen hlenb)
  clear hq hM hMb hs
  by_cases h1 : len = lenb
  · subst h1
    clear hlen hlenb
    go_enter Try.func18, Try.ntmps18
    go_wp2_with fail
    go_loopw [5] (fun v5 wr => ∃ i : Nat, v5 = .int .i64 i ∧ i ≤ len ∧ Hid (Below w.heap.size w wr ∧ ∀ (j : Nat) a b, es[j]? = some a → fs[j]? = some b → j < i → a.m = b.m)) (fun v5 _ => len - (intOf v5).toNat)
    case atStart => exact ⟨0, rfl, by omega, ⟨Below.refl _ _, fun j _ _ _ _ hj => absurd hj (by omega)⟩⟩
    case round =>
      obtain ⟨i, rfl, hi, hrel⟩ := hrel
      by_cases hlt : i < len
      · have g1 : (i : Int) < (len : Int) := by omega
        have g2 : (0 : Int) ≤ (i : Int) := by omega
        obtain ⟨h1, h2⟩ := HL.out
        have hie : es[i]? = some (es[i]'(by omega)) := List.getElem?_eq_getElem (by omega)
        generalize es[i]'(by omega) = x at hie
        have hif : fs[i]? = some (fs[i]'(by omega)) := List.getElem?_eq_getElem (by omega)
        generalize fs[i]'(by omega) = y at hif
        have hA := HP.out.2.1.keep hrel.out.1
        have hB := HP.out.2.2.1.keep hrel.out.1
        obtain ⟨ba, oa, eA, k0, k1, k2, k3, k4, k5⟩ := hA.get hie
        obtain ⟨bb, ob, eB, m0, m1, m2, m3, m4, m5⟩ := hB.get hif
        obtain ⟨c, hc⟩ : ∃ c, decide (x.m = y.m) = c := ⟨_, rfl⟩
        have hQ := fun d os => requal_calls (ca := x.ca) (cb := x.cb) (ca' := y.ca) (cb' := y.cb) ((hA.keep (below_regrown wr d os)).one hie) ((hB.keep (below_regrown wr d os)).one hif) (HP.out.2.2.2 _ (List.mem_of_getElem? hie))
        unfold mV at hQ
        rw [hc] at hQ
        have Q0 := Lib.hid (fun d os => Calls.regrown_of (hQ d os))
        subst eA eB
        have c0 := cell_regrown k0
        have c1 := cell_regrown k1
        have c2 := cell_regrown k2
        have c3 := cell_regrown k3
        have c4 := cell_regrown k4
        have c5 := cell_regrown k5
        have d0 := cell_regrown m0
        have d1 := cell_regrown m1
        have d2 := cell_regrown m2
        have d3 := cell_regrown m3
        have d4 := cell_regrown m4
        have d5 := cell_regrown m5
        have HI := Lib.hid (And.intro hie (And.intro hif hc))
        clear k0 k1 k2 k3 k4 k5 m0 m1 m2 m3 m4 m5 hA hB hQ hc hie hif h1 h2
        go_wp2_with fail
        refine wp_region_quiet_below (by kernel_rfl) (by kernel_rfl) ?_
        repeat (go_big_quiet_step (first | with_reducible exact Q0.out _ _))
        refine wpQuiet_nil ?_
        rintro _ ⟨⟨dq, osq⟩, rfl⟩
        clear c0 c1 c2 c3 c4 c5 d0 d1 d2 d3 d4 d5 Q0
        have HB := Lib.hid (below_then hrel.out.1 (below_regrown _ dq osq))
        cases c
        · go_wp2_with fail
          go_ret
          rw [← HP.out.1, decide_eq_false (dat_ne HI.out.1 HI.out.2.1 (of_decide_eq_false HI.out.2.2))]
          exact ⟨rfl, HB.out⟩
        · go_wp2_with fail
          refine ⟨⟨i + 1, by go_num, by omega, ⟨HB.out, fun j a b ha hb hj => ?_⟩⟩, by simp [intOf]; omega⟩
          rcases Nat.lt_or_ge j i with h | h
          · exact hrel.out.2 j a b ha hb h
          · obtain rfl : i = j := by omega
            rw [HI.out.1] at ha
            rw [HI.out.2.1] at hb
            injection ha with ha
            injection hb with hb
            subst ha hb
            exact of_decide_eq_true HI.out.2.2
      · have g1 : ¬ (i : Int) < (len : Int) := by omega
        go_wp2_with fail
        go_ret
        rw [← HP.out.1, decide_eq_true (dat_eq (by rw [HL.out.1, HL.out.2]) fun j a b ha hb => hrel.out.2 j a b ha hb (by have := (List.getElem?_eq_some_iff.1 ha).1; have := HL.out.1; omega))]
        exact ⟨rfl, hrel.out.1⟩
  · have g1 : (len : Int) ≠ (lenb : Int) := by omega
    have HE := Lib.hid (show q = false by rw [← HP.out.1]; exact decide_eq_false fun h => h1 (by have := congrArg List.length h; rw [datM_len, datM_len, hlen, hlenb] at this; exact this))
    clear hlen hlenb
    go_enter Try.func18, Try.ntmps18
    go_wp2_with fail
    go_ret
    exact ⟨by rw [HE.out]; first | done | rfl, Below.refl _ _⟩

theorem nB_mem {ms : List Mt} {m : Mt} (h : m ∈ nB ms) : ∃ x ∈ ms, m = nM x := by
  unfold nB at h
  split at h
  · obtain ⟨x, hx, rfl⟩ := List.mem_map.1 h
    exact ⟨x, hx, rfl⟩
  · cases h
theorem nB_len (ms : List Mt) : (nB ms).length ≤ ms.length := by
  unfold nB
  split
  · rw [List.length_map]; exact Nat.le_refl _
  · exact Nat.zero_le _
theorem smalls_n {es fs : List En} (hs : Smalls es) (hf : datM fs = nB (datM es)) : Smalls fs := fun e he => by
  obtain ⟨x, hx, e2⟩ := nB_mem (hf ▸ List.mem_map.2 ⟨e, he, rfl⟩ : e.m ∈ nB (datM es))
  obtain ⟨y, hy, rfl⟩ := List.mem_map.1 hx
  rw [e2]; exact (hs y hy).n
theorem len_n {es fs : List En} (hf : datM fs = nB (datM es)) : fs.length ≤ es.length := by
  have := nB_len (datM es)
  rw [← hf, datM_len, datM_len] at this
  exact this
/-- Whether two batches have one form. -/
def sameB (a b : List Mt) : Bool := decide ((fwB codeM a).2 = 0) && decide ((fwB codeM b).2 = 0) && decide (nB a = nB b)

end Go.Proofs.Yteffankkelbhiaa
