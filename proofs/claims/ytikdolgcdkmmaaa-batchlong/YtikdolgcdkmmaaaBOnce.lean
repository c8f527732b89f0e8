/-
  What BatchOnce and BatchBehind lean on: Normals of batches as plain data. No statement of the seat is proved here.
-/
import Derived.Test.YtikdolgcdkmmaaaBLaw
namespace Go.Proofs.Ytikdolgcdkmmaaa
open Go.RowKit
open Dc (D D0)

theorem fwB_len {C : Mt → Int} {ms : List Mt} (h : (fwB C ms).2 = 0) : ms.length ≤ 1000 := by
  unfold fwB at h
  split at h
  · cases h
  · omega
theorem fwB_ok {C : Mt → Int} {ms : List Mt} (h : (fwB C ms).2 = 0) : ∀ m ∈ ms, C m = 0 := by
  have hl := fwB_len h
  unfold fwB at h
  rw [if_neg (by omega)] at h
  exact fw_ok h
theorem fwB_all {C : Mt → Int} {ms : List Mt} (hl : ms.length ≤ 1000) (h : ∀ m ∈ ms, C m = 0) : fwB C ms = (0, 0) := by
  unfold fwB
  rw [if_neg (by omega), fw_all h]
theorem nB_ok {ms : List Mt} (h : (fwB codeM ms).2 = 0) : nB ms = ms.map nM := by unfold nB; rw [if_pos h]
theorem nB_no {ms : List Mt} (h : (fwB codeM ms).2 ≠ 0) : nB ms = [] := by unfold nB; rw [if_neg h]
theorem fwB_map {ms : List Mt} (h : (fwB codeM ms).2 = 0) : fwB codeM (ms.map nM) = (0, 0) := by
  refine fwB_all (by rw [List.length_map]; exact fwB_len h) fun m hm => ?_
  obtain ⟨x, hx, rfl⟩ := List.mem_map.1 hm
  exact codeM_nM (fwB_ok h x hx)
theorem nB_map {ms : List Mt} (h : (fwB codeM ms).2 = 0) : nB (ms.map nM) = ms.map nM := by
  rw [nB_ok (by rw [fwB_map h]), List.map_map]
  exact List.map_congr_left fun m hm => nM_nM (fwB_ok h m hm)
theorem sameB_ok {ms : List Mt} (h : (fwB codeM ms).2 = 0) : sameB ms (ms.map nM) = true := by
  unfold sameB
  rw [nB_map h, nB_ok h, h, fwB_map h]
  simp
theorem sameB_no {ms ns : List Mt} (h : (fwB codeM ms).2 ≠ 0) : sameB ms ns = false := by unfold sameB; rw [decide_eq_false h]; simp
theorem datM_get {es : List En} {i : Nat} {m : Mt} (h : (datM es)[i]? = some m) : ∃ x, es[i]? = some x ∧ x.m = m := by
  unfold datM at h
  rw [List.getElem?_map] at h
  cases hx : es[i]? with
  | none => rw [hx] at h; cases h
  | some x => rw [hx] at h; injection h with h; exact ⟨x, rfl, h⟩
theorem datM_at {es : List En} {i : Nat} {x : En} (h : es[i]? = some x) : (datM es)[i]? = some x.m := by unfold datM; rw [List.getElem?_map, h]; rfl
theorem datM_take (es : List En) (k : Nat) : datM (es.take k) = (datM es).take k := by unfold datM; rw [List.map_take]
theorem fwB_bad {es : List En} {p : Nat} {c : Int} (h : fwB codeM (datM es) = (p, c)) (hl : es.length ≤ 1000) (hc : c ≠ 0) : p < es.length ∧ (∃ x, es[p]? = some x ∧ codeM x.m = c) ∧ fwB codeM (datM (es.take p)) = (0, 0) := by
  rw [fwB_in (by omega)] at h
  rcases fw_cases codeM (datM es) with ⟨_, h2⟩ | ⟨a, m, b, h1, h2, h3, h4⟩
  · rw [h2] at h; injection h with _ h; exact absurd h.symm hc
  · rw [h4] at h
    injection h with h5 h6
    subst h5
    have hg : (datM es)[a.length]? = some m := by rw [h1]; simp
    obtain ⟨x, hx, hm⟩ := datM_get hg
    refine ⟨(List.getElem?_eq_some_iff.1 hx).1, ⟨x, hx, by rw [hm, h6]⟩, ?_⟩
    rw [datM_take, h1, List.take_left']
    · exact fwB_all (by have := datM_len es; rw [h1] at this; simp at this; omega) h2
    · rfl
theorem Mets.take {w : World} {A : Option Addr} {es : List En} (h : Mets w A es) (k : Nat) : Mets w A (es.take k) := by
  refine ⟨fun i u hu => ?_, fun e he => h.met e (List.mem_of_mem_take he)⟩
  have hi := (List.getElem?_eq_some_iff.1 hu).1
  rw [flatM_length, List.length_take] at hi
  refine h.row i u ?_
  conv => lhs; rw [← List.take_append_drop k es, flatM_append]
  rw [List.getElem?_append_left (by rw [flatM_length, List.length_take]; omega)]
  exact hu
end Go.Proofs.Ytikdolgcdkmmaaa
