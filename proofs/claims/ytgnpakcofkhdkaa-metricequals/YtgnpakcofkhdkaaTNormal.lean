/-
  Package tag: Normal. No statement of the seat is proved here.
-/
import Derived.Test.YtgnpakcofkhdkaaTCompact
import Derived.Test.YtgnpakcofkhdkaaShelfT
namespace Go.Proofs.Ytgnpakcofkhdkaa
open Go.RowKit Go.Sort
open Go.Lib (compactUpTo keeps keeps_pos keeps_neg)

theorem lt_ord (x y : Tg) : ltOf ordT x y = ltT x y := ordT_lt x y
theorem ltT_ntrans {x y z : Tg} (h : ltT x y = false) (k : ltT y z = false) : ltT x z = false := by
  cases c : ltT x z
  · rfl
  · cases c' : ltT y x
    · have := ltT_total h c'
      subst this
      rw [k] at c; cases c
    · have := ltT_trans c' c
      rw [k] at this; cases this
theorem swo_tags : SWO (ltOf ordT) := {
  irrefl := fun x => by rw [lt_ord]; exact ltT_irrefl x
  trans := fun x y z h1 h2 => by rw [lt_ord] at *; exact ltT_trans h1 h2
  ntrans := fun x y z h1 h2 => by rw [lt_ord] at *; exact ltT_ntrans h1 h2 }

/-- What is in order, without those that are the same as the one before. -/
theorem compact_norm {ts : List Tg} {d : Array Tg} (hp : d.toList.Perm ts) (hs : ∀ i j, i < j → j < d.size → ltT d[j]! d[i]! = false) : compactUpTo d d.size = norm ts := by
  refine norm_is ?_ fun x => ?_
  · unfold Up compactUpTo
    refine List.pairwise_map.2 (List.Pairwise.imp_of_mem (fun {i j} hi hj hlt => ?_) (List.Pairwise.filter (keeps d) (List.pairwise_lt_range (n := d.size))))
    have hj' := List.mem_filter.1 hj
    have hjn : j < d.size := List.mem_range.1 hj'.1
    have hk : d[j]! ≠ d[j - 1]! := by
      have := hj'.2
      unfold keeps at this
      rcases of_decide_eq_true this with h | h
      · omega
      · exact h
    have h1 : ltT d[j - 1]! d[j]! = true := by
      cases c : ltT d[j - 1]! d[j]!
      · exact absurd (ltT_total (hs (j - 1) j (by omega) hjn) c) hk
      · rfl
    rcases Nat.lt_or_ge i (j - 1) with h | h
    · have h2 := hs i (j - 1) h (by omega)
      cases c : ltT d[i]! d[j]!
      · have := ltT_ntrans h2 c
        rw [h1] at this; cases this
      · rfl
    · obtain rfl : j - 1 = i := by omega
      exact h1
  · rw [← hp.mem_iff]
    unfold compactUpTo
    constructor
    · intro hx
      obtain ⟨i, hi, rfl⟩ := List.mem_map.1 hx
      have hin : i < d.size := List.mem_range.1 (List.mem_filter.1 hi).1
      rw [at_list (by simpa using hin)]
      exact List.getElem_mem _
    · intro hx
      obtain ⟨i0, hi0, e0⟩ := List.mem_iff_getElem.1 hx
      have key : ∀ i, i < d.size → d[i]! = x → ∃ j, j < d.size ∧ d[j]! = x ∧ keeps d j = true := by
        intro i
        induction i with
        | zero => intro h e; exact ⟨0, h, e, by simp [keeps]⟩
        | succ i ih =>
          intro h e
          by_cases he : d[i + 1]! = d[i]!
          · exact ih (by omega) (by rw [← he]; exact e)
          · exact ⟨i + 1, h, e, keeps_pos (by simpa using he)⟩
      obtain ⟨j, hj, e, hk⟩ := key i0 (by simpa using hi0) (by rw [at_list hi0]; exact e0)
      exact List.mem_map.2 ⟨j, List.mem_filter.2 ⟨List.mem_range.2 hj, hk⟩, e⟩

theorem flatK_flat (ts : List Tg) : flatK encT 2 ts.toArray = (flat ts).toArray := by
  apply Array.ext_getElem?
  intro i
  simp only [flatK, Array.getElem?_map, List.getElem?_toArray]
  by_cases h : i < ts.length * 2
  · obtain ⟨j, c, rfl, hc⟩ : ∃ j c, i = j * 2 + c ∧ c < 2 := ⟨i / 2, i % 2, by omega, Nat.mod_lt _ (by omega)⟩
    have hj : j < ts.length := by omega
    have e1 : (j * 2 + c) / 2 = j := by omega
    have e2 : (j * 2 + c) % 2 = c := by omega
    rw [show (Array.range (ts.toArray.size * 2))[j * 2 + c]? = some (j * 2 + c) by rw [Array.getElem?_eq_getElem (by rw [Array.size_range, List.size_toArray]; omega), Array.getElem_range]]
    simp only [Option.map_some, e1, e2]
    rw [getElem!_pos ts.toArray j (by simpa using hj)]
    rcases (by omega : c = 0 ∨ c = 1) with rfl | rfl
    · rw [Nat.add_zero, flat_get0, List.getElem?_eq_getElem hj]; rfl
    · rw [flat_get1, List.getElem?_eq_getElem hj]; rfl
  · rw [show (Array.range (ts.toArray.size * 2))[i]? = none by rw [Array.getElem?_eq_none (by rw [Array.size_range, List.size_toArray]; omega)], List.getElem?_eq_none (by rw [flat_length]; omega)]; rfl

theorem RowT.holds {w : World} {g cap : Nat} {ts : List Tg} (h : RowT w g cap ts) : HoldsK encT 2 w g 0 ts.toArray := by
  unfold HoldsK
  rw [flatK_flat]
  intro j hj
  have hj' : j < (flat ts).length := by simpa using hj
  refine ⟨?_, h.frozen _⟩
  obtain ⟨b, off, e, hc⟩ := h.tags j _ (List.getElem?_eq_getElem hj')
  injection e with e
  injection e with e1 e2
  subst e1 e2
  rw [hc, getElem!_pos _ j hj]
  simp
theorem RowT.sorted {w : World} {g cap : Nat} {ts us : List Tg} (h : RowT w g cap ts) (hl : us.length = ts.length) (n : Nat) (os : Array Obj) : RowT (sortWorldK encT 2 w g 0 n us.toArray os) g cap us ∧ But g w (sortWorldK encT 2 w g 0 n us.toArray os) := by
  have hlt := h.lt
  obtain ⟨cur, hh, h1, h2, h3⟩ := h
  have hsz : w.heap.size = (putRowK encT 2 (Sort.ahead w n) g 0 us.toArray).heap.size := by rw [size_putRowK]; rfl
  refine ⟨⟨putCells id 0 (flatK encT 2 us.toArray) cur, ?_, by simpa [putCells] using h1, ?_, by omega⟩, ⟨rfl, rfl, rfl, ?_, fun k hk hne => ?_⟩⟩
  · unfold sortWorldK
    rw [heap_grow_old _ _ (by rw [← hsz]; exact hlt)]
    unfold putRowK putRow mapBlock
    simp only [Array.getElem?_modify, if_true]
    rw [show (Sort.ahead w n).heap[g]? = w.heap[g]? from rfl, hh]
    rfl
  · rw [flatK_flat]
    apply List.ext_getElem?
    intro i
    rw [List.getElem?_take]
    by_cases hi : i < us.length * 2
    · rw [if_pos hi]
      have hc : i < cur.size := by omega
      simp only [Array.getElem?_toList, putCells, Array.getElem?_mapIdx, Array.getElem?_eq_getElem hc, Option.map_some]
      have hf : i < (flat us).length := by rw [flat_length]; exact hi
      rw [if_pos ⟨by omega, by simpa using hf⟩, getElem!_pos _ _ (by simpa using hf)]
      simp [List.getElem?_eq_getElem hf]
    · rw [if_neg hi, List.getElem?_eq_none (by rw [flat_length]; omega)]
  · unfold sortWorldK; rw [size_grow, ← hsz]; omega
  · unfold sortWorldK
    rw [heap_grow_old _ _ (by rw [← hsz]; exact hk)]
    unfold putRowK putRow mapBlock
    rw [Array.getElem?_modify, if_neg (Ne.symm hne)]
    rfl

theorem cmp_tags (g size : Nat) (w : World) : CmpLays Try.prog 51 #[] encT 2 ordT g 0 size w :=
  fun _ _ _ _ x y => order_calls (Str.mk x.1) (Str.mk x.2) (Str.mk y.1) (Str.mk y.2) _

theorem perm_list {ts : List Tg} {d : Array Tg} (h : PermIn 0 ts.toArray.size ts.toArray d) : d.size = ts.length ∧ d.toList.Perm ts := by
  obtain ⟨h1, _, h3⟩ := h
  have h1' : d.size = ts.length := by simpa using h1
  refine ⟨h1', ?_⟩
  have e1 : (d.extract 0 ts.toArray.size).toList = d.toList := by simp [← h1']
  have e2 : (ts.toArray.extract 0 ts.toArray.size).toList = ts := by simp
  rwa [e1, e2] at h3

theorem sort_calls {w : World} {g cap : Nat} {ts : List Tg} (h : RowT w g cap ts) (hz : ts.length ≤ 1000) :
    Calls Try.prog 50 #[.slice (some ⟨g, 0, none⟩) ts.length cap, .func (.func 51) #[] #[]] w fun e w' => e = .returned (.tuple #[]) ∧ But g w w' ∧ ∃ d : Array Tg, d.size = ts.length ∧ RowT w' g cap d.toList ∧ compactUpTo d d.size = norm ts := by
  have eg : ∀ args w, (callFunc 51 args).run Try.prog w = .ok (.enter 51 args) w := fun _ _ => by kernel_rfl
  have hcon := AnyQ.slices_SortFunc Try.laysSort 2 Try.isAgg38 Try.sizeOf38 encT (fun _ => rfl) (fun x v hv => by simp [encT] at hv; rcases hv with rfl | rfl <;> rfl) ordT swo_tags 51 #[] g 0 cap ts.toArray w eg (cmp_tags g _ w) h.holds h.lt (by simp; omega)
  change Calls Try.prog 50 #[.slice (some ⟨g, 0, none⟩) ts.toArray.size cap, .func (.func 51) #[] #[]] w _ at hcon
  rw [List.size_toArray] at hcon
  refine hcon.mono ?_
  rintro e w' ⟨rfl, d, n, os, hp, hs, rfl⟩
  obtain ⟨hd, hperm⟩ := perm_list (by simpa using hp)
  obtain ⟨r1, r2⟩ := h.sorted (us := d.toList) (by simpa using hd) n os
  simp only [Array.toArray_toList] at r1 r2
  refine ⟨rfl, r2, d, hd, r1, compact_norm hperm fun i j hij hj => ?_⟩
  have := hs i j (Nat.zero_le _) hij (by omega)
  rwa [lt_ord] at this
end Go.Proofs.Ytgnpakcofkhdkaa
