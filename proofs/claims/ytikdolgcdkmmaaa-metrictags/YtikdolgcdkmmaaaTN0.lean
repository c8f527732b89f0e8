/-
  TNormal, TNormal2. No statement of the seat is proved here.
-/
import Derived.Test.YtikdolgcdkmmaaaTCompact
import Derived.Test.YtikdolgcdkmmaaaShelfT
/-
  Package tag: Normal. No statement of the seat is proved here.
-/
namespace Go.Proofs.Ytikdolgcdkmmaaa
open Go.RowKit Go.Sort
open Go.Lib (compactUpTo keeps keeps_pos keeps_neg)

theorem lt_ord (x y : Tg) : ltOf ordT x y = ltT x y := ordT_lt x y
theorem ltT_ntrans {x y z : Tg} (h : ltT x y = false) (k : ltT y z = false) : ltT x z = false := by
  cases c : ltT x z
  · rfl
  · cases c' : ltT y x
    · have := ltT_total h c'
      subst this
      rw [k] at c; cases c
    · have := ltT_trans c' c
      rw [k] at this; cases this
theorem swo_tags : SWO (ltOf ordT) := {
  irrefl := fun x => by rw [lt_ord]; exact ltT_irrefl x
  trans := fun x y z h1 h2 => by rw [lt_ord] at *; exact ltT_trans h1 h2
  ntrans := fun x y z h1 h2 => by rw [lt_ord] at *; exact ltT_ntrans h1 h2 }

/-- What is in order, without those that are the same as the one before. -/
theorem compact_norm {ts : List Tg} {d : Array Tg} (hp : d.toList.Perm ts) (hs : ∀ i j, i < j → j < d.size → ltT d[j]! d[i]! = false) : compactUpTo d d.size = norm ts := by
  refine norm_is ?_ fun x => ?_
  · unfold Up compactUpTo
    refine List.pairwise_map.2 (List.Pairwise.imp_of_mem (fun {i j} hi hj hlt => ?_) (List.Pairwise.filter (keeps d) (List.pairwise_lt_range (n := d.size))))
    have hj' := List.mem_filter.1 hj
    have hjn : j < d.size := List.mem_range.1 hj'.1
    have hk : d[j]! ≠ d[j - 1]! := by
      have := hj'.2
      unfold keeps at this
      rcases of_decide_eq_true this with h | h
      · omega
      · exact h
    have h1 : ltT d[j - 1]! d[j]! = true := by
      cases c : ltT d[j - 1]! d[j]!
      · exact absurd (ltT_total (hs (j - 1) j (by omega) hjn) c) hk
      · rfl
    rcases Nat.lt_or_ge i (j - 1) with h | h
    · have h2 := hs i (j - 1) h (by omega)
      cases c : ltT d[i]! d[j]!
      · have := ltT_ntrans h2 c
        rw [h1] at this; cases this
      · rfl
    · obtain rfl : j - 1 = i := by omega
      exact h1
  · rw [← hp.mem_iff]
    unfold compactUpTo
    constructor
    · intro hx
      obtain ⟨i, hi, rfl⟩ := List.mem_map.1 hx
      have hin : i < d.size := List.mem_range.1 (List.mem_filter.1 hi).1
      rw [at_list (by simpa using hin)]
      exact List.getElem_mem _
    · intro hx
      obtain ⟨i0, hi0, e0⟩ := List.mem_iff_getElem.1 hx
      have key : ∀ i, i < d.size → d[i]! = x → ∃ j, j < d.size ∧ d[j]! = x ∧ keeps d j = true := by
        intro i
        induction i with
        | zero => intro h e; exact ⟨0, h, e, by simp [keeps]⟩
        | succ i ih =>
          intro h e
          by_cases he : d[i + 1]! = d[i]!
          · exact ih (by omega) (by rw [← he]; exact e)
          · exact ⟨i + 1, h, e, keeps_pos (by simpa using he)⟩
      obtain ⟨j, hj, e, hk⟩ := key i0 (by simpa using hi0) (by rw [at_list hi0]; exact e0)
      exact List.mem_map.2 ⟨j, List.mem_filter.2 ⟨List.mem_range.2 hj, hk⟩, e⟩

theorem flatK_flat (ts : List Tg) : flatK encT 2 ts.toArray = (flat ts).toArray := by
  apply Array.ext_getElem?
  intro i
  simp only [flatK, Array.getElem?_map, List.getElem?_toArray]
  by_cases h : i < ts.length * 2
  · obtain ⟨j, c, rfl, hc⟩ : ∃ j c, i = j * 2 + c ∧ c < 2 := ⟨i / 2, i % 2, by omega, Nat.mod_lt _ (by omega)⟩
    have hj : j < ts.length := by omega
    have e1 : (j * 2 + c) / 2 = j := by omega
    have e2 : (j * 2 + c) % 2 = c := by omega
    rw [show (Array.range (ts.toArray.size * 2))[j * 2 + c]? = some (j * 2 + c) by rw [Array.getElem?_eq_getElem (by rw [Array.size_range, List.size_toArray]; omega), Array.getElem_range]]
    simp only [Option.map_some, e1, e2]
    rw [getElem!_pos ts.toArray j (by simpa using hj)]
    rcases (by omega : c = 0 ∨ c = 1) with rfl | rfl
    · rw [Nat.add_zero, flat_get0, List.getElem?_eq_getElem hj]; rfl
    · rw [flat_get1, List.getElem?_eq_getElem hj]; rfl
  · rw [show (Array.range (ts.toArray.size * 2))[i]? = none by rw [Array.getElem?_eq_none (by rw [Array.size_range, List.size_toArray]; omega)], List.getElem?_eq_none (by rw [flat_length]; omega)]; rfl

theorem RowT.holds {w : World} {g cap : Nat} {ts : List Tg} (h : RowT w g cap ts) : HoldsK encT 2 w g 0 ts.toArray := by
  unfold HoldsK
  rw [flatK_flat]
  intro j hj
  have hj' : j < (flat ts).length := by simpa using hj
  refine ⟨?_, h.frozen _⟩
  obtain ⟨b, off, e, hc⟩ := h.tags j _ (List.getElem?_eq_getElem hj')
  injection e with e
  injection e with e1 e2
  subst e1 e2
  rw [hc, getElem!_pos _ j hj]
  simp
theorem RowT.sorted {w : World} {g cap : Nat} {ts us : List Tg} (h : RowT w g cap ts) (hl : us.length = ts.length) (n : Nat) (os : Array Obj) : RowT (sortWorldK encT 2 w g 0 n us.toArray os) g cap us ∧ But g w (sortWorldK encT 2 w g 0 n us.toArray os) := by
  have hlt := h.lt
  obtain ⟨cur, hh, h1, h2, h3⟩ := h
  have hsz : w.heap.size = (putRowK encT 2 (Sort.ahead w n) g 0 us.toArray).heap.size := by rw [size_putRowK]; rfl
  refine ⟨⟨putCells id 0 (flatK encT 2 us.toArray) cur, ?_, by simpa [putCells] using h1, ?_, by omega⟩, ⟨rfl, rfl, rfl, ?_, fun k hk hne => ?_⟩⟩
  · unfold sortWorldK
    rw [heap_grow_old _ _ (by rw [← hsz]; exact hlt)]
    unfold putRowK putRow mapBlock
    simp only [Array.getElem?_modify, if_true]
    rw [show (Sort.ahead w n).heap[g]? = w.heap[g]? from rfl, hh]
    rfl
  · rw [flatK_flat]
    apply List.ext_getElem?
    intro i
    rw [List.getElem?_take]
    by_cases hi : i < us.length * 2
    · rw [if_pos hi]
      have hc : i < cur.size := by omega
      simp only [Array.getElem?_toList, putCells, Array.getElem?_mapIdx, Array.getElem?_eq_getElem hc, Option.map_some]
      have hf : i < (flat us).length := by rw [flat_length]; exact hi
      rw [if_pos ⟨by omega, by simpa using hf⟩, getElem!_pos _ _ (by simpa using hf)]
      simp [List.getElem?_eq_getElem hf]
    · rw [if_neg hi, List.getElem?_eq_none (by rw [flat_length]; omega)]
  · unfold sortWorldK; rw [size_grow, ← hsz]; omega
  · unfold sortWorldK
    rw [heap_grow_old _ _ (by rw [← hsz]; exact hk)]
    unfold putRowK putRow mapBlock
    rw [Array.getElem?_modify, if_neg (Ne.symm hne)]
    rfl

theorem cmp_tags (g size : Nat) (w : World) : CmpLays Try.prog 49 #[] encT 2 ordT g 0 size w :=
  fun _ _ _ _ x y => order_calls (Str.mk x.1) (Str.mk x.2) (Str.mk y.1) (Str.mk y.2) _

theorem perm_list {ts : List Tg} {d : Array Tg} (h : PermIn 0 ts.toArray.size ts.toArray d) : d.size = ts.length ∧ d.toList.Perm ts := by
  obtain ⟨h1, _, h3⟩ := h
  have h1' : d.size = ts.length := by simpa using h1
  refine ⟨h1', ?_⟩
  have e1 : (d.extract 0 ts.toArray.size).toList = d.toList := by simp [← h1']
  have e2 : (ts.toArray.extract 0 ts.toArray.size).toList = ts := by simp
  rwa [e1, e2] at h3

theorem sort_calls {w : World} {g cap : Nat} {ts : List Tg} (h : RowT w g cap ts) (hz : ts.length ≤ 1000) :
    Calls Try.prog 48 #[.slice (some ⟨g, 0, none⟩) ts.length cap, .func (.func 49) #[] #[]] w fun e w' => e = .returned (.tuple #[]) ∧ But g w w' ∧ ∃ d : Array Tg, d.size = ts.length ∧ RowT w' g cap d.toList ∧ compactUpTo d d.size = norm ts := by
  have eg : ∀ args w, (callFunc 49 args).run Try.prog w = .ok (.enter 49 args) w := fun _ _ => by kernel_rfl
  have hcon := AnyQ.slices_SortFunc Try.laysSort 2 Try.isAgg33 Try.sizeOf33 encT (fun _ => rfl) (fun x v hv => by simp [encT] at hv; rcases hv with rfl | rfl <;> rfl) ordT swo_tags 49 #[] g 0 cap ts.toArray w eg (cmp_tags g _ w) h.holds h.lt (by simp; omega)
  change Calls Try.prog 48 #[.slice (some ⟨g, 0, none⟩) ts.toArray.size cap, .func (.func 49) #[] #[]] w _ at hcon
  rw [List.size_toArray] at hcon
  refine hcon.mono ?_
  rintro e w' ⟨rfl, d, n, os, hp, hs, rfl⟩
  obtain ⟨hd, hperm⟩ := perm_list (by simpa using hp)
  obtain ⟨r1, r2⟩ := h.sorted (us := d.toList) (by simpa using hd) n os
  simp only [Array.toArray_toList] at r1 r2
  refine ⟨rfl, r2, d, hd, r1, compact_norm hperm fun i j hij hj => ?_⟩
  have := hs i j (Nat.zero_le _) hij (by omega)
  rwa [lt_ord] at this
end Go.Proofs.Ytikdolgcdkmmaaa

/-
  Package tag: Normal and Is. No statement of the seat is proved here.
-/
namespace Go.Proofs.Ytikdolgcdkmmaaa
open Go.RowKit
open Go.Lib (compactUpTo)

theorem tags_nil_of {w : World} {ts : List Tg} (h : Tags w none ts) : ts = [] := by
  rcases ts with _ | ⟨t, ts⟩
  · rfl
  · obtain ⟨b, off, e, _⟩ := h 0 _ rfl
    cases e

theorem own_rowT {w : World} {base g n cap : Nat} {ts : List Tg} (h : w.ownsRow base 33 2 (.slice (some ⟨g, 0, none⟩) n cap) n (flat ts)) (hn : ts.length = n) : RowT w g cap ts ∧ base ≤ g := by
  rcases h.2 with ⟨e, _⟩ | ⟨g', cap', cur, e, hg, hh, h1, h2, h3, h4⟩
  · cases e
  · injection e with e1 _ e3
    injection e1 with e1
    injection e1 with e1
    subst e1 e3
    exact ⟨⟨cur, hh, h3, by rw [hn]; exact h4, by omega⟩, hg⟩

set_option maxRecDepth 100000 in
theorem clone_calls {w : World} {A : Option Addr} {n cap : Nat} {ts : List Tg} (hn : ts.length = n) (hA : Tags w A ts) (hz : n ≤ 1000) :
    Calls Try.prog 31 #[.slice A n cap] w fun e w' => Below w.heap.size w w' ∧ ((e = .returned (.slice none 0 0) ∧ ts = []) ∨ ∃ g cap', e = .returned (.slice (some ⟨g, 0, none⟩) n cap') ∧ RowT w' g cap' ts ∧ w.heap.size ≤ g) := by
  have hq := Lib.run_eql_slice_nil (P := Try.prog)
  rcases A with _ | ad
  · have h0 := tags_nil_of hA
    subst h0
    obtain rfl : 0 = n := hn
    clear hA
    go_enter Try.func31, Try.ntmps31
    go_wp2_with fail
    go_ret
    exact ⟨Below.refl _ _, .inl ⟨rfl, by trivial⟩⟩
  · have HA := Lib.hid (And.intro hn hA)
    clear hn hA
    go_enter Try.func31, Try.ntmps31
    go_wp2_with (first | (at_builtin; refine wpList_append_tags _ rfl (.tmp 5) (.tmp 6) rfl w.heap.size _ 0 [] rfl (own_empty w) (some ad) n cap ts rfl HA.out.1 (HA.out.2.keep ((Below.refl _ _).alloc (Nat.le_refl _) _)) (by omega) (by simp) ?_; intro v' w' hown hgr hob))
    go_ret
    have hb : Below w.heap.size w w' := ((Below.refl _ _).alloc (Nat.le_refl _) _).grown hgr (by simp) (by intro k hk; cases hk; exact Nat.le_refl _)
    refine ⟨hb, ?_⟩
    rw [Nat.zero_add, List.nil_append] at hown
    rcases hown.2 with ⟨rfl, h⟩ | ⟨g, cp, cur, rfl, hg, hh, h1, h2, h3, h4⟩
    · refine .inl ⟨rfl, List.eq_nil_of_length_eq_zero (by rw [HA.out.1]; exact h)⟩
    · exact .inr ⟨g, cp, rfl, (own_rowT hown HA.out.1).1, hg⟩

/-- What Normal tells. -/
def NormP (w : World) (r : List Tg) (e : Ending) (w' : World) : Prop := (∃ A cap, e = .returned (.slice A r.length cap) ∧ Tags w' A r) ∧ Below w.heap.size w w'
/-- A slice that lies in new memory, if it lies anywhere. -/
def Fresh (lo : Nat) (A : Option Addr) : Prop := ∀ a, A = some a → lo ≤ a.block
theorem Fresh.low {lo lo' : Nat} {A : Option Addr} (h : Fresh lo A) (hl : lo' ≤ lo) : Fresh lo' A := fun a ha => Nat.le_trans hl (h a ha)
theorem Fresh.none_ (lo : Nat) : Fresh lo none := fun a h => by cases h
theorem Fresh.own {w : World} {base size n cap : Nat} {el : TypeId} {A : Option Addr} {xs : List Value} (h : w.ownsRow base el size (.slice A n cap) n xs) : Fresh base A := fun a ha => by
  rcases h.2 with ⟨h1, _⟩ | ⟨g, c, cur, hv, hg, _⟩
  · injection h1 with h1; rw [h1] at ha; cases ha
  · injection hv with hv; rw [hv] at ha; injection ha with ha; subst ha; exact hg
/-- The same, in new memory. -/
def NormF (w : World) (r : List Tg) (e : Ending) (w' : World) : Prop := (∃ A cap, e = .returned (.slice A r.length cap) ∧ Tags w' A r ∧ Fresh w.heap.size A) ∧ Below w.heap.size w w'
theorem NormF.p {w w' : World} {r : List Tg} {e : Ending} (h : NormF w r e w') : NormP w r e w' := by obtain ⟨⟨A, cap, h1, h2, _⟩, hb⟩ := h; exact ⟨⟨A, cap, h1, h2⟩, hb⟩

theorem sortnil_calls (w : World) : Calls Try.prog 48 #[.slice none 0 0, .func (.func 49) #[] #[]] w fun e w' => e = .returned (.tuple #[]) ∧ w' = w := AnyF.slices_SortFunc_none Try.laysSort none 0 _ w
set_option maxRecDepth 100000 in
theorem compactnil_calls (w : World) : Calls Try.prog 50 #[.slice none 0 0] w fun e w' => e = .returned (.slice none 0 0) ∧ w' = w := by
  go_enter Try.func50, Try.ntmps50
  go_wp2_with fail
  go_ret
  exact ⟨rfl, rfl⟩

set_option maxRecDepth 100000 in
set_option maxHeartbeats 2000000 in
theorem normal_fresh {w : World} {A : Option Addr} {n cap : Nat} {ts : List Tg} (hn : ts.length = n) (hA : Tags w A ts) (hz : n ≤ 1000) :
    Calls Try.prog 33 #[.slice A n cap] w (NormF w (norm ts)) := by
  have HC := Lib.hid (clone_calls (cap := cap) hn hA hz)
  have HN := Lib.hid hn
  clear hn hA
  go_enter Try.func33, Try.ntmps33
  go_wp2_with fail
  refine HC.out.mono ?_
  rintro e w1 ⟨hb, h⟩
  clear HC
  rcases h with ⟨rfl, h0⟩ | ⟨g, cap', rfl, hr, hg⟩
  · have HB := Lib.hid (And.intro hb h0)
    clear hb h0
    go_wp2_with fail
    refine (sortnil_calls _).mono ?_
    rintro e w2 ⟨rfl, rfl⟩
    go_wp2_with fail
    refine (compactnil_calls _).mono ?_
    rintro e w3 ⟨rfl, rfl⟩
    go_wp2_with fail
    go_ret
    refine ⟨⟨none, 0, by rw [HB.out.2]; rfl, by rw [HB.out.2]; exact Tags.nil, Fresh.none_ _⟩, HB.out.1⟩
  · have hsort := sort_calls hr (by rw [HN.out]; exact hz)
    rw [HN.out] at hsort
    have HB := Lib.hid (And.intro hb hg)
    have HG := Lib.hid hg
    have HS := Lib.hid hsort
    clear hb hr hg hsort
    go_wp2_with fail
    refine HS.out.mono ?_
    rintro e w2 ⟨rfl, hbut, d, hd, hrow, hcomp⟩
    have hcc := compact_calls hrow (by omega)
    rw [hcomp, hd] at hcc
    have HB2 := Lib.hid (And.intro (HB.out.1.trans (hbut.below HB.out.2 HB.out.1.size)) HB.out.2)
    have HK := Lib.hid hcc
    clear hbut hrow hcomp hcc HS HB hd
    go_wp2_with fail
    refine HK.out.mono ?_
    rintro e w3 ⟨rfl, ht, hbut⟩
    have HR := Lib.hid (And.intro ht (HB2.out.1.trans (hbut.below HB2.out.2 HB2.out.1.size)))
    clear ht hbut HK HB2
    go_wp2_with fail
    go_ret
    exact ⟨⟨_, _, rfl, HR.out.1, fun a ha => by cases ha; exact HG.out⟩, HR.out.2⟩

theorem normal_calls {w : World} {A : Option Addr} {n cap : Nat} {ts : List Tg} (hn : ts.length = n) (hA : Tags w A ts) (hz : n ≤ 1000) :
    Calls Try.prog 33 #[.slice A n cap] w (NormP w (norm ts)) := (normal_fresh hn hA hz).mono fun _ _ h => h.p

theorem normal_says {w : World} {A : Option Addr} {n cap : Nat} {ts r : List Tg} (hn : ts.length = n) (hA : Tags w A ts) (hz : n ≤ 1000) (hr : norm ts = r) :
    Calls Try.prog 33 #[.slice A n cap] w (NormP w r) := by subst hr; exact normal_calls hn hA hz

/-- These cells lie so, and nothing old has changed. -/
structure Cs (w0 : World) (L : List (Addr × Value)) (w : World) : Prop where
  kept : Below w0.heap.size w0 w
  has : ∀ x ∈ L, w.cell? x.1 = some x.2
section
variable {w0 w w' : World} {L : List (Addr × Value)}
theorem Cs.next (h : Cs w0 L w) (k : Below w.heap.size w w') : Cs w0 L w' := ⟨below_then h.kept k, fun x hx => (k.cell (cell_lt (h.has x hx))).trans (h.has x hx)⟩
theorem Cs.drew (h : Cs w0 L w) : Cs w0 L w.drew := h.next (Same.below (Same.drewN w 1))
theorem Cs.four {a b c d : Addr} {p q r s : Value} (h : Cs w0 [(a, p), (b, q), (c, r), (d, s)] w) : w.cell? a = some p ∧ w.cell? b = some q ∧ w.cell? c = some r ∧ w.cell? d = some s ∧ Cs w0 [(a, p), (b, q), (c, r), (d, s)] w :=
  ⟨h.has (a, p) (by simp), h.has (b, q) (by simp), h.has (c, r) (by simp), h.has (d, s) (by simp), h⟩
theorem Cs.of4 {P1 P2 P3 P4 : Prop} (h : P1 ∧ P2 ∧ P3 ∧ P4 ∧ Cs w0 L w) : Cs w0 L w := h.2.2.2.2
theorem Cs.mk4 {a b c d : Addr} {p q r s : Value} (h : Below w0.heap.size w0 w) (h1 : w.cell? a = some p) (h2 : w.cell? b = some q) (h3 : w.cell? c = some r) (h4 : w.cell? d = some s) : Cs w0 [(a, p), (b, q), (c, r), (d, s)] w :=
  ⟨h, fun x hx => by simp at hx; rcases hx with rfl | rfl | rfl | rfl <;> assumption⟩
end

end Go.Proofs.Ytikdolgcdkmmaaa
