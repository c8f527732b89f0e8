/-
  TNormal, TNormal2, TFew, TKeep, TRefNorm. No statement of the seat is proved here.
-/
import Derived.Test.YtbcmchkgamkceaaGreatDoorTCompact
import Derived.Test.YtbcmchkgamkceaaGreatDoorShelfT
import Derived.Test.YtbcmchkgamkceaaGreatDoorGrTCheck
/-
  Package tag: Normal. No statement of the seat is proved here.
-/
namespace Go.Proofs.YtbcmchkgamkceaaGreatDoor
open Go.RowKit
open Go.Sort
open Go.Lib (compactUpTo keeps keeps_pos keeps_neg)

theorem lt_ord (x y : Tg) : ltOf ordT x y = ltT x y := ordT_lt x y
theorem ltT_ntrans {x y z : Tg} (h : ltT x y = false) (k : ltT y z = false) : ltT x z = false := by
  cases c : ltT x z
  · rfl
  · cases c' : ltT y x
    · have := ltT_total h c'
      subst this
      rw [k] at c; cases c
    · have := ltT_trans c' c
      rw [k] at this; cases this
theorem swo_tags : SWO (ltOf ordT) := {
  irrefl := fun x => by rw [lt_ord]; exact ltT_irrefl x
  trans := fun x y z h1 h2 => by rw [lt_ord] at *; exact ltT_trans h1 h2
  ntrans := fun x y z h1 h2 => by rw [lt_ord] at *; exact ltT_ntrans h1 h2 }

/-- What is in order, without those that are the same as the one before. -/
theorem compact_norm {ts : List Tg} {d : Array Tg} (hp : d.toList.Perm ts) (hs : ∀ i j, i < j → j < d.size → ltT d[j]! d[i]! = false) : compactUpTo d d.size = norm ts := by
  refine norm_is ?_ fun x => ?_
  · unfold Up compactUpTo
    refine List.pairwise_map.2 (List.Pairwise.imp_of_mem (fun {i j} hi hj hlt => ?_) (List.Pairwise.filter (keeps d) (List.pairwise_lt_range (n := d.size))))
    have hj' := List.mem_filter.1 hj
    have hjn : j < d.size := List.mem_range.1 hj'.1
    have hk : d[j]! ≠ d[j - 1]! := by
      have := hj'.2
      unfold keeps at this
      rcases of_decide_eq_true this with h | h
      · omega
      · exact h
    have h1 : ltT d[j - 1]! d[j]! = true := by
      cases c : ltT d[j - 1]! d[j]!
      · exact absurd (ltT_total (hs (j - 1) j (by omega) hjn) c) hk
      · rfl
    rcases Nat.lt_or_ge i (j - 1) with h | h
    · have h2 := hs i (j - 1) h (by omega)
      cases c : ltT d[i]! d[j]!
      · have := ltT_ntrans h2 c
        rw [h1] at this; cases this
      · rfl
    · obtain rfl : j - 1 = i := by omega
      exact h1
  · rw [← hp.mem_iff]
    unfold compactUpTo
    constructor
    · intro hx
      obtain ⟨i, hi, rfl⟩ := List.mem_map.1 hx
      have hin : i < d.size := List.mem_range.1 (List.mem_filter.1 hi).1
      rw [at_list (by simpa using hin)]
      exact List.getElem_mem _
    · intro hx
      obtain ⟨i0, hi0, e0⟩ := List.mem_iff_getElem.1 hx
      have key : ∀ i, i < d.size → d[i]! = x → ∃ j, j < d.size ∧ d[j]! = x ∧ keeps d j = true := by
        intro i
        induction i with
        | zero => intro h e; exact ⟨0, h, e, by simp [keeps]⟩
        | succ i ih =>
          intro h e
          by_cases he : d[i + 1]! = d[i]!
          · exact ih (by omega) (by rw [← he]; exact e)
          · exact ⟨i + 1, h, e, keeps_pos (by simpa using he)⟩
      obtain ⟨j, hj, e, hk⟩ := key i0 (by simpa using hi0) (by rw [at_list hi0]; exact e0)
      exact List.mem_map.2 ⟨j, List.mem_filter.2 ⟨List.mem_range.2 hj, hk⟩, e⟩

theorem flatK_flat (ts : List Tg) : flatK encT 2 ts.toArray = (flat ts).toArray := by
  apply Array.ext_getElem?
  intro i
  simp only [flatK, Array.getElem?_map, List.getElem?_toArray]
  by_cases h : i < ts.length * 2
  · obtain ⟨j, c, rfl, hc⟩ : ∃ j c, i = j * 2 + c ∧ c < 2 := ⟨i / 2, i % 2, by omega, Nat.mod_lt _ (by omega)⟩
    have hj : j < ts.length := by omega
    have e1 : (j * 2 + c) / 2 = j := by omega
    have e2 : (j * 2 + c) % 2 = c := by omega
    rw [show (Array.range (ts.toArray.size * 2))[j * 2 + c]? = some (j * 2 + c) by rw [Array.getElem?_eq_getElem (by rw [Array.size_range, List.size_toArray]; omega), Array.getElem_range]]
    simp only [Option.map_some, e1, e2]
    rw [getElem!_pos ts.toArray j (by simpa using hj)]
    rcases (by omega : c = 0 ∨ c = 1) with rfl | rfl
    · rw [Nat.add_zero, flat_get0, List.getElem?_eq_getElem hj]; rfl
    · rw [flat_get1, List.getElem?_eq_getElem hj]; rfl
  · rw [show (Array.range (ts.toArray.size * 2))[i]? = none by rw [Array.getElem?_eq_none (by rw [Array.size_range, List.size_toArray]; omega)], List.getElem?_eq_none (by rw [flat_length]; omega)]; rfl

theorem RowT.holds {w : World} {g cap : Nat} {ts : List Tg} (h : RowT w g cap ts) : HoldsK encT 2 w g 0 ts.toArray := by
  unfold HoldsK
  rw [flatK_flat]
  intro j hj
  have hj' : j < (flat ts).length := by simpa using hj
  refine ⟨?_, h.frozen _⟩
  obtain ⟨b, off, e, hc⟩ := h.tags j _ (List.getElem?_eq_getElem hj')
  injection e with e
  injection e with e1 e2
  subst e1 e2
  rw [hc, getElem!_pos _ j hj]
  simp
theorem RowT.sorted {w : World} {g cap : Nat} {ts us : List Tg} (h : RowT w g cap ts) (hl : us.length = ts.length) (n : Nat) (os : Array Obj) : RowT (sortWorldK encT 2 w g 0 n us.toArray os) g cap us ∧ But g w (sortWorldK encT 2 w g 0 n us.toArray os) := by
  have hlt := h.lt
  obtain ⟨cur, hh, h1, h2, h3⟩ := h
  have hsz : w.heap.size = (putRowK encT 2 (Sort.ahead w n) g 0 us.toArray).heap.size := by rw [size_putRowK]; rfl
  refine ⟨⟨putCells id 0 (flatK encT 2 us.toArray) cur, ?_, by simpa [putCells] using h1, ?_, by omega⟩, ⟨rfl, rfl, rfl, ?_, fun k hk hne => ?_⟩⟩
  · unfold sortWorldK
    rw [heap_grow_old _ _ (by rw [← hsz]; exact hlt)]
    unfold putRowK putRow mapBlock
    simp only [Array.getElem?_modify, if_true]
    rw [show (Sort.ahead w n).heap[g]? = w.heap[g]? from rfl, hh]
    rfl
  · rw [flatK_flat]
    apply List.ext_getElem?
    intro i
    rw [List.getElem?_take]
    by_cases hi : i < us.length * 2
    · rw [if_pos hi]
      have hc : i < cur.size := by omega
      simp only [Array.getElem?_toList, putCells, Array.getElem?_mapIdx, Array.getElem?_eq_getElem hc, Option.map_some]
      have hf : i < (flat us).length := by rw [flat_length]; exact hi
      rw [if_pos ⟨by omega, by simpa using hf⟩, getElem!_pos _ _ (by simpa using hf)]
      simp [List.getElem?_eq_getElem hf]
    · rw [if_neg hi, List.getElem?_eq_none (by rw [flat_length]; omega)]
  · unfold sortWorldK; rw [size_grow, ← hsz]; omega
  · unfold sortWorldK
    rw [heap_grow_old _ _ (by rw [← hsz]; exact hk)]
    unfold putRowK putRow mapBlock
    rw [Array.getElem?_modify, if_neg (Ne.symm hne)]
    rfl

theorem cmp_tags (g size : Nat) (w : World) : CmpLays Tryz.prog 89 #[] encT 2 ordT g 0 size w :=
  fun _ _ _ _ x y => order_calls (Str.mk x.1) (Str.mk x.2) (Str.mk y.1) (Str.mk y.2) _

theorem perm_list {ts : List Tg} {d : Array Tg} (h : PermIn 0 ts.toArray.size ts.toArray d) : d.size = ts.length ∧ d.toList.Perm ts := by
  obtain ⟨h1, _, h3⟩ := h
  have h1' : d.size = ts.length := by simpa using h1
  refine ⟨h1', ?_⟩
  have e1 : (d.extract 0 ts.toArray.size).toList = d.toList := by simp [← h1']
  have e2 : (ts.toArray.extract 0 ts.toArray.size).toList = ts := by simp
  rwa [e1, e2] at h3

theorem sort_calls {w : World} {g cap : Nat} {ts : List Tg} (h : RowT w g cap ts) (hz : ts.length ≤ 1000) :
    Calls Tryz.prog 88 #[.slice (some ⟨g, 0, none⟩) ts.length cap, .func (.func 89) #[] #[]] w fun e w' => e = .returned (.tuple #[]) ∧ But g w w' ∧ ∃ d : Array Tg, d.size = ts.length ∧ RowT w' g cap d.toList ∧ compactUpTo d d.size = norm ts := by
  have eg : ∀ args w, (callFunc 89 args).run Tryz.prog w = .ok (.enter 89 args) w := fun _ _ => by kernel_rfl
  have hcon := AnyQ.slices_SortFunc Tryz.laysSort 2 Tryz.isAgg53 Tryz.sizeOf53 encT (fun _ => rfl) (fun x v hv => by simp [encT] at hv; rcases hv with rfl | rfl <;> rfl) ordT swo_tags 89 #[] g 0 cap ts.toArray w eg (cmp_tags g _ w) h.holds h.lt (by simp; omega)
  change Calls Tryz.prog 88 #[.slice (some ⟨g, 0, none⟩) ts.toArray.size cap, .func (.func 89) #[] #[]] w _ at hcon
  rw [List.size_toArray] at hcon
  refine hcon.mono ?_
  rintro e w' ⟨rfl, d, n, os, hp, hs, rfl⟩
  obtain ⟨hd, hperm⟩ := perm_list (by simpa using hp)
  obtain ⟨r1, r2⟩ := h.sorted (us := d.toList) (by simpa using hd) n os
  simp only [Array.toArray_toList] at r1 r2
  refine ⟨rfl, r2, d, hd, r1, compact_norm hperm fun i j hij hj => ?_⟩
  have := hs i j (Nat.zero_le _) hij (by omega)
  rwa [lt_ord] at this
end Go.Proofs.YtbcmchkgamkceaaGreatDoor

/-
  Package tag: Normal and Is. No statement of the seat is proved here.
-/
namespace Go.Proofs.YtbcmchkgamkceaaGreatDoor
open Go.RowKit
open Go.Lib (compactUpTo)

theorem tags_nil_of {w : World} {ts : List Tg} (h : Tags w none ts) : ts = [] := by
  rcases ts with _ | ⟨t, ts⟩
  · rfl
  · obtain ⟨b, off, e, _⟩ := h 0 _ rfl
    cases e

theorem own_rowT {w : World} {base g n cap : Nat} {ts : List Tg} (h : w.ownsRow base 53 2 (.slice (some ⟨g, 0, none⟩) n cap) n (flat ts)) (hn : ts.length = n) : RowT w g cap ts ∧ base ≤ g := by
  rcases h.2 with ⟨e, _⟩ | ⟨g', cap', cur, e, hg, hh, h1, h2, h3, h4⟩
  · cases e
  · injection e with e1 _ e3
    injection e1 with e1
    injection e1 with e1
    subst e1 e3
    exact ⟨⟨cur, hh, h3, by rw [hn]; exact h4, by omega⟩, hg⟩

set_option maxRecDepth 100000 in
theorem clone_calls {w : World} {A : Option Addr} {n cap : Nat} {ts : List Tg} (hn : ts.length = n) (hA : Tags w A ts) (hz : n ≤ 1000) :
    Calls Tryz.prog 87 #[.slice A n cap] w fun e w' => Below w.heap.size w w' ∧ ((e = .returned (.slice none 0 0) ∧ ts = []) ∨ ∃ g cap', e = .returned (.slice (some ⟨g, 0, none⟩) n cap') ∧ RowT w' g cap' ts ∧ w.heap.size ≤ g) := by
  have hq := Lib.run_eql_slice_nil (P := Tryz.prog)
  rcases A with _ | ad
  · have h0 := tags_nil_of hA
    subst h0
    obtain rfl : 0 = n := hn
    clear hA
    go_enter Tryz.func87, Tryz.ntmps87
    go_wp2_with fail
    go_ret
    exact ⟨Below.refl _ _, .inl ⟨rfl, by trivial⟩⟩
  · have HA := Lib.hid (And.intro hn hA)
    clear hn hA
    go_enter Tryz.func87, Tryz.ntmps87
    go_wp2_with (first | (at_builtin; refine wpList_append_tags _ rfl (.tmp 5) (.tmp 6) rfl w.heap.size _ 0 [] rfl (own_empty w) (some ad) n cap ts rfl HA.out.1 (HA.out.2.keep ((Below.refl _ _).alloc (Nat.le_refl _) _)) (by omega) (by simp) ?_; intro v' w' hown hgr hob))
    go_ret
    have hb : Below w.heap.size w w' := ((Below.refl _ _).alloc (Nat.le_refl _) _).grown hgr (by simp) (by intro k hk; cases hk; exact Nat.le_refl _)
    refine ⟨hb, ?_⟩
    rw [Nat.zero_add, List.nil_append] at hown
    rcases hown.2 with ⟨rfl, h⟩ | ⟨g, cp, cur, rfl, hg, hh, h1, h2, h3, h4⟩
    · refine .inl ⟨rfl, List.eq_nil_of_length_eq_zero (by rw [HA.out.1]; exact h)⟩
    · exact .inr ⟨g, cp, rfl, (own_rowT hown HA.out.1).1, hg⟩

/-- What Normal tells. -/
def NormP (w : World) (r : List Tg) (e : Ending) (w' : World) : Prop := (∃ A cap, e = .returned (.slice A r.length cap) ∧ Tags w' A r) ∧ Below w.heap.size w w'
/-- A slice that lies in new memory, if it lies anywhere. -/
def Fresh (lo : Nat) (A : Option Addr) : Prop := ∀ a, A = some a → lo ≤ a.block
theorem Fresh.low {lo lo' : Nat} {A : Option Addr} (h : Fresh lo A) (hl : lo' ≤ lo) : Fresh lo' A := fun a ha => Nat.le_trans hl (h a ha)
theorem Fresh.none_ (lo : Nat) : Fresh lo none := fun a h => by cases h
theorem Fresh.own {w : World} {base size n cap : Nat} {el : TypeId} {A : Option Addr} {xs : List Value} (h : w.ownsRow base el size (.slice A n cap) n xs) : Fresh base A := fun a ha => by
  rcases h.2 with ⟨h1, _⟩ | ⟨g, c, cur, hv, hg, _⟩
  · injection h1 with h1; rw [h1] at ha; cases ha
  · injection hv with hv; rw [hv] at ha; injection ha with ha; subst ha; exact hg
/-- The same, in new memory. -/
def NormF (w : World) (r : List Tg) (e : Ending) (w' : World) : Prop := (∃ A cap, e = .returned (.slice A r.length cap) ∧ Tags w' A r ∧ Fresh w.heap.size A) ∧ Below w.heap.size w w'
theorem NormF.p {w w' : World} {r : List Tg} {e : Ending} (h : NormF w r e w') : NormP w r e w' := by obtain ⟨⟨A, cap, h1, h2, _⟩, hb⟩ := h; exact ⟨⟨A, cap, h1, h2⟩, hb⟩

theorem sortnil_calls (w : World) : Calls Tryz.prog 88 #[.slice none 0 0, .func (.func 89) #[] #[]] w fun e w' => e = .returned (.tuple #[]) ∧ w' = w := AnyF.slices_SortFunc_none Tryz.laysSort none 0 _ w
set_option maxRecDepth 100000 in
theorem compactnil_calls (w : World) : Calls Tryz.prog 90 #[.slice none 0 0] w fun e w' => e = .returned (.slice none 0 0) ∧ w' = w := by
  go_enter Tryz.func90, Tryz.ntmps90
  go_wp2_with fail
  go_ret
  exact ⟨rfl, rfl⟩

set_option maxRecDepth 100000 in
set_option maxHeartbeats 2000000 in
theorem normal_fresh {w : World} {A : Option Addr} {n cap : Nat} {ts : List Tg} (hn : ts.length = n) (hA : Tags w A ts) (hz : n ≤ 1000) :
    Calls Tryz.prog 48 #[.slice A n cap] w (NormF w (norm ts)) := by
  have HC := Lib.hid (clone_calls (cap := cap) hn hA hz)
  have HN := Lib.hid hn
  clear hn hA
  go_enter Tryz.func48, Tryz.ntmps48
  go_wp2_with fail
  refine HC.out.mono ?_
  rintro e w1 ⟨hb, h⟩
  clear HC
  rcases h with ⟨rfl, h0⟩ | ⟨g, cap', rfl, hr, hg⟩
  · have HB := Lib.hid (And.intro hb h0)
    clear hb h0
    go_wp2_with fail
    refine (sortnil_calls _).mono ?_
    rintro e w2 ⟨rfl, rfl⟩
    go_wp2_with fail
    refine (compactnil_calls _).mono ?_
    rintro e w3 ⟨rfl, rfl⟩
    go_wp2_with fail
    go_ret
    refine ⟨⟨none, 0, by rw [HB.out.2]; rfl, by rw [HB.out.2]; exact Tags.nil, Fresh.none_ _⟩, HB.out.1⟩
  · have hsort := sort_calls hr (by rw [HN.out]; exact hz)
    rw [HN.out] at hsort
    have HB := Lib.hid (And.intro hb hg)
    have HG := Lib.hid hg
    have HS := Lib.hid hsort
    clear hb hr hg hsort
    go_wp2_with fail
    refine HS.out.mono ?_
    rintro e w2 ⟨rfl, hbut, d, hd, hrow, hcomp⟩
    have hcc := compact_calls hrow (by omega)
    rw [hcomp, hd] at hcc
    have HB2 := Lib.hid (And.intro (HB.out.1.trans (hbut.below HB.out.2 HB.out.1.size)) HB.out.2)
    have HK := Lib.hid hcc
    clear hbut hrow hcomp hcc HS HB hd
    go_wp2_with fail
    refine HK.out.mono ?_
    rintro e w3 ⟨rfl, ht, hbut⟩
    have HR := Lib.hid (And.intro ht (HB2.out.1.trans (hbut.below HB2.out.2 HB2.out.1.size)))
    clear ht hbut HK HB2
    go_wp2_with fail
    go_ret
    exact ⟨⟨_, _, rfl, HR.out.1, fun a ha => by cases ha; exact HG.out⟩, HR.out.2⟩

theorem normal_calls {w : World} {A : Option Addr} {n cap : Nat} {ts : List Tg} (hn : ts.length = n) (hA : Tags w A ts) (hz : n ≤ 1000) :
    Calls Tryz.prog 48 #[.slice A n cap] w (NormP w (norm ts)) := (normal_fresh hn hA hz).mono fun _ _ h => h.p

theorem normal_says {w : World} {A : Option Addr} {n cap : Nat} {ts r : List Tg} (hn : ts.length = n) (hA : Tags w A ts) (hz : n ≤ 1000) (hr : norm ts = r) :
    Calls Tryz.prog 48 #[.slice A n cap] w (NormP w r) := by subst hr; exact normal_calls hn hA hz

/-- These cells lie so, and nothing old has changed. -/
structure Cs (w0 : World) (L : List (Addr × Value)) (w : World) : Prop where
  kept : Below w0.heap.size w0 w
  has : ∀ x ∈ L, w.cell? x.1 = some x.2
section
variable {w0 w w' : World} {L : List (Addr × Value)}
theorem Cs.next (h : Cs w0 L w) (k : Below w.heap.size w w') : Cs w0 L w' := ⟨below_then h.kept k, fun x hx => (k.cell (cell_lt (h.has x hx))).trans (h.has x hx)⟩
theorem Cs.drew (h : Cs w0 L w) : Cs w0 L w.drew := h.next (Same.below (Same.drewN w 1))
theorem Cs.four {a b c d : Addr} {p q r s : Value} (h : Cs w0 [(a, p), (b, q), (c, r), (d, s)] w) : w.cell? a = some p ∧ w.cell? b = some q ∧ w.cell? c = some r ∧ w.cell? d = some s ∧ Cs w0 [(a, p), (b, q), (c, r), (d, s)] w :=
  ⟨h.has (a, p) (by simp), h.has (b, q) (by simp), h.has (c, r) (by simp), h.has (d, s) (by simp), h⟩
theorem Cs.of4 {P1 P2 P3 P4 : Prop} (h : P1 ∧ P2 ∧ P3 ∧ P4 ∧ Cs w0 L w) : Cs w0 L w := h.2.2.2.2
theorem Cs.mk4 {a b c d : Addr} {p q r s : Value} (h : Below w0.heap.size w0 w) (h1 : w.cell? a = some p) (h2 : w.cell? b = some q) (h3 : w.cell? c = some r) (h4 : w.cell? d = some s) : Cs w0 [(a, p), (b, q), (c, r), (d, s)] w :=
  ⟨h, fun x hx => by simp at hx; rcases hx with rfl | rfl | rfl | rfl <;> assumption⟩
end

set_option maxRecDepth 100000 in
set_option maxHeartbeats 4000000 in
theorem is_calls6 {w : World} {A : Option Addr} {n cap : Nat} {ts : List Tg} (hn : ts.length = n) (hA : Tags w A ts) (hz : n ≤ 1000) :
    Calls Tryz.prog 51 #[.slice A n cap] w fun e w' => e = .returned (.bool (decide (ts = norm ts))) ∧ Below w.heap.size w w' := by
  obtain ⟨q, hq⟩ : ∃ q, decide (ts = norm ts) = q := ⟨_, rfl⟩
  rw [hq]
  have HQ := Lib.hid hq
  have HA := Lib.hid (And.intro hn hA)
  clear hq hn hA
  go_enter Tryz.func51, Tryz.ntmps51
  go_wp2_with fail
  go_loopw [3] (fun v wr => ∃ i : Nat, v = .int .i64 ((i : Int) + 1) ∧ i ≤ n ∧ Hid (Below w.heap.size w wr ∧ ∀ j (h : j + 1 < ts.length), j < i → ltT (ts[j]'(by omega)) ts[j + 1] = true)) (fun v _ => n + 1 - (intOf v).toNat)
  case atStart => exact ⟨0, by go_num, by omega, ⟨Below.refl _ _, fun j _ hj => absurd hj (by omega)⟩⟩
  case round =>
    obtain ⟨i, rfl, hin, hrel⟩ := hrel
    by_cases hlt : i + 1 < n
    · have g1 : (i : Int) + 1 < (n : Int) := by omega
      obtain ⟨hn, hA⟩ := HA.out
      have l1 : i + 1 < ts.length := by omega
      have l0 : i < ts.length := by omega
      have hA' := hA.keep hrel.out.1
      obtain ⟨b, off, e1, c0, c1⟩ := hA'.at_ l1
      subst e1
      obtain ⟨d0, d1⟩ := hA'.cells l0
      have hL := fun W => less_calls (Str.mk ts[i].1) (Str.mk ts[i].2) (Str.mk ts[i + 1].1) (Str.mk ts[i + 1].2) W
      generalize (⟨ts[i + 1].1.toArray⟩ : ByteArray) = s at c0 hL
      generalize (⟨ts[i + 1].2.toArray⟩ : ByteArray) = t at c1 hL
      generalize (⟨ts[i].1.toArray⟩ : ByteArray) = s' at d0 hL
      generalize (⟨ts[i].2.toArray⟩ : ByteArray) = t' at d1 hL
      obtain ⟨p, hp⟩ : ∃ p, ltT ts[i] ts[i + 1] = p := ⟨_, rfl⟩
      rw [hp] at hL
      have HP := Lib.hid hp
      have HL := Lib.hid (fun w' (h : Cs w [(⟨b, off + i * 2, none⟩, .string s'), (⟨b, off + i * 2 + 1, none⟩, .string t'), (⟨b, off + (i + 1) * 2, none⟩, .string s), (⟨b, off + (i + 1) * 2 + 1, none⟩, .string t)] w') => (hL w').mono fun e w'' (k : _ ∧ _) => And.intro k.1 (h.next k.2.below))
      have HS := Lib.hid (Cs.mk4 hrel.out.1 d0 d1 c0 c1).drew
      clear hn hA hA' hL hp
      have hwp : IntKind.i64.wrap (i : Int) = (i : Int) := by rw [IntKind.wrap_i64]; omega
      have g0 : (0 : Int) ≤ (i : Int) + 1 := by omega
      have g2 : (0 : Int) ≤ (i : Int) := by omega
      have g3 : (i : Int) < (n : Int) := by omega
      have g4 : ((i : Int) + 1).toNat = i + 1 := by omega
      go_wp2_with fail
      clear c0 c1 d0 d1
      go_region_held3 (fun w' => w'.cell? ⟨b, off + i * 2, none⟩ = some (.string s') ∧ w'.cell? ⟨b, off + i * 2 + 1, none⟩ = some (.string t') ∧ w'.cell? ⟨b, off + (i + 1) * 2, none⟩ = some (.string s) ∧ w'.cell? ⟨b, off + (i + 1) * 2 + 1, none⟩ = some (.string t) ∧ Cs w [(⟨b, off + i * 2, none⟩, .string s'), (⟨b, off + i * 2 + 1, none⟩, .string t'), (⟨b, off + (i + 1) * 2, none⟩, .string s), (⟨b, off + (i + 1) * 2 + 1, none⟩, .string t)] w')
        (first | exact Cs.four HS.out | exact Cs.four HB6.out)
        (first | (go_at_call 91; refine (HL.out _ (Cs.of4 (by assumption))).mono ?_; rintro e w6 ⟨rfl, hb6⟩; have HB6 := Lib.hid hb6; clear hb6))
      cases p
      · have HE := Lib.hid (show q = false by
          rw [← HQ.out]
          refine decide_eq_false fun e => ?_
          have := asc_up.2 (up_iff.2 e) i l1
          rw [HP.out] at this; cases this)
        go_wp2_with fail
        go_ret
        exact ⟨by rw [HE.out]; first | done | rfl, HB6.out.kept⟩
      · go_wp2_with fail
        refine ⟨⟨i + 1, by go_num, by omega, ⟨HB6.out.kept, fun j h hj => ?_⟩⟩, by simp [intOf]; omega⟩
        rcases Nat.lt_or_ge j i with h' | h'
        · exact hrel.out.2 j h h'
        · obtain rfl : i = j := by omega
          exact HP.out
    · have g1 : ¬ (i : Int) + 1 < (n : Int) := by omega
      have HE := Lib.hid (show q = true by
        rw [← HQ.out]
        refine decide_eq_true (up_iff.1 (asc_up.1 fun j h => hrel.out.2 j h ?_))
        have := HA.out.1
        omega)
      go_wp2_with fail
      go_ret
      exact ⟨by rw [HE.out]; first | done | rfl, hrel.out.1⟩
end Go.Proofs.YtbcmchkgamkceaaGreatDoor

/-
  Layer 6: Few. No statement of the seat is proved here.
-/
namespace Go.Proofs.YtbcmchkgamkceaaGreatDoor
open Go.RowKit

/-- Up to 60 tags, with keys and values of up to 200 bytes. -/
def few (ts : List Tg) : Bool := decide (ts.length ≤ 60 ∧ ∀ t ∈ ts, t.1.length ≤ 200 ∧ t.2.length ≤ 200)

theorem few_no {ts : List Tg} (h : few ts = true) : ts.length ≤ 60 ∧ ∀ i (hi : i < ts.length), ts[i].1.length ≤ 200 ∧ ts[i].2.length ≤ 200 := by
  unfold few at h
  obtain ⟨h1, h2⟩ := of_decide_eq_true h
  exact ⟨h1, fun i hi => h2 _ (List.getElem_mem hi)⟩
end Go.Proofs.YtbcmchkgamkceaaGreatDoor

/-
  What lies so while a law goes on: cells, and rows of tags. No statement of the seat is proved here.
-/
namespace Go.Proofs.YtbcmchkgamkceaaGreatDoor
open Go.RowKit

/-- These cells, and these rows of tags, lie so, and nothing old has changed. -/
structure Kp (w0 : World) (L : List (Addr × Value)) (R : List (Option Addr × List Tg)) (w : World) : Prop where
  kept : Below w0.heap.size w0 w
  has : ∀ x ∈ L, w.cell? x.1 = some x.2
  rows : ∀ x ∈ R, Tags w x.1 x.2
section
variable {w0 w w' : World} {L : List (Addr × Value)} {R : List (Option Addr × List Tg)}
theorem Kp.start (w : World) : Kp w [] [] w := ⟨Below.refl _ _, by simp, by simp⟩
theorem Kp.next (h : Kp w0 L R w) (k : Below w.heap.size w w') : Kp w0 L R w' := ⟨below_then h.kept k, fun x hx => (k.cell (cell_lt (h.has x hx))).trans (h.has x hx), fun x hx => (h.rows x hx).keep k⟩
theorem Kp.drew (h : Kp w0 L R w) : Kp w0 L R w.drew := h.next (Same.below (Same.drewN w 1))
theorem Kp.alloc (h : Kp w0 L R w) (o : Obj) : Kp w0 L R (w.alloc o) := h.next ((Below.refl _ _).alloc (Nat.le_refl _) o)
theorem Kp.push (h : Kp w0 L R w) (t : TypeId) (a b : Value) : Kp w0 ((⟨w.heap.size, 0, none⟩, a) :: (⟨w.heap.size, 1, none⟩, b) :: L) R (w.alloc (.cells #[a, b] t)) := by
  have h' := h.alloc (.cells #[a, b] t)
  refine ⟨h'.kept, fun x hx => ?_, h'.rows⟩
  have hb := Box.new w t [a, b]
  rcases List.mem_cons.1 hx with rfl | hx
  · exact hb.cell 0
  · rcases List.mem_cons.1 hx with rfl | hx
    · exact hb.cell 1
    · exact h'.has x hx
theorem Kp.row (h : Kp w0 L R w) {A : Option Addr} {ts : List Tg} (ha : Tags w A ts) : Kp w0 L ((A, ts) :: R) w := ⟨h.kept, h.has, fun x hx => by
  rcases List.mem_cons.1 hx with rfl | hx
  · exact ha
  · exact h.rows x hx⟩
theorem Kp.cell {a : Addr} {v : Value} (h : Kp w0 L R w) (hm : (a, v) ∈ L) : w.cell? a = some v := h.has (a, v) hm
theorem Kp.tags {A : Option Addr} {ts : List Tg} (h : Kp w0 L R w) (hm : (A, ts) ∈ R) : Tags w A ts := h.rows (A, ts) hm
end

theorem tags_lit {w : World} {n : Nat} (hn : w.heap.size = n) (ts : List Tg) : Tags (w.alloc (.cells (flat ts).toArray 53)) (some ⟨n, 0, none⟩) ts := by
  subst hn
  intro i u hu
  exact ⟨w.heap.size, 0, rfl, by rw [Nat.zero_add, (Box.new w 53 (flat ts)).cell i]; exact hu⟩

theorem Tags.drew {w : World} {A : Option Addr} {ts : List Tg} (h : Tags w A ts) : Tags w.drew A ts := h.keep (Same.below (Same.drewN w 1))
theorem Tags.alloc {w : World} {A : Option Addr} {ts : List Tg} (h : Tags w A ts) (o : Obj) : Tags (w.alloc o) A ts := h.keep ((Below.refl _ _).alloc (Nat.le_refl _) o)
end Go.Proofs.YtbcmchkgamkceaaGreatDoor

/-
  Layer 6: the document's Normal. No statement of the seat is proved here.
-/
namespace Go.Proofs.YtbcmchkgamkceaaGreatDoor
open Go.RowKit

theorem own_below {w w' : World} {base size n B : Nat} {e : TypeId} {v : Value} {xs : List Value} (h : w.ownsRow base e size v n xs) (hb : Below B w w') (hv : ∀ k, v.ownBlock = some k → k < B) : w'.ownsRow base e size v n xs := by
  refine ⟨h.1, ?_⟩
  rcases h.2 with h2 | ⟨g, cap, cur, rfl, hg, hh, r⟩
  · exact .inl h2
  · exact .inr ⟨g, cap, cur, rfl, hg, (hb.block g (hv g rfl)).trans hh, r⟩

/-- Where the document's Normal stands: the tags so far, and the tags that come to be. -/
structure RN (w : World) (B : Nat) (vo : Value) (no : Nat) (o : List Tg) (vm : Value) (nm : Nat) (more : List Tg) (w' : World) : Prop where
  kept : Below w.heap.size w w'
  out : w'.ownsRow w.heap.size 53 2 vo no (flat o)
  lim : ∀ k, vo.ownBlock = some k → k < B
  low : w.heap.size ≤ B
  high : B ≤ w'.heap.size
  row : w'.ownsRow B 53 2 vm nm (flat more)
section
variable {w w1 w2 : World} {B no nm : Nat} {vo vm : Value} {o more : List Tg}
theorem RN.next (h : RN w B vo no o vm nm more w1) (k : Below w1.heap.size w1 w2) : RN w B vo no o vm nm more w2 :=
  ⟨below_then h.kept k, own_keep h.out k, h.lim, h.low, Nat.le_trans h.high k.size, own_keep h.row k⟩
theorem RN.alloc (h : RN w B vo no o vm nm more w1) (ob : Obj) : RN w B vo no o vm nm more (w1.alloc ob) := h.next ((Below.refl _ _).alloc (Nat.le_refl _) ob)
theorem RN.drewN (h : RN w B vo no o vm nm more w1) (n : Nat) : RN w B vo no o vm nm more (w1.drewN n) := h.next (Same.below (Same.drewN _ _))
theorem RN.push (h : RN w B vo no o vm nm more w1) {vm' : Value} {nm' : Nat} {more' : List Tg} (hg : w1.grownBy w2 vm.ownBlock) (ho : w2.ownsRow B 53 2 vm' nm' (flat more')) : RN w B vo no o vm' nm' more' w2 := by
  have hB : ∀ k, vm.ownBlock = some k → B ≤ k := by
    intro k hk
    rcases h.row.2 with ⟨rfl, _⟩ | ⟨g, cap, cur, rfl, hg, _⟩
    · cases hk
    · injection hk with hk; subst hk; exact hg
  have hb : Below B w1 w2 := (Below.refl B w1).grown hg h.high hB
  exact ⟨h.kept.trans (hb.mono h.low), own_below h.out hb h.lim, h.lim, h.low, Nat.le_trans h.high hb.size, ho⟩
end

/-- .. and these cells lie so. -/
structure RNS (w : World) (L : List (Addr × Value)) (B : Nat) (vo : Value) (no : Nat) (o : List Tg) (vm : Value) (nm : Nat) (more : List Tg) (w' : World) : Prop where
  cs : Cs w L w'
  rn : RN w B vo no o vm nm more w'
section
variable {w w1 w2 : World} {L : List (Addr × Value)} {B no nm : Nat} {vo vm : Value} {o more : List Tg}
theorem RNS.next (h : RNS w L B vo no o vm nm more w1) (k : Below w1.heap.size w1 w2) : RNS w L B vo no o vm nm more w2 := ⟨h.cs.next k, h.rn.next k⟩
theorem RNS.four {a b c d : Addr} {p q r s : Value} (h : RNS w [(a, p), (b, q), (c, r), (d, s)] B vo no o vm nm more w1) : w1.cell? a = some p ∧ w1.cell? b = some q ∧ w1.cell? c = some r ∧ w1.cell? d = some s ∧ RNS w [(a, p), (b, q), (c, r), (d, s)] B vo no o vm nm more w1 := by
  obtain ⟨h1, h2, h3, h4, _⟩ := h.cs.four
  exact ⟨h1, h2, h3, h4, h⟩
theorem RNS.of {P1 P2 P3 P4 : Prop} (h : P1 ∧ P2 ∧ P3 ∧ P4 ∧ RNS w L B vo no o vm nm more w1) : RNS w L B vo no o vm nm more w1 := h.2.2.2.2
end

/-- How far the insertion is. -/
def InsAt (t : Tg) (o : List Tg) (put : Bool) (more : List Tg) (k : Nat) : Prop :=
  (put = false ∧ more = o.take k ∧ o.take k ++ ins t (o.drop k) = ins t o) ∨ (put = true ∧ more ++ o.drop k = ins t o)
section
variable {t : Tg} {o more : List Tg} {k : Nat}
theorem InsAt.start : InsAt t o false [] 0 := .inl ⟨rfl, rfl, rfl⟩
theorem take_one {α : Type} {l : List α} {k : Nat} (h : k < l.length) : l.take (k + 1) = l.take k ++ [l[k]] := by rw [List.take_add_one, List.getElem?_eq_getElem h]; rfl
theorem InsAt.less (h : InsAt t o false more k) (hk : k < o.length) (hl : ltT o[k] t = true) : InsAt t o false (more ++ [o[k]]) (k + 1) := by
  rcases h with ⟨_, rfl, h⟩ | ⟨h, _⟩
  · refine .inl ⟨rfl, (take_one hk).symm, ?_⟩
    rw [← h, take_one hk, ← List.getElem_cons_drop hk, ins, if_pos hl, List.append_assoc]
    rfl
  · cases h
theorem InsAt.same (h : InsAt t o false more k) (hk : k < o.length) (hl : ltT o[k] t = false) (he : o[k] = t) : InsAt t o true (more ++ [o[k]]) (k + 1) := by
  rcases h with ⟨_, rfl, h⟩ | ⟨h, _⟩
  · refine .inr ⟨rfl, ?_⟩
    rw [← h, ← List.getElem_cons_drop hk, ins, if_neg (by rw [hl]; simp), if_pos he, List.append_assoc]
    rfl
  · cases h
theorem InsAt.both (h : InsAt t o false more k) (hk : k < o.length) (hl : ltT o[k] t = false) (he : o[k] ≠ t) : InsAt t o true (more ++ [t] ++ [o[k]]) (k + 1) := by
  rcases h with ⟨_, rfl, h⟩ | ⟨h, _⟩
  · refine .inr ⟨rfl, ?_⟩
    rw [← h, ← List.getElem_cons_drop hk, ins, if_neg (by rw [hl]; simp), if_neg he, List.append_assoc, List.append_assoc]
    rfl
  · cases h
theorem InsAt.go (h : InsAt t o true more k) (hk : k < o.length) : InsAt t o true (more ++ [o[k]]) (k + 1) := by
  rcases h with ⟨h, _⟩ | ⟨_, h⟩
  · cases h
  · refine .inr ⟨rfl, ?_⟩
    rw [← h, ← List.getElem_cons_drop hk, List.append_assoc]
    rfl
theorem InsAt.end_ (h : InsAt t o false more k) (hk : k = o.length) : more ++ [t] = ins t o := by
  subst hk
  rcases h with ⟨_, rfl, h⟩ | ⟨h, _⟩
  · rw [← h, List.drop_length]; rfl
  · cases h
theorem InsAt.end' (h : InsAt t o true more k) (hk : k = o.length) : more = ins t o := by
  subst hk
  rcases h with ⟨h, _⟩ | ⟨_, h⟩
  · cases h
  · rw [← h, List.drop_length, List.append_nil]
end

set_option maxRecDepth 100000 in
set_option maxHeartbeats 8000000 in
theorem rnormal_fresh {w : World} {A : Option Addr} {n cap : Nat} {ts : List Tg} (hn : ts.length = n) (hA : Tags w A ts) (hz : n ≤ 20000) (hlen : ∀ i (hi : i < ts.length), ts[i].1.length ≤ 1000 ∧ ts[i].2.length ≤ 1000) :
    Calls Tryz.prog 31 #[.slice A n cap] w (NormF w (norm ts)) := by
  have HA := Lib.hid (And.intro hn (And.intro hA hlen))
  have hg := tguard
  clear hn hA hlen
  have HO := Lib.hid (own_empty w)
  go_enter Tryz.func31, Tryz.ntmps31
  go_wp2_with fail
  go_loopw [3, 4] (fun v3 v4 wr => ∃ (i no : Nat), v4 = .int .i64 i ∧ i ≤ n ∧ no ≤ i ∧ Hid (Below w.heap.size w wr ∧ wr.ownsRow w.heap.size 53 2 v3 no (flat (norm (ts.take i))))) (fun _ v4 _ => n - (intOf v4).toNat)
  case atStart => exact ⟨0, 0, rfl, by omega, by omega, ⟨(Below.refl _ _).alloc (Nat.le_refl _) _, HO.out⟩⟩
  case round =>
    obtain ⟨i, no, rfl, hi, hno, hrel⟩ := hrel
    clear HO
    by_cases hlt : i < n
    · have g1 : (i : Int) < (n : Int) := by omega
      obtain ⟨Ao, co, rfl, hnc, hcm, hx1, hx2⟩ := own_slice hrel.out.2
      clear hnc hcm hx1 hx2
      obtain ⟨o, ho⟩ : ∃ o, o = norm (ts.take i) := ⟨_, rfl⟩
      have hol : o.length = no := by have := hrel.out.2.1; rw [← ho, flat_length] at this; omega
      obtain ⟨hn, hA, hlen⟩ := HA.out
      have li : i < ts.length := by omega
      obtain ⟨t, ht⟩ : ∃ t, t = ts[i] := ⟨_, rfl⟩
      have hstep : ins t o = norm (ts.take (i + 1)) := by rw [ht, ho, norm_take ts i li]
      obtain ⟨ab, aoff, s, u, eA, hx1, hx2, hs, hu⟩ := hA.get li
      clear hx1 hx2
      rw [← ht] at hs hu
      have hAt : ∀ W, Below w.heap.size w W → W.cell? ⟨ab, aoff + i * 2, none⟩ = some (.string s) ∧ W.cell? ⟨ab, aoff + i * 2 + 1, none⟩ = some (.string u) := by
        intro W hW
        obtain ⟨b', off', e', c0, c1⟩ := (hA.keep hW).at_ li
        rw [eA] at e'
        injection e' with e'
        injection e' with e1 e2
        subst e1 e2
        rw [← ht] at c0 c1
        rw [hs.eq, hu.eq]
        exact ⟨c0, c1⟩
      subst eA
      have hsz := hs.size
      have huz := hu.size
      have hl0 := hlen i li
      rw [← ht] at hl0
      have hlo : ∀ k (hk : k < o.length), o[k].1.length ≤ 1000 ∧ o[k].2.length ≤ 1000 := by
        intro k hk
        have hm : o[k] ∈ ts.take i := mem_norm.1 (ho ▸ List.getElem_mem hk)
        obtain ⟨j, hj, e⟩ := List.mem_iff_getElem.1 (List.mem_of_mem_take hm)
        rw [← e]; exact hlen j hj
      have HC := Lib.hid (And.intro hs (And.intro hu (And.intro hAt (And.intro hstep (And.intro hlo hl0)))))
      have HR0 := Lib.hid (show RN w wr.heap.size (.slice Ao no co) no o (.slice (some ⟨wr.heap.size, 0, none⟩) 0 0) 0 [] (wr.alloc (.cells #[] 53)) from
        ⟨hrel.out.1.alloc hrel.out.1.size _, by rw [ho]; exact own_keep hrel.out.2 ((Below.refl _ _).alloc (Nat.le_refl _) _), by
          intro k hk
          rcases hrel.out.2.2 with ⟨e, _⟩ | ⟨g, cap', cur, e, _, hh, _⟩
          · rw [e] at hk; cases hk
          · rw [e] at hk; injection hk with hk; subst hk; exact own_lt hh, hrel.out.1.size, by simp, own_empty wr⟩)
      clear hs hu hAt hstep hlo hl0 hn hA hlen ho ht
      obtain ⟨wo, hwo⟩ : ∃ wo, wo = wr := ⟨_, rfl⟩
      subst hwo
      clear hrel
      go_wp2_with fail
      go_loopw [5, 6, 7] (fun v5 v6 v7 wr => ∃ (k nm : Nat) (put : Bool) (more : List Tg), v6 = .bool put ∧ v7 = .int .i64 k ∧ k ≤ no ∧ nm ≤ k + 1 ∧ Hid (RN w wo.heap.size (.slice Ao no co) no o v5 nm more wr ∧ InsAt t o put more k)) (fun _ _ v7 _ => no - (intOf v7).toNat)
      case atStart => exact ⟨0, 0, false, [], rfl, rfl, by omega, by omega, ⟨HR0.out, InsAt.start⟩⟩
      case round =>
        obtain ⟨k, nm, put, more, rfl, rfl, hk, hnm, hrel⟩ := hrel
        clear HR0
        by_cases hko : k < no
        · have g2 : (k : Int) < (no : Int) := by omega
          have lk : k < o.length := by omega
          obtain ⟨b, off, s', u', eO, d0, d1, hs', hu'⟩ := (Tags.of_own hrel.out.1.out).get lk
          subst eO
          obtain ⟨c0, c1⟩ := HC.out.2.2.1 wr hrel.out.1.kept
          have hz1 := (HC.out.2.2.2.2.1 k lk)
          have hz2 := HC.out.2.2.2.2.2
          have hsz' := hs'.size
          have huz' := hu'.size
          have hwp : (0 : Int) ≤ (k : Int) := by omega
          have hwi : (0 : Int) ≤ (i : Int) := by omega
          cases put
          · have HL := Lib.hid (rless_calls hs' hu' HC.out.1 HC.out.2.1 (by omega) (by omega) (by omega) (by omega))
            have HSU := Lib.hid (And.intro hs' hu')
            obtain ⟨p, hp⟩ : ∃ p, ltT o[k] t = p := ⟨_, rfl⟩
            rw [hp] at HL
            have HP := Lib.hid hp
            have HL2 := Lib.hid (fun w' (h : RNS w [(⟨b, off + k * 2, none⟩, .string s'), (⟨b, off + k * 2 + 1, none⟩, .string u'), (⟨ab, aoff + i * 2, none⟩, .string s), (⟨ab, aoff + i * 2 + 1, none⟩, .string u)] wo.heap.size (.slice (some ⟨b, off, none⟩) no co) no o u5 nm more w') => (HL.out w').mono fun e w'' (q : _ ∧ _) => And.intro q.1 (h.next q.2))
            have HS := Lib.hid (show RNS w [(⟨b, off + k * 2, none⟩, .string s'), (⟨b, off + k * 2 + 1, none⟩, .string u'), (⟨ab, aoff + i * 2, none⟩, .string s), (⟨ab, aoff + i * 2 + 1, none⟩, .string u)] wo.heap.size (.slice (some ⟨b, off, none⟩) no co) no o u5 nm more wr.drew from RNS.next ⟨Cs.mk4 hrel.out.1.kept d0 d1 c0 c1, hrel.out.1⟩ (Same.below (Same.drewN wr 1)))
            have HI := Lib.hid hrel.out.2
            have hnmk : nm = k := by
              rcases hrel.out.2 with ⟨_, e, _⟩ | ⟨e, _⟩
              · have h1 := hrel.out.1.row.1
                rw [flat_length, e, List.length_take] at h1
                omega
              · cases e
            clear hs' hu' hp hz1 hz2 hsz' huz' HL
            go_wp2_with fail
            clear c0 c1 d0 d1 hrel
            go_region_held3 (fun w' => w'.cell? ⟨b, off + k * 2, none⟩ = some (.string s') ∧ w'.cell? ⟨b, off + k * 2 + 1, none⟩ = some (.string u') ∧ w'.cell? ⟨ab, aoff + i * 2, none⟩ = some (.string s) ∧ w'.cell? ⟨ab, aoff + i * 2 + 1, none⟩ = some (.string u) ∧ RNS w [(⟨b, off + k * 2, none⟩, .string s'), (⟨b, off + k * 2 + 1, none⟩, .string u'), (⟨ab, aoff + i * 2, none⟩, .string s), (⟨ab, aoff + i * 2 + 1, none⟩, .string u)] wo.heap.size (.slice (some ⟨b, off, none⟩) no co) no o u5 nm more w')
              (first | exact RNS.four HS.out | exact RNS.four HB6.out)
              (first | (go_at_call 65; refine (HL2.out _ (RNS.of (by assumption))).mono ?_; rintro e w6 ⟨rfl, hb6⟩; have HB6 := Lib.hid hb6; clear hb6))
            clear HS HL2
            obtain ⟨d0, d1, c0, c1, _⟩ := HB6.out.four
            have HR2 := Lib.hid HB6.out.rn
            clear HB6
            cases p
            · by_cases he : o[k] = t
              · have kq := tne_run HSU.out.1 HSU.out.2 HC.out.1 HC.out.2.1 (decide_eq_true he)
                have HE := Lib.hid (HI.out.same lk HP.out he)
                clear he
                go_wp2_with fail
                go_quiet (fail)
                go_wp2_with (first | (at_builtin; refine wpList_append_tags _ rfl _ _ rfl _ u5 nm more rfl ((HR2.out.drewN _).alloc _).row (some ⟨w6.heap.size, 0, none⟩) 1 1 [o[k]] rfl rfl (tags_at _ rfl HSU.out.1 HSU.out.2) (by omega) (((HR2.out.drewN _)).alloc _).high ?_; intro v8 w8 hown8 hgr8 hob8; have HR8 := Lib.hid (((HR2.out.drewN _).alloc _).push hgr8 hown8); clear hown8 hgr8 hob8))
                refine ⟨⟨k + 1, nm + 1, true, more ++ [o[k]], rfl, by go_num, by omega, by omega, ⟨HR8.out, HE.out⟩⟩, by simp [intOf]; omega⟩
              · have kq := tne_run HSU.out.1 HSU.out.2 HC.out.1 HC.out.2.1 (decide_eq_false he)
                have HE := Lib.hid (HI.out.both lk HP.out he)
                clear he
                go_wp2_with fail
                go_quiet (fail)
                go_wp2_with (first | (at_builtin; refine wpList_append_tags _ rfl _ _ rfl _ u5 nm more rfl ((HR2.out.drewN _).alloc _).row (some ⟨w6.heap.size, 0, none⟩) 1 1 [t] rfl rfl (tags_at _ rfl HC.out.1 HC.out.2.1) (by omega) (((HR2.out.drewN _)).alloc _).high ?_; intro v8 w8 hown8 hgr8 hob8; have HR8 := Lib.hid (((HR2.out.drewN _).alloc _).push hgr8 hown8); clear hown8 hgr8 hob8; have d0 : w8.cell? ⟨b, off + k * 2, none⟩ = some (.string s') := (by rw [HSU.out.1.eq]; exact ((Tags.of_own HR8.out.out).cells lk).1); have d1 : w8.cell? ⟨b, off + k * 2 + 1, none⟩ = some (.string u') := (by rw [HSU.out.2.eq]; exact ((Tags.of_own HR8.out.out).cells lk).2)) | (at_builtin; refine wpList_append_tags _ rfl _ _ rfl _ v8 (nm + 1) (more ++ [t]) rfl (HR8.out.alloc _).row (some ⟨w8.heap.size, 0, none⟩) 1 1 [o[k]] rfl rfl (tags_at _ rfl HSU.out.1 HSU.out.2) (by omega) ((HR8.out).alloc _).high ?_; intro v9 w9 hown8 hgr8 hob8; have HR9 := Lib.hid ((HR8.out.alloc _).push hgr8 hown8); clear hown8 hgr8 hob8))
                refine ⟨⟨k + 1, nm + 1 + 1, true, more ++ [t] ++ [o[k]], rfl, by go_num, by omega, by omega, ⟨HR9.out, HE.out⟩⟩, by simp [intOf]; omega⟩
            · have HE := Lib.hid (HI.out.less lk HP.out)
              go_wp2_with (first | (at_builtin; refine wpList_append_tags _ rfl _ _ rfl _ u5 nm more rfl (HR2.out.alloc _).row (some ⟨w6.heap.size, 0, none⟩) 1 1 [o[k]] rfl rfl (tags_at _ rfl HSU.out.1 HSU.out.2) (by omega) ((HR2.out).alloc _).high ?_; intro v8 w8 hown8 hgr8 hob8; have HR8 := Lib.hid ((HR2.out.alloc _).push hgr8 hown8); clear hown8 hgr8 hob8))
              refine ⟨⟨k + 1, nm + 1, false, more ++ [o[k]], rfl, by go_num, by omega, by omega, ⟨HR8.out, HE.out⟩⟩, by simp [intOf]; omega⟩
          · have HSU := Lib.hid (And.intro hs' hu')
            have HR2 := Lib.hid hrel.out.1
            have HE := Lib.hid (hrel.out.2.go lk)
            clear hs' hu' hz1 hz2 hsz' huz' hrel
            go_wp2_with fail
            go_quiet (fail)
            go_wp2_with (first | (at_builtin; refine wpList_append_tags _ rfl _ _ rfl _ u5 nm more rfl ((HR2.out.drewN _).alloc _).row (some ⟨wr.heap.size, 0, none⟩) 1 1 [o[k]] rfl rfl (tags_at _ rfl HSU.out.1 HSU.out.2) (by omega) (((HR2.out.drewN _)).alloc _).high ?_; intro v8 w8 hown8 hgr8 hob8; have HR8 := Lib.hid (((HR2.out.drewN _).alloc _).push hgr8 hown8); clear hown8 hgr8 hob8))
            refine ⟨⟨k + 1, nm + 1, true, more ++ [o[k]], rfl, by go_num, by omega, by omega, ⟨HR8.out, HE.out⟩⟩, by simp [intOf]; omega⟩
        · have g2 : ¬ (k : Int) < (no : Int) := by omega
          have hke : k = o.length := by omega
          obtain ⟨c0, c1⟩ := HC.out.2.2.1 wr hrel.out.1.kept
          have HR2 := Lib.hid hrel.out.1
          have hwi : (0 : Int) ≤ (i : Int) := by omega
          cases put
          · have HE := Lib.hid (show flat (more ++ [t]) = flat (norm (ts.take (i + 1))) by rw [hrel.out.2.end_ hke, HC.out.2.2.2.1])
            have hnmk : nm = k := by
              rcases hrel.out.2 with ⟨_, e, _⟩ | ⟨e, _⟩
              · have h1 := hrel.out.1.row.1
                rw [flat_length, e, List.length_take] at h1
                omega
              · cases e
            clear hrel
            go_wp2_with (first | (at_builtin; refine wpList_append_tags _ rfl _ _ rfl _ u5 nm more rfl (HR2.out.alloc _).row (some ⟨wr.heap.size, 0, none⟩) 1 1 [t] rfl rfl (tags_at _ rfl HC.out.1 HC.out.2.1) (by omega) (HR2.out.alloc _).high ?_; intro v8 w8 hown8 hgr8 hob8; have HR8 := Lib.hid ((HR2.out.alloc _).push hgr8 hown8); clear hown8 hgr8 hob8))
            refine ⟨⟨i + 1, nm + 1, by go_num, by omega, by omega, ⟨HR8.out.kept, ?_⟩⟩, by simp [intOf]; omega⟩
            rw [← HE.out]
            exact own_base HR8.out.row HR8.out.low
          · have HE := Lib.hid (show flat more = flat (norm (ts.take (i + 1))) by rw [hrel.out.2.end' hke, HC.out.2.2.2.1])
            clear hrel
            go_wp2_with fail
            refine ⟨⟨i + 1, nm, by go_num, by omega, by omega, ⟨HR2.out.kept, ?_⟩⟩, by simp [intOf]; omega⟩
            rw [← HE.out]
            exact own_base HR2.out.row HR2.out.low
    · have g1 : ¬ (i : Int) < (n : Int) := by omega
      obtain ⟨Ao, co, rfl, hx1, hx2, hx3, hx4⟩ := own_slice hrel.out.2
      clear hx1 hx2 hx3 hx4
      go_wp2_with fail
      go_ret
      have e : ts.take i = ts := List.take_of_length_le (by have := HA.out.1; omega)
      have h2 := hrel.out.2
      rw [e] at h2
      have hl : (norm ts).length = no := by have := h2.1; rw [flat_length] at this; omega
      exact ⟨⟨Ao, co, by rw [hl]; rfl, Tags.of_own h2, Fresh.own h2⟩, hrel.out.1⟩
theorem rnormal_calls {w : World} {A : Option Addr} {n cap : Nat} {ts : List Tg} (hn : ts.length = n) (hA : Tags w A ts) (hz : n ≤ 20000) (hlen : ∀ i (hi : i < ts.length), ts[i].1.length ≤ 1000 ∧ ts[i].2.length ≤ 1000) :
    Calls Tryz.prog 31 #[.slice A n cap] w (NormP w (norm ts)) := (rnormal_fresh hn hA hz hlen).mono fun _ _ h => h.p
end Go.Proofs.YtbcmchkgamkceaaGreatDoor
