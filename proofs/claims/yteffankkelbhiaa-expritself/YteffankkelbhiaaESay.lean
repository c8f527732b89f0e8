/-
  expr.sayable. No statement of the seat is proved here.
-/
import Derived.Test.YteffankkelbhiaaECutM
import Derived.Test.YteffankkelbhiaaBClone
import Derived.Test.YteffankkelbhiaaEFormats
namespace Go.Proofs.Yteffankkelbhiaa
open Go.RowKit
open Dc (D D0)

/-- The block that a slice owns. -/
def blkA (e : En) : Option Nat := (Value.slice e.A e.n e.ca).ownBlock
def blkB (e : En) : Option Nat := (Value.slice e.B e.k e.cb).ownBlock
/-- Two metrics that share no memory. -/
def Apart (a b : En) : Prop := (∀ g, blkA a = some g → blkA b ≠ some g) ∧ (∀ g, blkB a = some g → blkB b ≠ some g)
/-- A row of metrics whose rows are new, and of which no two share memory. -/
structure Cuts (base : Nat) (W : World) (v : Value) (n : Nat) (cs : List En) : Prop where
  owns : Owns base W v n cs
  apart : cs.Pairwise Apart
theorem Cuts.keep {base n : Nat} {W W' : World} {v : Value} {cs : List En} (h : Cuts base W v n cs) (b : Below W.heap.size W W') : Cuts base W' v n cs := ⟨h.owns.keep b, h.apart⟩

theorem Cuts.base {base base' n : Nat} {W : World} {v : Value} {cs : List En} (h : Cuts base W v n cs) (b : base' ≤ base) : Cuts base' W v n cs := ⟨⟨own_base h.owns.own b, fun e he => (h.owns.ent e he).low b⟩, h.apart⟩

def enOf (s : ByteArray) (k : Nat) (m : Mt) (e : Ent) (d : D) : En := ⟨s, e.A, 1, e.ca, e.B, k, e.cb, oneM m d⟩
theorem zip_flat (s : ByteArray) (k : Nat) (m : Mt) : ∀ (es : List Ent) (ds : List D), es.length = ds.length → flatM (List.zipWith (enOf s k m) es ds) = flatE s m.kind m.rate m.time k es
  | [], [], _ => rfl
  | e :: es, d :: ds, h => by
    rw [List.zipWith_cons_cons, flatM_cons, zip_flat s k m es ds (by simpa using h)]; rfl
  | [], _ :: _, h => by cases h
  | _ :: _, [], h => by cases h
theorem zip_dat (s : ByteArray) (k : Nat) (m : Mt) : ∀ (es : List Ent) (ds : List D), es.length = ds.length → datM (List.zipWith (enOf s k m) es ds) = ds.map (oneM m)
  | [], [], _ => rfl
  | e :: es, d :: ds, h => by
    rw [List.zipWith_cons_cons, List.map_cons, ← zip_dat s k m es ds (by simpa using h)]; rfl
  | [], _ :: _, h => by cases h
  | _ :: _, [], h => by cases h
/-- What Split tells, as a row of metrics. -/
theorem SplitR.cuts {base n k : Nat} {W : World} {v : Value} {s : ByteArray} {m : Mt} {es : List Ent} (h : SplitR base W v s k m n es) (hl : m.vals.length = n) : ∃ cs, cs.length = n ∧ datM cs = m.vals.map (oneM m) ∧ Cuts base W v n cs := by
  have hlen : es.length = m.vals.length := h.len.trans hl.symm
  have hcl : (List.zipWith (enOf s k m) es m.vals).length = n := by rw [List.length_zipWith, h.len, hl, Nat.min_self]
  have hget : ∀ (j : Nat) x, (List.zipWith (enOf s k m) es m.vals)[j]? = some x → ∃ e d, es[j]? = some e ∧ m.vals[j]? = some d ∧ x = enOf s k m e d := by
    intro j x hx
    rw [List.getElem?_zipWith] at hx
    cases he : es[j]? with
    | none => rw [he] at hx; cases hx
    | some e =>
      cases hd : m.vals[j]? with
      | none => rw [he, hd] at hx; cases hx
      | some d => rw [he, hd] at hx; injection hx with hx; exact ⟨e, d, rfl, rfl, hx.symm⟩
  refine ⟨_, hcl, zip_dat s k m es m.vals hlen, ⟨⟨by rw [zip_flat s k m es m.vals hlen]; exact h.own, fun x hx => ?_⟩, ?_⟩⟩
  · obtain ⟨j, hj, rfl⟩ := List.mem_iff_getElem.1 hx
    obtain ⟨e, d, he, hd, e1⟩ := hget j _ (List.getElem?_eq_getElem hj)
    rw [e1]
    exact (h.ent j e d he hd).own.low (h.ent j e d he hd).lo
  · rw [List.pairwise_iff_getElem]
    intro i j hi hj hij
    obtain ⟨e, d, he, hd, e1⟩ := hget i _ (List.getElem?_eq_getElem hi)
    obtain ⟨e', d', he', hd', e2⟩ := hget j _ (List.getElem?_eq_getElem hj)
    rw [e1, e2]
    have o1 := h.ent i e d he hd
    have o2 := h.ent j e' d' he' hd'
    obtain ⟨li, ei⟩ := List.getElem?_eq_some_iff.1 he
    obtain ⟨lj, ej⟩ := List.getElem?_eq_some_iff.1 he'
    have ap := (List.pairwise_iff_getElem.1 h.apart) i j li lj hij
    rw [ei, ej] at ap
    constructor
    · intro g h1 h2
      have := o1.bA g h1
      have := (own_block_lt o2.own.vals g h2).1
      omega
    · intro g h1 h2
      have := o1.bB g h1
      have := (own_block_lt o2.own.tags g h2).1
      omega

/-- Those of a row that a format can say. -/
def saidOf (f : Int) (cs : List En) : List En := cs.filter fun e => saysM e.m f
theorem saidOf_step {f : Int} {cs : List En} {i : Nat} {e : En} (h : cs[i]? = some e) : saidOf f (cs.take (i + 1)) = if saysM e.m f = true then saidOf f (cs.take i) ++ [e] else saidOf f (cs.take i) := by
  unfold saidOf
  rw [take_step h, List.filter_append, List.filter_cons, List.filter_nil]
  split
  · rfl
  · rw [List.append_nil]
theorem saidOf_len (f : Int) (cs : List En) : (saidOf f cs).length ≤ cs.length := List.length_filter_le _ _
theorem saidOf_dat {f : Int} {cs : List En} : datM (saidOf f cs) = (datM cs).filter fun x => saysM x f := by
  unfold datM saidOf
  rw [List.filter_map]
  rfl

section
variable {w : World} {s : ByteArray} {A B : Option Addr} {n k ca cb : Nat} {m : Mt}
set_option maxRecDepth 100000 in
set_option maxHeartbeats 4000000 in
theorem sayable_calls (h : MIs w s A n B k m) (hz : Small m) (hc : n ≤ ca ∧ ca ≤ maxLen) (hx : checkM m = 0) {f : Int} (hk : known f = true) (hf : WfI f) :
    Calls Try.prog 27 #[mV s m.kind A n ca m.rate B k cb m.time, .int .i64 f] w fun e w' => (∃ v cs, e = .returned v ∧ Cuts w.heap.size w' v cs.length cs ∧ datM cs = onesL m f) ∧ Below w.heap.size w w' := by
  have HH := Lib.hid (And.intro h (And.intro hz (And.intro hc (And.intro hx (And.intro hk hf)))))
  have HB := Lib.hid (Kb.enter (ca := ca) (cb := cb) h)
  unfold mV
  clear h hz hc hx hk hf
  obtain ⟨c0, c1, c2, c3, c4, c5⟩ := HB.out.six (.head _)
  go_enter Try.func27, Try.ntmps27
  go_wp2_with fail
  have HS := split_calls (ca := ca) (cb := cb) (HB.out.m (.head _)) HH.out.2.1 HH.out.2.2.1 HH.out.2.2.2.1
  unfold mV at HS
  refine HS.mono ?_
  rintro e w1 ⟨hb, ⟨hx0, rfl⟩ | ⟨_, v, es, rfl, hsp⟩⟩
  · exact absurd rfl hx0
  obtain ⟨cs, hcl, hcd, hcu⟩ := hsp.cuts HH.out.1.vlen
  obtain ⟨Av, cv, rfl, -⟩ := own_slice hcu.owns.own
  have HB1 := Lib.hid (below_then HB.out.kept hb)
  have HCs := Lib.hid (And.intro hcl (And.intro hcd hcu))
  clear hb hsp HS c0 c1 c2 c3 c4 c5 hcl hcd hcu
  go_wp2_with fail
  refine (questions_calls _).mono ?_
  rintro e w2 ⟨b, rfl, hown, hb⟩
  obtain ⟨g, hl, hg⟩ := look_fn hown HH.out.2.2.2.2.2
  obtain rfl := hg HH.out.2.2.2.2.1
  have HB2 := Lib.hid hb
  clear hb hown hg
  go_wp2_with fail
  have HN := Lib.hid (show n ≤ 1000 by have := HH.out.1.vlen; have := HH.out.2.1.vals; omega)
  have gN : (n : Int) ≤ 1000 := by have := HN.out; omega
  go_loopw [8, 22] (fun v8 v22 wr => ∃ i : Nat, v22 = .int .i64 i ∧ i ≤ n ∧ Hid (Below w2.heap.size w2 wr ∧ wr.ownsRow w2.heap.size 25 6 v8 (saidOf f (cs.take i)).length (flatM (saidOf f (cs.take i))))) (fun _ v22 _ => n - (intOf v22).toNat)
  case atStart => exact ⟨0, rfl, by omega, ⟨m_below _ _, lies_empty rfl⟩⟩
  case round =>
    obtain ⟨i, rfl, hi, hrel⟩ := hrel
    clear hl
    by_cases hlt : i < n
    · have g2 : (i : Int) < (n : Int) := by omega
      have g3 : (0 : Int) ≤ (i : Int) := by omega
      obtain ⟨hlen, hdat, hcu⟩ := HCs.out
      have hie : cs[i]? = some (cs[i]'(by omega)) := List.getElem?_eq_getElem (by omega)
      generalize cs[i]'(by omega) = x at hie
      have hMr := (hcu.owns.mets.keep HB2.out).keep hrel.out.1
      obtain ⟨b, off, eA, c0, c1, c2, c3, c4, c5⟩ := hMr.get hie
      subst eA
      have hC := can_calls (ca := x.ca) (cb := x.cb) ((hMr.one hie).keep (m_below wr (.cells #[.string x.s, .int .i64 x.m.kind, .slice x.A x.n x.ca, .int .i64 x.m.rate, .slice x.B x.k x.cb, .int .i64 x.m.time] 25))) f
      obtain ⟨c, hc⟩ : ∃ c, saysM x.m f = c := ⟨_, rfl⟩
      rw [hc] at hC
      have HC2 := Lib.hid hC
      have HI := Lib.hid (And.intro hie hc)
      have HBx := Lib.hid (m_below wr (.cells #[.string x.s, .int .i64 x.m.kind, .slice x.A x.n x.ca, .int .i64 x.m.rate, .slice x.B x.k x.cb, .int .i64 x.m.time] 25))
      have hbx := Box.new wr 25 (encM x)
      clear hlen hdat hcu hMr hC hc hie
      go_wp2_with fail
      rw [can_enter]
      refine HC2.out.mono ?_
      rintro e w3 ⟨rfl, hb⟩
      have HB3 := Lib.hid (below_then HBx.out hb)
      have hbx3 := hbx.keep hb
      clear hb HC2 HBx hbx c0 c1 c2 c3 c4 c5
      obtain ⟨c0, c1, c2, c3, c4, c5⟩ := ((Kb.start w3).add hbx3).six (.head _)
      cases c
      · go_wp2_with fail
        refine ⟨⟨i + 1, by go_num, by omega, ⟨below_then hrel.out.1 HB3.out, ?_⟩⟩, by simp [intOf]; omega⟩
        rw [saidOf_step HI.out.1, if_neg (by rw [HI.out.2]; decide)]
        exact own_keep hrel.out.2 HB3.out
      · have HO := Lib.hid (own_keep hrel.out.2 (below_then HB3.out (m_below w3 (.cells #[.string x.s, .int .i64 x.m.kind, .slice x.A x.n x.ca, .int .i64 x.m.rate, .slice x.B x.k x.cb, .int .i64 x.m.time] 25))))
        have HL := Lib.hid (show w2.heap.size ≤ w3.heap.size from Nat.le_trans hrel.out.1.size HB3.out.size)
        have HF := Lib.hid (show (saidOf f (cs.take i)).length ≤ 1000 by have h1 := saidOf_len f (cs.take i); have h2 := HN.out; rw [List.length_take] at h1; omega)
        go_wp2_with (first | (at_builtin; refine wpList_append_rows _ rowMet rfl (.tmp 30) (.tmp 32) rfl w2.heap.size u8 (saidOf f (cs.take i)).length _ rfl HO.out (some ⟨w3.heap.size, 0, none⟩) 1 1 (encM x) rfl rfl (lies_at rfl x) encM_cells (by have := HF.out; omega) (by rw [size_alloc]; have := HL.out; omega) ?_; intro v5 w5 hown5 hgr5 hob5; have HW5 := Lib.hid (And.intro hown5 hgr5); clear hown5 hgr5 hob5))
        refine ⟨⟨i + 1, by go_num, by omega, ⟨grown_own (below_then hrel.out.1 (below_then HB3.out (m_below w3 _))) HO.out HW5.out.2, ?_⟩⟩, by simp [intOf]; omega⟩
        rw [saidOf_step HI.out.1, if_pos HI.out.2, List.length_append, flatM_append, flatM_one]
        exact HW5.out.1
    · have g2 : ¬ (i : Int) < (n : Int) := by omega
      obtain rfl : n = i := by omega
      have HR := Lib.hid hrel.out
      clear hrel
      have e0 : cs.take n = cs := List.take_of_length_le (by have := HCs.out.1; omega)
      rw [e0] at HR
      go_wp2_with fail
      go_ret
      have hb := below_then HB2.out HR.out.1
      have hlo : w.heap.size ≤ w1.heap.size := HB1.out.size
      refine ⟨⟨_, rfl, saidOf f cs, ⟨⟨own_base HR.out.2 (Nat.le_trans hlo HB2.out.size), fun e he => ?_⟩, HCs.out.2.2.apart.filter _⟩, ?_⟩, below_then HB1.out hb⟩
      · exact ((HCs.out.2.2.owns.ent e (List.mem_filter.1 he).1).keep hb).low (by rw [size_alloc]; omega)
      · rw [saidOf_dat, HCs.out.2.1]; rfl
end
end Go.Proofs.Yteffankkelbhiaa
