/-
  Package metric: Clone; the document's Copy. No statement of the seat is proved here.
-/
import Derived.Test.YteffankkelbhiaaMNormal
namespace Go.Proofs.Yteffankkelbhiaa
open Go.RowKit
open Dc (D D0)

theorem own_set {w : World} {base n size : Nat} {el : TypeId} {v : Value} {xs : List Value} (h : w.ownsRow base el size v n xs) {q : Addr} (hq : q.block < base) (u : Value) : (w.setCell q u).ownsRow base el size v n xs := by
  refine ⟨h.1, ?_⟩
  rcases h.2 with h2 | ⟨g, cap, cur, hv, hg, hh, r⟩
  · exact .inl h2
  · exact .inr ⟨g, cap, cur, hv, hg, (Below.heap_setCell w q u g (by omega)).trans hh, r⟩

section
variable {w : World} {A : Option Addr} {n cap : Nat}
set_option maxRecDepth 100000 in
theorem cloneD_calls {ds : List D} (hn : ds.length = n) (hA : Decs w A ds) (hz : n ≤ 1000) :
    Calls Try.prog 30 #[.slice A n cap] w fun e w' => Below w.heap.size w w' ∧ ∃ A' cap', e = .returned (.slice A' n cap') ∧ w'.ownsRow w.heap.size 45 3 (.slice A' n cap') n (flatD ds) := by
  have hq := Lib.run_eql_slice_nil (P := Try.prog)
  rcases A with _ | ad
  · have h0 := hA.nil_of
    subst h0
    obtain rfl : 0 = n := hn
    clear hA
    go_enter Try.func30, Try.ntmps30
    go_wp2_with fail
    go_ret
    exact ⟨Below.refl _ _, none, 0, rfl, own_nilD _ _⟩
  · have HA := Lib.hid (And.intro hn hA)
    clear hn hA
    go_enter Try.func30, Try.ntmps30
    go_wp2_with (first | (at_builtin; refine wpList_append_rows _ rowDec rfl (.tmp 5) (.tmp 6) rfl w.heap.size _ 0 (flatD []) rfl (own_emptyD w) (some ad) n cap (flatD ds) rfl (by rw [flatD_length, HA.out.1]) (HA.out.2.keep (m_below w _)) flatD_cells (by omega) (by simp) ?_; intro v' w' hown hgr hob))
    go_ret
    have hb : Below w.heap.size w w' := grown_own (m_below w _) (own_emptyD w) hgr
    refine ⟨hb, ?_⟩
    rw [Nat.zero_add, flatD_nil, List.nil_append] at hown
    obtain ⟨A', cap', rfl, _⟩ := own_slice hown
    exact ⟨A', cap', rfl, hown⟩
set_option maxRecDepth 100000 in
theorem cloneT_calls {ts : List Tg} (hn : ts.length = n) (hA : Tags w A ts) (hz : n ≤ 1000) :
    Calls Try.prog 31 #[.slice A n cap] w fun e w' => Below w.heap.size w w' ∧ ∃ A' cap', e = .returned (.slice A' n cap') ∧ w'.ownsRow w.heap.size 47 2 (.slice A' n cap') n (flat ts) := by
  have hq := Lib.run_eql_slice_nil (P := Try.prog)
  rcases A with _ | ad
  · have h0 := tags_nil_of hA
    subst h0
    obtain rfl : 0 = n := hn
    clear hA
    go_enter Try.func31, Try.ntmps31
    go_wp2_with fail
    go_ret
    exact ⟨Below.refl _ _, none, 0, rfl, own_nil _ _⟩
  · have HA := Lib.hid (And.intro hn hA)
    clear hn hA
    go_enter Try.func31, Try.ntmps31
    go_wp2_with (first | (at_builtin; refine wpList_append_rows _ rowTag rfl (.tmp 5) (.tmp 6) rfl w.heap.size _ 0 (flat []) rfl (own_empty w) (some ad) n cap (flat ts) rfl (by rw [flat_length, HA.out.1]) (HA.out.2.keep (m_below w _)) flat_cells (by omega) (by simp) ?_; intro v' w' hown hgr hob))
    go_ret
    have hb : Below w.heap.size w w' := grown_own (m_below w _) (own_empty w) hgr
    refine ⟨hb, ?_⟩
    rw [Nat.zero_add, flat_nil, List.nil_append] at hown
    obtain ⟨A', cap', rfl, _⟩ := own_slice hown
    exact ⟨A', cap', rfl, hown⟩
end

/-- What Clone tells: a metric whose rows are its own. -/
structure OwnM (base : Nat) (w : World) (s : ByteArray) (A : Option Addr) (n ca : Nat) (B : Option Addr) (k cb : Nat) (m : Mt) : Prop where
  name : Str s m.name
  vals : w.ownsRow base 45 3 (.slice A n ca) n (flatD m.vals)
  tags : w.ownsRow base 47 2 (.slice B k cb) k (flat m.tags)
theorem own_lenT {w : World} {ts : List Tg} {base n : Nat} {v : Value} (h : w.ownsRow base 47 2 v n (flat ts)) : ts.length = n := by have := h.1; rw [flat_length] at this; omega
theorem OwnM.mis {base : Nat} {w : World} {s : ByteArray} {A B : Option Addr} {n ca k cb : Nat} {m : Mt} (h : OwnM base w s A n ca B k cb m) : MIs w s A n B k m :=
  ⟨h.name, own_lenD h.vals, Decs.of_own h.vals, own_lenT h.tags, Tags.of_own h.tags⟩
theorem OwnM.keep {base : Nat} {w w' : World} {s : ByteArray} {A B : Option Addr} {n ca k cb : Nat} {m : Mt} (h : OwnM base w s A n ca B k cb m) (b : Below w.heap.size w w') : OwnM base w' s A n ca B k cb m := ⟨h.name, own_keep h.vals b, own_keep h.tags b⟩
theorem OwnM.low {base base' : Nat} {w : World} {s : ByteArray} {A B : Option Addr} {n ca k cb : Nat} {m : Mt} (h : OwnM base w s A n ca B k cb m) (b : base' ≤ base) : OwnM base' w s A n ca B k cb m := ⟨h.name, own_base h.vals b, own_base h.tags b⟩
theorem OwnM.put {base : Nat} {w : World} {s : ByteArray} {A B : Option Addr} {n ca k cb : Nat} {m : Mt} (h : OwnM base w s A n ca B k cb m) {q : Addr} (hq : q.block < base) (u : Value) : OwnM base (w.setCell q u) s A n ca B k cb m := ⟨h.name, own_set h.vals hq u, own_set h.tags hq u⟩

section
variable {w : World} {s : ByteArray} {A B : Option Addr} {n k ca cb : Nat} {m : Mt}
/-- What Clone tells. -/
def CloneP (w : World) (s : ByteArray) (n k : Nat) (m : Mt) (e : Ending) (w' : World) : Prop :=
  (∃ A ca B cb, e = .returned (mV s m.kind A n ca m.rate B k cb m.time) ∧ OwnM w.heap.size w' s A n ca B k cb m) ∧ Below w.heap.size w w'

set_option maxRecDepth 100000 in
set_option maxHeartbeats 4000000 in
theorem clone_calls7 (h : MIs w s A n B k m) (hz : Small m) : Calls Try.prog 19 #[mV s m.kind A n ca m.rate B k cb m.time] w (CloneP w s n k m) := by
  have hD := fun W (b : Below w.heap.size w W) => cloneD_calls (cap := ca) h.vlen (h.vals.keep b) (by have := h.vlen; have := hz.vals; omega)
  have hT := fun W (b : Below w.heap.size w W) => cloneT_calls (cap := cb) h.tlen (h.tags.keep b) (by have := h.tlen; have := hz.tags; omega)
  obtain ⟨kd, hkd⟩ : ∃ x, x = m.kind := ⟨_, rfl⟩
  obtain ⟨rt, hrt⟩ : ∃ x, x = m.rate := ⟨_, rfl⟩
  obtain ⟨tm, htm⟩ : ∃ x, x = m.time := ⟨_, rfl⟩
  rw [← hkd, ← hrt, ← htm]
  have HD := Lib.hid hD
  have HT := Lib.hid hT
  have HH := Lib.hid (And.intro h (And.intro hkd (And.intro hrt htm)))
  have b0 := ((Kb.start w).push 25 (mC s kd A n ca rt B k cb tm)).push 25 (mC ⟨#[]⟩ 0 none 0 0 0 none 0 0 0)
  rw [size_alloc] at b0
  have hsz : w.heap.size + 1 + 1 = ((w.alloc (.cells (mC s kd A n ca rt B k cb tm).toArray 25)).alloc (.cells (mC ⟨#[]⟩ 0 none 0 0 0 none 0 0 0).toArray 25)).heap.size := by rw [size_alloc, size_alloc]
  have HZ := Lib.hid hsz
  unfold mC at b0 HZ
  have HB := Lib.hid b0
  unfold mV
  clear hD hT h hz hkd hrt htm b0 hsz
  go_enter Try.func19, Try.ntmps19
  go_wp2_with fail
  refine (HD.out _ HB.out.kept).mono ?_
  rintro e w1 ⟨hb, A', ca', rfl, hown⟩
  have x0 : Box w1 w.heap.size 25 (mC s kd A n ca rt B k cb tm) := (HB.out.next hb).box _ (.tail _ (.head _))
  have y0 : Box w1 (w.heap.size + 1) 25 (mC ⟨#[]⟩ 0 none 0 0 0 none 0 0 0) := (HB.out.next hb).box _ (.head _)
  have hbel := (HB.out.next hb).kept
  have hown1 := own_base hown (Nat.le_of_eq HZ.out)
  have x1 : Box (w1.setCell ⟨w.heap.size, 2, none⟩ (.slice A' n ca')) w.heap.size 25 (mC s kd A' n ca' rt B k cb tm) := x0.set 2 _
  have y1 := y0.far (q := ⟨w.heap.size, 2, none⟩) (by show w.heap.size + 1 ≠ w.heap.size; omega) (.slice A' n ca')
  have HX := Lib.hid (And.intro (own_set hown1 (q := ⟨w.heap.size, 2, none⟩) (by show w.heap.size < _; omega) (.slice A' n ca')) (And.intro x1 (And.intro y1 (below_set hbel (Nat.le_refl _) 2 (.slice A' n ca')))))
  have a2 : w1.cell? ⟨w.heap.size, 2, none⟩ = some (.slice A n ca) := x0.cell 2
  have f2 := x0.frozen 2
  have a4 : w1.cell? ⟨w.heap.size, 4, none⟩ = some (.slice B k cb) := x0.cell 4
  clear hb hown hown1 x0 y0 hbel x1 y1 HB HD HZ
  go_wp2_with fail
  refine (HT.out _ HX.out.2.2.2).mono ?_
  rintro e w3 ⟨hb, B', cb', rfl, hownT⟩
  clear a2 a4 f2
  have x3 := HX.out.2.1.keep hb
  have y3 := HX.out.2.2.1.keep hb
  have hom : OwnM (w.heap.size + 1 + 1) w3 s A' n ca' B' k cb' m := ⟨HH.out.1.name, own_keep HX.out.1 hb, own_base hownT (by have := HX.out.2.2.1.lt; omega)⟩
  have y4 := y3.far (q := ⟨w.heap.size, 4, none⟩) (by show w.heap.size + 1 ≠ w.heap.size; omega) (.slice B' k cb')
  have HX4 := Lib.hid (And.intro (hom.put (q := ⟨w.heap.size, 4, none⟩) (by show w.heap.size < _; omega) (.slice B' k cb')) (And.intro y4 (below_set (below_then HX.out.2.2.2 hb) (Nat.le_refl _) 4 (.slice B' k cb'))))
  have c0 : w3.cell? ⟨w.heap.size, 0, none⟩ = some (.string s) := x3.cell 0
  have c1 : w3.cell? ⟨w.heap.size, 1, none⟩ = some (.int .i64 kd) := x3.cell 1
  have c2 : w3.cell? ⟨w.heap.size, 2, none⟩ = some (.slice A' n ca') := x3.cell 2
  have c3 : w3.cell? ⟨w.heap.size, 3, none⟩ = some (.int .i64 rt) := x3.cell 3
  have c4 : w3.cell? ⟨w.heap.size, 4, none⟩ = some (.slice B k cb) := x3.cell 4
  have c5 : w3.cell? ⟨w.heap.size, 5, none⟩ = some (.int .i64 tm) := x3.cell 5
  have f4 := x3.frozen 4
  have r0 : w3.cell? ⟨w.heap.size + 1, 0, none⟩ = some (.string ⟨#[]⟩) := y3.cell 0
  have r1 : w3.cell? ⟨w.heap.size + 1, 1, none⟩ = some (.int .i64 0) := y3.cell 1
  have r2 : w3.cell? ⟨w.heap.size + 1, 2, none⟩ = some (.slice none 0 0) := y3.cell 2
  have r3 : w3.cell? ⟨w.heap.size + 1, 3, none⟩ = some (.int .i64 0) := y3.cell 3
  have r4 : w3.cell? ⟨w.heap.size + 1, 4, none⟩ = some (.slice none 0 0) := y3.cell 4
  have r5 : w3.cell? ⟨w.heap.size + 1, 5, none⟩ = some (.int .i64 0) := y3.cell 5
  have g0 := y3.frozen 0
  have g1 := y3.frozen 1
  have g2 := y3.frozen 2
  have g3 := y3.frozen 3
  have g4 := y3.frozen 4
  have g5 := y3.frozen 5
  clear x3 y3 y4 hom hownT hb HX HT
  go_wp2_with fail
  refine ret_met1 rfl rfl rfl (putM_is HX4.out.2.1) ⟨⟨A', ca', B', cb', ?_, ?_⟩, putM_below HX4.out.2.2 (by omega)⟩
  · obtain ⟨_, h1, h2, h3⟩ := HH.out
    rw [h1, h2, h3]; rfl
  · exact ((((((HX4.out.1.put (q := ⟨w.heap.size + 1, 0, none⟩) (Nat.lt_succ_self _) _).put (q := ⟨w.heap.size + 1, 1, none⟩) (Nat.lt_succ_self _) _).put (q := ⟨w.heap.size + 1, 2, none⟩) (Nat.lt_succ_self _) _).put (q := ⟨w.heap.size + 1, 3, none⟩) (Nat.lt_succ_self _) _).put (q := ⟨w.heap.size + 1, 4, none⟩) (Nat.lt_succ_self _) _).put (q := ⟨w.heap.size + 1, 5, none⟩) (Nat.lt_succ_self _) _).low (by omega)
end
end Go.Proofs.Yteffankkelbhiaa
