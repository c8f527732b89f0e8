/-
  Package metric: what has to be right of a metric, part by part. No statement of the seat is proved here.
-/
import Derived.Test.YtgnpakcofkhdkaaMParts1
namespace Go.Proofs.Ytgnpakcofkhdkaa
open Go.RowKit
open Dc (D D0)

/-- A metric as a value. -/
def mV (s : ByteArray) (kd : Int) (A : Option Addr) (n ca : Nat) (rt : Int) (B : Option Addr) (k cb : Nat) (tm : Int) : Value :=
  .agg #[.string s, .int .i64 kd, .slice A n ca, .int .i64 rt, .slice B k cb, .int .i64 tm]
/-- Its cells read as this metric. -/
structure MIs (w : World) (s : ByteArray) (A : Option Addr) (n : Nat) (B : Option Addr) (k : Nat) (m : Mt) : Prop where
  name : Str s m.name
  vlen : m.vals.length = n
  vals : Decs w A m.vals
  tlen : m.tags.length = k
  tags : Tags w B m.tags
section
variable {w w' : World} {s : ByteArray} {A B : Option Addr} {n k : Nat} {m : Mt}
theorem MIs.keep (h : MIs w s A n B k m) (hb : Below w.heap.size w w') : MIs w' s A n B k m := ⟨h.name, h.vlen, h.vals.keep hb, h.tlen, h.tags.keep hb⟩
theorem MIs.alloc (h : MIs w s A n B k m) (o : Obj) : MIs (w.alloc o) s A n B k m := h.keep ((Below.refl _ _).alloc (Nat.le_refl _) o)
theorem MIs.drew (h : MIs w s A n B k m) : MIs w.drew s A n B k m := h.keep (Same.below (Same.drewN w 1))
end

/-- These blocks, and these metrics, lie so, and nothing old has changed. -/
structure Kb (w0 : World) (L : List (Nat × TypeId × List Value)) (M : List (ByteArray × Option Addr × Nat × Option Addr × Nat × Mt)) (w : World) : Prop where
  kept : Below w0.heap.size w0 w
  box : ∀ x ∈ L, Box w x.1 x.2.1 x.2.2
  met : ∀ x ∈ M, MIs w x.1 x.2.1 x.2.2.1 x.2.2.2.1 x.2.2.2.2.1 x.2.2.2.2.2
section
variable {w0 w w' : World} {L : List (Nat × TypeId × List Value)} {M : List (ByteArray × Option Addr × Nat × Option Addr × Nat × Mt)}
theorem Kb.start (w : World) : Kb w [] [] w := ⟨Below.refl _ _, by simp, by simp⟩
theorem Kb.next (h : Kb w0 L M w) (k : Below w.heap.size w w') : Kb w0 L M w' := ⟨below_then h.kept k, fun x hx => (h.box x hx).keep k, fun x hx => (h.met x hx).keep k⟩
theorem Kb.drew (h : Kb w0 L M w) : Kb w0 L M w.drew := h.next (Same.below (Same.drewN w 1))
theorem Kb.alloc (h : Kb w0 L M w) (o : Obj) : Kb w0 L M (w.alloc o) := h.next ((Below.refl _ _).alloc (Nat.le_refl _) o)
theorem Kb.add (h : Kb w0 L M w) {g : Nat} {t : TypeId} {cs : List Value} (hb : Box w g t cs) : Kb w0 ((g, t, cs) :: L) M w := ⟨h.kept, fun x hx => by
  rcases List.mem_cons.1 hx with rfl | hx
  · exact hb
  · exact h.box x hx, h.met⟩
theorem Kb.push (h : Kb w0 L M w) (t : TypeId) (cs : List Value) : Kb w0 ((w.heap.size, t, cs) :: L) M (w.alloc (.cells cs.toArray t)) := (h.alloc _).add (Box.new w t cs)
theorem Kb.pushAt (h : Kb w0 L M w) {g : Nat} (hg : w.heap.size = g) (t : TypeId) (cs : List Value) : Kb w0 ((g, t, cs) :: L) M (w.alloc (.cells cs.toArray t)) := by subst hg; exact h.push t cs
theorem Kb.mAdd (h : Kb w0 L M w) {s : ByteArray} {A B : Option Addr} {n k : Nat} {m : Mt} (hm : MIs w s A n B k m) : Kb w0 L ((s, A, n, B, k, m) :: M) w := ⟨h.kept, h.box, fun x hx => by
  rcases List.mem_cons.1 hx with rfl | hx
  · exact hm
  · exact h.met x hx⟩
theorem Kb.cell (h : Kb w0 L M w) {g i : Nat} {t : TypeId} {cs : List Value} {v : Value} (hm : (g, t, cs) ∈ L) (hv : cs[i]? = some v) : w.cell? ⟨g, i, none⟩ = some v := ((h.box _ hm).cell i).trans hv
theorem Kb.m (h : Kb w0 L M w) {s : ByteArray} {A B : Option Addr} {n k : Nat} {m : Mt} (hm : (s, A, n, B, k, m) ∈ M) : MIs w s A n B k m := h.met _ hm
end

def codeIf (b : Bool) (c : Int) : Int := if b = true then 0 else c
def mC (s : ByteArray) (kd : Int) (A : Option Addr) (n ca : Nat) (rt : Int) (B : Option Addr) (k cb : Nat) (tm : Int) : List Value :=
  [.string s, .int .i64 kd, .slice A n ca, .int .i64 rt, .slice B k cb, .int .i64 tm]

section
variable {s : ByteArray} {A B : Option Addr} {n k ca cb : Nat} {m : Mt} {kd rt tm : Int}

structure NameS (w0 : World) (s : ByteArray) (g : Nat) (w : World) : Prop where
  kept : Below w0.heap.size w0 w
  str : w.cell? ⟨w0.heap.size, 0, none⟩ = some (.string s)
  none_ : Box w (w0.heap.size + 1) 59 [.int .i64 0, .int .i64 0]
theorem NameS.next {w0 w w' : World} {g : Nat} (h : NameS w0 s g w) (k : Below w.heap.size w w') : NameS w0 s g w' := ⟨below_then h.kept k, (k.cell (cell_lt h.str)).trans h.str, h.none_.keep k⟩
theorem NameS.cells {w0 w : World} {g : Nat} (h : NameS w0 s g w) : w.cell? ⟨w0.heap.size, 0, none⟩ = some (.string s) ∧ w.cell? ⟨w0.heap.size + 1, 0, none⟩ = some (.int .i64 0) ∧ w.cell? ⟨w0.heap.size + 1, 1, none⟩ = some (.int .i64 0) ∧ NameS w0 s g w := ⟨h.str, h.none_.cell 0, h.none_.cell 1, h⟩
theorem NameS.of {w0 w : World} {g : Nat} {P1 P2 P3 : Prop} (h : P1 ∧ P2 ∧ P3 ∧ NameS w0 s g w) : NameS w0 s g w := h.2.2.2
theorem NameS.start (w : World) (t : TypeId) (cs : List Value) : NameS w s 0 ((w.alloc (.cells (Value.string s :: cs).toArray t)).alloc (.cells #[.int .i64 0, .int .i64 0] 59)) :=
  ⟨((Below.refl _ _).alloc (Nat.le_refl _) _).alloc (by rw [size_alloc]; omega) _, ((Box.new w t (Value.string s :: cs)).alloc _).cell 0, by have := Box.new (w.alloc (.cells (Value.string s :: cs).toArray t)) 59 [.int .i64 0, .int .i64 0]; rwa [size_alloc] at this⟩

set_option maxRecDepth 100000 in
set_option maxHeartbeats 2000000 in
theorem name_calls {l : List UInt8} (hs : Str s l) (hz : l.length ≤ 1000) (w : World) :
    Calls Try.prog 23 #[mV s kd A n ca rt B k cb tm] w fun e w' => e = .returned (.int .i64 (codeIf (nameR l) 15)) ∧ Below w.heap.size w w' := by
  obtain ⟨x, y, hxy⟩ : ∃ x y, faultOf 1 l 1 200 = (x, y) := ⟨_, _, rfl⟩
  have n1 := hs.size
  obtain ⟨p, hp⟩ : ∃ p, decide ((x, y) = ((0, 0) : Int × Int)) = p := ⟨_, rfl⟩
  have hc : nameR l = p := by unfold nameR; rw [hxy, hp]
  have HK := Lib.hid (fun w' (h : NameS w s 0 w') => (ctext_says (c := 1) (lo := 1) (hi := 200) hs (by omega) hxy w').mono fun e w'' (k : _ ∧ _) => And.intro k.1 (h.next k.2))
  have k1 := fne_run hp
  have hg := fguard
  rw [hc]
  unfold mV
  have HS := Lib.hid ((NameS.start (s := s) w 46 [.int .i64 kd, .slice A n ca, .int .i64 rt, .slice B k cb, .int .i64 tm]).next (Same.below (Same.drewN _ 1)))
  clear hxy hs hp hc n1
  go_enter Try.func23, Try.ntmps23
  go_wp2_with fail
  go_region_held3 (fun w' => w'.cell? ⟨w.heap.size, 0, none⟩ = some (.string s) ∧ w'.cell? ⟨w.heap.size + 1, 0, none⟩ = some (.int .i64 0) ∧ w'.cell? ⟨w.heap.size + 1, 1, none⟩ = some (.int .i64 0) ∧ NameS w s 0 w')
    (first | exact NameS.cells HS.out | exact NameS.cells HB6.out)
    (first | (go_at_call 40; refine (HK.out _ (NameS.of (by assumption))).mono ?_; rintro e w6 ⟨rfl, hb6⟩; have HB6 := Lib.hid hb6; clear hb6))
  all_goals
    cases p
    all_goals
      go_wp2_with fail
      go_ret
      exact ⟨rfl, HB6.out.kept⟩

theorem m_below (w : World) (o : Obj) : Below w.heap.size w (w.alloc o) := (Below.refl _ _).alloc (Nat.le_refl _) _

set_option maxRecDepth 100000 in
theorem kind_calls (w : World) : Calls Try.prog 24 #[mV s kd A n ca rt B k cb tm] w fun e w' => e = .returned (.int .i64 (codeIf (kindR kd) 16)) ∧ Below w.heap.size w w' := by
  unfold mV
  have HB := Lib.hid (m_below w (.cells #[.string s, .int .i64 kd, .slice A n ca, .int .i64 rt, .slice B k cb, .int .i64 tm] 46))
  obtain ⟨q, hq⟩ : ∃ q, codeIf (kindR kd) 16 = q := ⟨_, rfl⟩
  rw [hq]
  have HQ := Lib.hid hq
  clear hq
  go_enter Try.func24, Try.ntmps24
  rcases (by omega : kd < 1 ∨ (¬ kd < 1 ∧ 5 < kd) ∨ (¬ kd < 1 ∧ ¬ 5 < kd)) with h | ⟨h, h2⟩ | ⟨h, h2⟩
  · have HE := Lib.hid (show q = 16 by rw [← HQ.out]; unfold kindR; rw [decide_eq_false (by omega)]; rfl)
    go_wp2_with fail
    go_ret
    exact ⟨by rw [HE.out]; rfl, HB.out⟩
  · have HE := Lib.hid (show q = 16 by rw [← HQ.out]; unfold kindR; rw [decide_eq_false (by omega)]; rfl)
    go_wp2_with fail
    go_ret
    exact ⟨by rw [HE.out]; rfl, HB.out⟩
  · have HE := Lib.hid (show q = 0 by rw [← HQ.out]; unfold kindR; rw [decide_eq_true (by omega)]; rfl)
    go_wp2_with fail
    go_ret
    exact ⟨by rw [HE.out]; rfl, HB.out⟩

set_option maxRecDepth 100000 in
theorem time_calls (w : World) : Calls Try.prog 28 #[mV s kd A n ca rt B k cb tm] w fun e w' => e = .returned (.int .i64 (codeIf (timeR tm) 20)) ∧ Below w.heap.size w w' := by
  unfold mV
  have HB := Lib.hid (m_below w (.cells #[.string s, .int .i64 kd, .slice A n ca, .int .i64 rt, .slice B k cb, .int .i64 tm] 46))
  obtain ⟨q, hq⟩ : ∃ q, codeIf (timeR tm) 20 = q := ⟨_, rfl⟩
  rw [hq]
  have HQ := Lib.hid hq
  clear hq
  go_enter Try.func28, Try.ntmps28
  rcases (by omega : tm < 0 ∨ (¬ tm < 0 ∧ 1099511627776 < tm) ∨ (¬ tm < 0 ∧ ¬ 1099511627776 < tm)) with h | ⟨h, h2⟩ | ⟨h, h2⟩
  · have HE := Lib.hid (show q = 20 by rw [← HQ.out]; unfold timeR; rw [decide_eq_false (by omega)]; rfl)
    go_wp2_with fail
    go_ret
    exact ⟨by rw [HE.out]; rfl, HB.out⟩
  · have HE := Lib.hid (show q = 20 by rw [← HQ.out]; unfold timeR; rw [decide_eq_false (by omega)]; rfl)
    go_wp2_with fail
    go_ret
    exact ⟨by rw [HE.out]; rfl, HB.out⟩
  · have HE := Lib.hid (show q = 0 by rw [← HQ.out]; unfold timeR; rw [decide_eq_true (by omega)]; rfl)
    go_wp2_with fail
    go_ret
    exact ⟨by rw [HE.out]; rfl, HB.out⟩

set_option maxRecDepth 100000 in
theorem rate_calls (w : World) : Calls Try.prog 26 #[mV s kd A n ca rt B k cb tm] w fun e w' => e = .returned (.int .i64 (codeIf (rateR kd rt) 18)) ∧ Below w.heap.size w w' := by
  unfold mV
  have HB := Lib.hid (m_below w (.cells #[.string s, .int .i64 kd, .slice A n ca, .int .i64 rt, .slice B k cb, .int .i64 tm] 46))
  obtain ⟨q, hq⟩ : ∃ q, codeIf (rateR kd rt) 18 = q := ⟨_, rfl⟩
  rw [hq]
  have HQ := Lib.hid hq
  clear hq
  go_enter Try.func26, Try.ntmps26
  rcases (by omega : rt < 1 ∨ (¬ rt < 1 ∧ 1000000 < rt) ∨ (¬ rt < 1 ∧ ¬ 1000000 < rt ∧ kd = 2 ∧ rt ≠ 1000000) ∨ (kd = 2 ∧ rt = 1000000) ∨ (¬ rt < 1 ∧ ¬ 1000000 < rt ∧ kd ≠ 2)) with h | ⟨h, h2⟩ | ⟨h, h2, h3, h4⟩ | ⟨h, h2⟩ | ⟨h, h2, h3⟩
  · have HE := Lib.hid (show q = 18 by rw [← HQ.out]; unfold rateR; rw [decide_eq_false (by omega)]; rfl)
    go_wp2_with fail
    go_ret
    exact ⟨by rw [HE.out]; rfl, HB.out⟩
  · have HE := Lib.hid (show q = 18 by rw [← HQ.out]; unfold rateR; rw [decide_eq_false (by omega)]; rfl)
    go_wp2_with fail
    go_ret
    exact ⟨by rw [HE.out]; rfl, HB.out⟩
  · subst h3
    have HE := Lib.hid (show q = 18 by rw [← HQ.out]; unfold rateR; rw [decide_eq_false (by omega)]; rfl)
    go_wp2_with fail
    go_ret
    exact ⟨by rw [HE.out]; rfl, HB.out⟩
  · subst h h2
    have HE := Lib.hid (show q = 0 by rw [← HQ.out]; unfold rateR; rw [decide_eq_true (by omega)]; rfl)
    go_wp2_with fail
    go_ret
    exact ⟨by rw [HE.out]; rfl, HB.out⟩
  · have HE := Lib.hid (show q = 0 by rw [← HQ.out]; unfold rateR; rw [decide_eq_true (by omega)]; rfl)
    go_wp2_with fail
    go_ret
    exact ⟨by rw [HE.out]; rfl, HB.out⟩

set_option maxRecDepth 100000 in
theorem values_calls {ds : List D} {w : World} (hn : ds.length = n) (hA : Decs w A ds) (hz : n ≤ 1000) (hf : ∀ d ∈ ds, d.Fits) : Calls Try.prog 25 #[mV s kd A n ca rt B k cb tm] w fun e w' => e = .returned (.int .i64 (codeIf (valsR (okV ds) ds.length) 17)) ∧ Below w.heap.size w w' := by
  have hb := m_below w (.cells #[.string s, .int .i64 kd, .slice A n ca, .int .i64 rt, .slice B k cb, .int .i64 tm] 46)
  have hC := allD_calls (cap := ca) hn (hA.keep hb) hz hf 1 64
  obtain ⟨q, hq⟩ : ∃ q, (okV ds && decide ((1 : Int) ≤ n ∧ (n : Int) ≤ 64)) = q := ⟨_, rfl⟩
  have hv : valsR (okV ds) ds.length = q := by
    rw [← hq, hn]; unfold valsR; congr 1; exact decide_eq_decide.2 (by omega)
  rw [hv]
  rw [hq] at hC
  have HC := Lib.hid hC
  have HB := Lib.hid hb
  clear hn hA hf hb hC hq hv
  unfold mV
  go_enter Try.func25, Try.ntmps25
  go_wp2_with fail
  refine HC.out.mono ?_
  rintro e w2 ⟨rfl, hb⟩
  have HB2 := Lib.hid (below_then HB.out hb)
  clear hb HB HC
  cases q
  all_goals
    go_wp2_with fail
    go_ret
    exact ⟨rfl, HB2.out⟩

set_option maxRecDepth 100000 in
theorem tags_calls {ts : List Tg} {w : World} (hn : ts.length = k) (hA : Tags w B ts) (hz : k ≤ 1000) (hf : ∀ t ∈ ts, t.1.length ≤ 1000 ∧ t.2.length ≤ 1000) : Calls Try.prog 27 #[mV s kd A n ca rt B k cb tm] w fun e w' => e = .returned (.int .i64 (codeIf (tagsR ts) 19)) ∧ Below w.heap.size w w' := by
  have hb := m_below w (.cells #[.string s, .int .i64 kd, .slice A n ca, .int .i64 rt, .slice B k cb, .int .i64 tm] 46)
  have hC := allT_calls (cap := cb) hn (hA.keep hb) hz hf 0 32
  obtain ⟨q, hq⟩ : ∃ q, (ts.all rightT && decide ((0 : Int) ≤ k ∧ (k : Int) ≤ 32)) = q := ⟨_, rfl⟩
  have hv : tagsR ts = q := by
    rw [← hq]; unfold tagsR; rw [hn, Bool.and_comm]; congr 1; exact decide_eq_decide.2 (by omega)
  rw [hv]
  rw [hq] at hC
  have HC := Lib.hid hC
  have HB := Lib.hid hb
  clear hn hA hf hb hC hq hv
  unfold mV
  go_enter Try.func27, Try.ntmps27
  go_wp2_with fail
  refine HC.out.mono ?_
  rintro e w2 ⟨rfl, hb⟩
  have HB2 := Lib.hid (below_then HB.out hb)
  clear hb HB HC
  cases q
  all_goals
    go_wp2_with fail
    go_ret
    exact ⟨rfl, HB2.out⟩
end
end Go.Proofs.Ytgnpakcofkhdkaa
