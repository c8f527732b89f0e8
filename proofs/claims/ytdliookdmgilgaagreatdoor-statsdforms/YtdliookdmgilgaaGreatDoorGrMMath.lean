/-
  MMath, MParts1, MParts2, MCheck. No statement of the seat is proved here.
-/
import Derived.Test.YtdliookdmgilgaaGreatDoorTText
import Derived.Test.YtdliookdmgilgaaGreatDoorGrDigs
import Derived.Test.YtdliookdmgilgaaGreatDoorMRows
import Derived.Test.YtdliookdmgilgaaGreatDoorDCheck
import Derived.Test.YtdliookdmgilgaaGreatDoorGrTCheck
/-
  Metrics as plain data: which are right, what their one form is. Nothing of the program.
-/
namespace Go.Proofs.YtdliookdmgilgaaGreatDoor
open Dc (D D0)

/-- A metric. -/
structure Mt where
  name : List UInt8
  kind : Int
  vals : List D
  rate : Int
  tags : List Tg
  time : Int
deriving DecidableEq

def M0 : Mt := ⟨[], 0, [], 0, [], 0⟩
def nameR (l : List UInt8) : Bool := decide (faultOf 1 l 1 200 = (0, 0))
def kindR (k : Int) : Bool := decide (1 ≤ k ∧ k ≤ 5)
def valsR (ok : Bool) (n : Nat) : Bool := ok && decide (1 ≤ n ∧ n ≤ 64)
def rateR (k r : Int) : Bool := decide (1 ≤ r ∧ r ≤ 1000000 ∧ (k = 2 → r = 1000000))
def tagsR (ts : List Tg) : Bool := decide (ts.length ≤ 32) && ts.all rightT
def timeR (t : Int) : Bool := decide (0 ≤ t ∧ t ≤ 1099511627776)
/-- How a metric is wrong, if its values are right, or not. -/
def restM (m : Mt) (ok : Bool) : Int :=
  if nameR m.name = false then 15 else if kindR m.kind = false then 16 else if valsR ok m.vals.length = false then 17
  else if rateR m.kind m.rate = false then 18 else if tagsR m.tags = false then 19 else if timeR m.time = false then 20 else 0
def okV (ds : List D) : Bool := ds.all fun d => decide (Dc.check d = 0)
def checkM (m : Mt) : Int := restM m (okV m.vals)
def form (d : D) : D := (Dc.normal d).getD d
def hasN (ds : List D) : Bool := ds.all fun d => (Dc.normal d).isSome
def codeM (m : Mt) : Int := restM m (hasN m.vals)
/-- Its values in their one forms. -/
def valM (m : Mt) : Mt := { m with vals := m.vals.map form }
/-- Its one form, if there is one. -/
def formM (m : Mt) : Mt := { m with vals := m.vals.map form, tags := norm m.tags }
def isM (m : Mt) : Bool := decide (checkM m = 0) && decide (m.tags = norm m.tags)
/-- What Normal tells. -/
def nM (m : Mt) : Mt := if codeM m = 0 then formM m else M0
def sameM (a b : Mt) : Bool := decide (codeM a = 0) && decide (codeM b = 0) && decide (nM a = nM b)

theorem form_check (d : D) : Dc.check (form d) = 0 ↔ (Dc.normal d).isSome = true := by
  unfold form
  rw [Dc.check_ok]
  cases h : Dc.normal d with
  | none =>
    refine ⟨fun k => ?_, fun k => by cases k⟩
    simp only [Option.getD_none] at k
    rw [Dc.normal_fix k] at h; cases h
  | some n => exact ⟨fun _ => rfl, fun _ => Dc.normal_one h⟩
theorem form_one {d : D} (h : Dc.check d = 0) : form d = d := by unfold form; rw [Dc.normal_fix (Dc.check_ok.1 h)]; rfl
theorem form_form (d : D) : form (form d) = form d := by
  cases h : Dc.normal d with
  | none => have e : form d = d := by unfold form; rw [h]; rfl
            rw [e, e]
  | some n => exact form_one ((form_check d).2 (by rw [h]; rfl))
theorem form_nVal {d : D} (h : (Dc.normal d).isSome = true) : (Dc.normal d).getD D0 = form d := by
  unfold form
  cases hn : Dc.normal d with
  | none => rw [hn] at h; cases h
  | some n => rfl

theorem okV_form (ds : List D) : okV (ds.map form) = hasN ds := by
  unfold okV hasN
  rw [List.all_map]
  congr 1
  funext d
  rw [Bool.eq_iff_iff]
  simp only [Function.comp, decide_eq_true_eq]
  exact form_check d
theorem checkM_val (m : Mt) : checkM (valM m) = codeM m := by
  show restM (valM m) (okV (m.vals.map form)) = restM m (hasN m.vals)
  rw [okV_form]
  unfold restM valM
  simp only [List.length_map]

theorem okV_hasN {ds : List D} (h : okV ds = true) : hasN ds = true := by
  unfold okV hasN at *
  rw [List.all_eq_true] at *
  intro d hd
  have := of_decide_eq_true (h d hd)
  rw [Dc.normal_fix (Dc.check_ok.1 this)]; rfl
theorem okV_map {ds : List D} (h : okV ds = true) : ds.map form = ds := by
  unfold okV at h
  rw [List.all_eq_true] at h
  exact (List.map_congr_left (g := fun d => d) fun d hd => form_one (of_decide_eq_true (h d hd))).trans (by simp)
theorem restM_zero {m : Mt} {ok : Bool} : restM m ok = 0 ↔ nameR m.name = true ∧ kindR m.kind = true ∧ valsR ok m.vals.length = true ∧ rateR m.kind m.rate = true ∧ tagsR m.tags = true ∧ timeR m.time = true := by
  unfold restM
  cases nameR m.name <;> cases kindR m.kind <;> cases valsR ok m.vals.length <;> cases rateR m.kind m.rate <;> cases tagsR m.tags <;> cases timeR m.time <;> simp
theorem valsR_ok {ok : Bool} {n : Nat} (h : valsR ok n = true) : ok = true ∧ 1 ≤ n ∧ n ≤ 64 := by
  unfold valsR at h
  rw [Bool.and_eq_true, decide_eq_true_eq] at h
  exact h
theorem checkM_ok {m : Mt} (h : checkM m = 0) : okV m.vals = true := (valsR_ok (restM_zero.1 h).2.2.1).1
theorem check_code {m : Mt} (h : checkM m = 0) : codeM m = 0 := by
  have := restM_zero.1 h
  refine restM_zero.2 ⟨this.1, this.2.1, ?_, this.2.2.2⟩
  obtain ⟨h1, h2⟩ := valsR_ok this.2.2.1
  unfold valsR
  rw [okV_hasN h1, decide_eq_true h2]; rfl
theorem tagsR_norm {ts : List Tg} (h : tagsR ts = true) : tagsR (norm ts) = true := by
  unfold tagsR at *
  rw [Bool.and_eq_true, decide_eq_true_eq] at *
  refine ⟨Nat.le_trans (norm_length ts) h.1, ?_⟩
  rw [List.all_eq_true]
  intro t ht
  exact List.all_eq_true.1 h.2 t (mem_norm.1 ht)
theorem formM_check {m : Mt} (h : codeM m = 0) : checkM (formM m) = 0 := by
  rw [← checkM_val] at h
  have := restM_zero.1 h
  exact restM_zero.2 ⟨this.1, this.2.1, this.2.2.1, this.2.2.2.1, tagsR_norm this.2.2.2.2.1, this.2.2.2.2.2⟩
theorem formM_code {m : Mt} (h : codeM m = 0) : codeM (formM m) = 0 := check_code (formM_check h)
theorem formM_formM (m : Mt) : formM (formM m) = formM m := by
  unfold formM
  simp only [List.map_map, norm_norm]
  congr 1
  refine List.map_congr_left fun d _ => form_form d
theorem isM_form {m : Mt} (h : codeM m = 0) : isM (formM m) = true := by
  unfold isM
  rw [decide_eq_true (formM_check h), decide_eq_true (show (formM m).tags = norm (formM m).tags from (norm_norm m.tags).symm)]; rfl
theorem isM_iff (m : Mt) : isM m = (decide (checkM m = 0) && decide (m = formM m)) := by
  unfold isM
  by_cases h : checkM m = 0
  · rw [decide_eq_true h, Bool.true_and, Bool.true_and]
    refine decide_eq_decide.2 ⟨fun k => ?_, fun k => congrArg Mt.tags k⟩
    obtain ⟨a, b, c, d, e, f⟩ := m
    unfold formM
    simp only [Mt.mk.injEq, true_and, and_true]
    exact ⟨(okV_map (checkM_ok h)).symm, k⟩
  · rw [decide_eq_false h, Bool.false_and, Bool.false_and]
theorem nM_ok {m : Mt} (h : codeM m = 0) : nM m = formM m := by unfold nM; rw [if_pos h]
theorem nM_no {m : Mt} (h : codeM m ≠ 0) : nM m = M0 := by unfold nM; rw [if_neg h]
theorem sameM_form {m : Mt} (h : codeM m = 0) : sameM m (formM m) = true := by
  unfold sameM
  rw [decide_eq_true h, decide_eq_true (formM_code h), nM_ok h, nM_ok (formM_code h), formM_formM, decide_eq_true rfl]; rfl
theorem sameM_no {m n : Mt} (h : codeM m ≠ 0) : sameM m n = false := by unfold sameM; rw [decide_eq_false h]; rfl
theorem sameM_comm (a b : Mt) : sameM a b = sameM b a := by
  unfold sameM
  rw [Bool.and_comm (decide (codeM a = 0)), show decide (nM a = nM b) = decide (nM b = nM a) from decide_eq_decide.2 ⟨Eq.symm, Eq.symm⟩]

/-- Not too great, and it can be held. -/
structure Small (m : Mt) : Prop where
  name : m.name.length ≤ 1000
  vals : m.vals.length ≤ 1000
  fits : ∀ d ∈ m.vals, d.Fits
  tags : m.tags.length ≤ 200
  lens : ∀ t ∈ m.tags, t.1.length ≤ 1000 ∧ t.2.length ≤ 1000
theorem form_fits {d : D} (h : d.Fits) : (form d).Fits := by
  unfold form
  cases hn : Dc.normal d with
  | none => exact h
  | some n => exact (Dc.normal_one hn).fits
theorem Small.val {m : Mt} (h : Small m) : Small (valM m) := ⟨h.name, by show (m.vals.map form).length ≤ 1000; rw [List.length_map]; exact h.vals, fun d hd => by
  obtain ⟨d', hd', rfl⟩ := List.mem_map.1 hd
  exact form_fits (h.fits d' hd'), h.tags, h.lens⟩
theorem Small.form {m : Mt} (h : Small m) : Small (formM m) := ⟨h.name, h.val.vals, h.val.fits, Nat.le_trans (norm_length _) h.tags, fun t ht => h.lens t (mem_norm.1 ht)⟩
theorem small0 : Small M0 := ⟨by decide, by decide, by simp [M0], by decide, by simp [M0]⟩
theorem Small.n {m : Mt} (h : Small m) : Small (nM m) := by
  unfold nM; split
  · exact h.form
  · exact small0
end Go.Proofs.YtdliookdmgilgaaGreatDoor

/-
  Package metric: allRight, of Decs and of tags. No statement of the seat is proved here.
-/
namespace Go.Proofs.YtdliookdmgilgaaGreatDoor
open Go.RowKit
open Dc (D D0)

set_option maxRecDepth 100000 in
set_option maxHeartbeats 4000000 in
theorem allD_calls {w : World} {A : Option Addr} {n cap : Nat} {ds : List D} (hn : ds.length = n) (hA : Decs w A ds) (hz : n ≤ 1000) (hf : ∀ d ∈ ds, d.Fits) (lo hi : Int) :
    Calls Tryz.prog 108 #[.slice A n cap, .int .i64 lo, .int .i64 hi, .func (.func 48) #[] #[]] w fun e w' => e = .returned (.bool (okV ds && decide (lo ≤ n ∧ (n : Int) ≤ hi))) ∧ Below w.heap.size w w' := by
  obtain ⟨q, hq⟩ : ∃ q, okV ds = q := ⟨_, rfl⟩
  rw [hq]
  have HQ := Lib.hid hq
  have HA := Lib.hid (And.intro hn (And.intro hA hf))
  clear hq hn hA hf
  go_enter Tryz.func108, Tryz.ntmps108
  by_cases h1 : (n : Int) < lo
  · have HE : Hid ((q && decide (lo ≤ (n : Int) ∧ (n : Int) ≤ hi)) = false) := Lib.hid (by rw [decide_eq_false (by omega), Bool.and_false])
    rw [HE.out]
    go_wp2_with fail
    go_ret
    exact ⟨rfl, Below.refl _ _⟩
  · by_cases h2 : hi < (n : Int)
    · have HE : Hid ((q && decide (lo ≤ (n : Int) ∧ (n : Int) ≤ hi)) = false) := Lib.hid (by rw [decide_eq_false (by omega), Bool.and_false])
      rw [HE.out]
      go_wp2_with fail
      go_ret
      exact ⟨rfl, Below.refl _ _⟩
    · have HE : Hid ((q && decide (lo ≤ (n : Int) ∧ (n : Int) ≤ hi)) = q) := Lib.hid (by rw [decide_eq_true (by omega), Bool.and_true])
      rw [HE.out]
      clear HE
      go_wp2_with fail
      go_loopw [23] (fun v wr => ∃ i : Nat, v = .int .i64 i ∧ i ≤ n ∧ Hid (Below w.heap.size w wr ∧ ∀ j (h : j < ds.length), j < i → Dc.check ds[j] = 0)) (fun v _ => n - (intOf v).toNat)
      case atStart => exact ⟨0, rfl, by omega, ⟨Below.refl _ _, fun j _ hj => absurd hj (by omega)⟩⟩
      case round =>
        obtain ⟨i, rfl, hin, hrel⟩ := hrel
        by_cases hlt : i < n
        · have g1 : (i : Int) < (n : Int) := by omega
          obtain ⟨hn, hA, hf⟩ := HA.out
          have l0 : i < ds.length := by omega
          obtain ⟨b, off, p, x, y, e1, c0, c1, c2, hd⟩ := (hA.keep hrel.out.1).get l0
          subst e1
          have hC := fun W => Dc.check_calls ds[i] (hf _ (List.getElem_mem l0)) W
          unfold Dc.dV at hC
          simp only [← hd.neg, ← hd.c, ← hd.e] at hC
          obtain ⟨r, hr⟩ : ∃ r, Dc.check ds[i] = r := ⟨_, rfl⟩
          rw [hr] at hC
          have HC := Lib.hid hC
          have HR := Lib.hid hr
          have hb1 := hrel.out.1.alloc hrel.out.1.size (.cells #[.bool p, .int .u64 x, .int .i64 y] 50)
          have HB := Lib.hid hb1
          clear hn hA hf hC hr hb1 hd
          go_wp2_with fail
          refine (HC.out _).mono ?_
          rintro e w2 ⟨rfl, hb⟩
          have HB2 := Lib.hid (below_then HB.out hb)
          clear hb HB HC c0 c1 c2
          by_cases hr0 : r = 0
          · have HE := Lib.hid (HR.out.trans hr0)
            go_wp2_with fail
            refine ⟨⟨i + 1, by go_num, by omega, ⟨HB2.out, fun j h hj => ?_⟩⟩, by simp [intOf]; omega⟩
            rcases Nat.lt_or_ge j i with h' | h'
            · exact hrel.out.2 j h h'
            · obtain rfl : i = j := by omega
              exact HE.out
          · have HE := Lib.hid (show q = false by
              rw [← HQ.out]
              refine Bool.eq_false_iff.2 fun h => hr0 ?_
              rw [← HR.out]
              unfold okV at h
              exact of_decide_eq_true (List.all_eq_true.1 h _ (List.getElem_mem l0)))
            go_wp2_with fail
            go_ret
            exact ⟨by rw [HE.out]; first | done | rfl, HB2.out⟩
        · have g1 : ¬ (i : Int) < (n : Int) := by omega
          have HE := Lib.hid (show q = true by
            rw [← HQ.out]
            unfold okV
            refine List.all_eq_true.2 fun d hd => decide_eq_true ?_
            obtain ⟨j, hj, rfl⟩ := List.mem_iff_getElem.1 hd
            exact hrel.out.2 j hj (by have := HA.out.1; omega))
          go_wp2_with fail
          go_ret
          exact ⟨by rw [HE.out]; first | done | rfl, hrel.out.1⟩

theorem chkT_ok {t : Tg} : chkT t = 0 ↔ rightT t = true := by
  unfold chkT; split
  · exact ⟨fun _ => by assumption, fun _ => rfl⟩
  · exact ⟨fun h => absurd h (by decide), fun h => absurd h (by assumption)⟩

set_option maxRecDepth 100000 in
set_option maxHeartbeats 4000000 in
theorem allT_calls {w : World} {A : Option Addr} {n cap : Nat} {ts : List Tg} (hn : ts.length = n) (hA : Tags w A ts) (hz : n ≤ 1000) (hf : ∀ t ∈ ts, t.1.length ≤ 1000 ∧ t.2.length ≤ 1000) (lo hi : Int) :
    Calls Tryz.prog 109 #[.slice A n cap, .int .i64 lo, .int .i64 hi, .func (.func 110) #[] #[]] w fun e w' => e = .returned (.bool (ts.all rightT && decide (lo ≤ n ∧ (n : Int) ≤ hi))) ∧ Below w.heap.size w w' := by
  obtain ⟨q, hq⟩ : ∃ q, ts.all rightT = q := ⟨_, rfl⟩
  rw [hq]
  have HQ := Lib.hid hq
  have HA := Lib.hid (And.intro hn (And.intro hA hf))
  clear hq hn hA hf
  go_enter Tryz.func109, Tryz.ntmps109
  by_cases h1 : (n : Int) < lo
  · have HE : Hid ((q && decide (lo ≤ (n : Int) ∧ (n : Int) ≤ hi)) = false) := Lib.hid (by rw [decide_eq_false (by omega), Bool.and_false])
    rw [HE.out]
    go_wp2_with fail
    go_ret
    exact ⟨rfl, Below.refl _ _⟩
  · by_cases h2 : hi < (n : Int)
    · have HE : Hid ((q && decide (lo ≤ (n : Int) ∧ (n : Int) ≤ hi)) = false) := Lib.hid (by rw [decide_eq_false (by omega), Bool.and_false])
      rw [HE.out]
      go_wp2_with fail
      go_ret
      exact ⟨rfl, Below.refl _ _⟩
    · have HE : Hid ((q && decide (lo ≤ (n : Int) ∧ (n : Int) ≤ hi)) = q) := Lib.hid (by rw [decide_eq_true (by omega), Bool.and_true])
      rw [HE.out]
      clear HE
      go_wp2_with fail
      go_loopw [23] (fun v wr => ∃ i : Nat, v = .int .i64 i ∧ i ≤ n ∧ Hid (Below w.heap.size w wr ∧ ∀ j (h : j < ts.length), j < i → rightT ts[j] = true)) (fun v _ => n - (intOf v).toNat)
      case atStart => exact ⟨0, rfl, by omega, ⟨Below.refl _ _, fun j _ hj => absurd hj (by omega)⟩⟩
      case round =>
        obtain ⟨i, rfl, hin, hrel⟩ := hrel
        by_cases hlt : i < n
        · have g1 : (i : Int) < (n : Int) := by omega
          obtain ⟨hn, hA, hf⟩ := HA.out
          have l0 : i < ts.length := by omega
          obtain ⟨b, off, s, u, e1, c0, c1, hs, hu⟩ := (hA.keep hrel.out.1).get l0
          subst e1
          have hl := hf _ (List.getElem_mem l0)
          have n1 := hs.size
          have n2 := hu.size
          have hC := fun W => check_calls hs hu (by omega) (by omega) W
          obtain ⟨r, hr⟩ : ∃ r, chkT ts[i] = r := ⟨_, rfl⟩
          rw [hr] at hC
          have HC := Lib.hid hC
          have HR := Lib.hid hr
          have hb1 := hrel.out.1.alloc hrel.out.1.size (.cells #[.string s, .string u] 54)
          have HB := Lib.hid hb1
          clear hn hA hf hC hr hb1 hs hu hl n1 n2
          go_wp2_with fail
          refine (HC.out _).mono ?_
          rintro e w2 ⟨rfl, hb⟩
          have HB2 := Lib.hid (below_then HB.out hb)
          clear hb HB HC c0 c1
          by_cases hr0 : r = 0
          · have HE := Lib.hid (chkT_ok.1 (HR.out.trans hr0))
            go_wp2_with fail
            refine ⟨⟨i + 1, by go_num, by omega, ⟨HB2.out, fun j h hj => ?_⟩⟩, by simp [intOf]; omega⟩
            rcases Nat.lt_or_ge j i with h' | h'
            · exact hrel.out.2 j h h'
            · obtain rfl : i = j := by omega
              exact HE.out
          · have HE := Lib.hid (show q = false by
              rw [← HQ.out]
              refine Bool.eq_false_iff.2 fun h => hr0 ?_
              rw [← HR.out]
              exact chkT_ok.2 (List.all_eq_true.1 h _ (List.getElem_mem l0)))
            go_wp2_with fail
            go_ret
            exact ⟨by rw [HE.out]; first | done | rfl, HB2.out⟩
        · have g1 : ¬ (i : Int) < (n : Int) := by omega
          have HE := Lib.hid (show q = true by
            rw [← HQ.out]
            refine List.all_eq_true.2 fun d hd => ?_
            obtain ⟨j, hj, rfl⟩ := List.mem_iff_getElem.1 hd
            exact hrel.out.2 j hj (by have := HA.out.1; omega))
          go_wp2_with fail
          go_ret
          exact ⟨by rw [HE.out]; first | done | rfl, hrel.out.1⟩
end Go.Proofs.YtdliookdmgilgaaGreatDoor

/-
  Package metric: what has to be right of a metric, part by part. No statement of the seat is proved here.
-/
namespace Go.Proofs.YtdliookdmgilgaaGreatDoor
open Go.RowKit
open Dc (D D0)

/-- A metric as a value. -/
def mV (s : ByteArray) (kd : Int) (A : Option Addr) (n ca : Nat) (rt : Int) (B : Option Addr) (k cb : Nat) (tm : Int) : Value :=
  .agg #[.string s, .int .i64 kd, .slice A n ca, .int .i64 rt, .slice B k cb, .int .i64 tm]
/-- Its cells read as this metric. -/
structure MIs (w : World) (s : ByteArray) (A : Option Addr) (n : Nat) (B : Option Addr) (k : Nat) (m : Mt) : Prop where
  name : Str s m.name
  vlen : m.vals.length = n
  vals : Decs w A m.vals
  tlen : m.tags.length = k
  tags : Tags w B m.tags
section
variable {w w' : World} {s : ByteArray} {A B : Option Addr} {n k : Nat} {m : Mt}
theorem MIs.keep (h : MIs w s A n B k m) (hb : Below w.heap.size w w') : MIs w' s A n B k m := ⟨h.name, h.vlen, h.vals.keep hb, h.tlen, h.tags.keep hb⟩
theorem MIs.alloc (h : MIs w s A n B k m) (o : Obj) : MIs (w.alloc o) s A n B k m := h.keep ((Below.refl _ _).alloc (Nat.le_refl _) o)
theorem MIs.drew (h : MIs w s A n B k m) : MIs w.drew s A n B k m := h.keep (Same.below (Same.drewN w 1))
end

/-- These blocks, and these metrics, lie so, and nothing old has changed. -/
structure Kb (w0 : World) (L : List (Nat × TypeId × List Value)) (M : List (ByteArray × Option Addr × Nat × Option Addr × Nat × Mt)) (w : World) : Prop where
  kept : Below w0.heap.size w0 w
  box : ∀ x ∈ L, Box w x.1 x.2.1 x.2.2
  met : ∀ x ∈ M, MIs w x.1 x.2.1 x.2.2.1 x.2.2.2.1 x.2.2.2.2.1 x.2.2.2.2.2
section
variable {w0 w w' : World} {L : List (Nat × TypeId × List Value)} {M : List (ByteArray × Option Addr × Nat × Option Addr × Nat × Mt)}
theorem Kb.start (w : World) : Kb w [] [] w := ⟨Below.refl _ _, by simp, by simp⟩
theorem Kb.next (h : Kb w0 L M w) (k : Below w.heap.size w w') : Kb w0 L M w' := ⟨below_then h.kept k, fun x hx => (h.box x hx).keep k, fun x hx => (h.met x hx).keep k⟩
theorem Kb.drew (h : Kb w0 L M w) : Kb w0 L M w.drew := h.next (Same.below (Same.drewN w 1))
theorem Kb.alloc (h : Kb w0 L M w) (o : Obj) : Kb w0 L M (w.alloc o) := h.next ((Below.refl _ _).alloc (Nat.le_refl _) o)
theorem Kb.add (h : Kb w0 L M w) {g : Nat} {t : TypeId} {cs : List Value} (hb : Box w g t cs) : Kb w0 ((g, t, cs) :: L) M w := ⟨h.kept, fun x hx => by
  rcases List.mem_cons.1 hx with rfl | hx
  · exact hb
  · exact h.box x hx, h.met⟩
theorem Kb.push (h : Kb w0 L M w) (t : TypeId) (cs : List Value) : Kb w0 ((w.heap.size, t, cs) :: L) M (w.alloc (.cells cs.toArray t)) := (h.alloc _).add (Box.new w t cs)
theorem Kb.pushAt (h : Kb w0 L M w) {g : Nat} (hg : w.heap.size = g) (t : TypeId) (cs : List Value) : Kb w0 ((g, t, cs) :: L) M (w.alloc (.cells cs.toArray t)) := by subst hg; exact h.push t cs
theorem Kb.mAdd (h : Kb w0 L M w) {s : ByteArray} {A B : Option Addr} {n k : Nat} {m : Mt} (hm : MIs w s A n B k m) : Kb w0 L ((s, A, n, B, k, m) :: M) w := ⟨h.kept, h.box, fun x hx => by
  rcases List.mem_cons.1 hx with rfl | hx
  · exact hm
  · exact h.met x hx⟩
theorem Kb.cell (h : Kb w0 L M w) {g i : Nat} {t : TypeId} {cs : List Value} {v : Value} (hm : (g, t, cs) ∈ L) (hv : cs[i]? = some v) : w.cell? ⟨g, i, none⟩ = some v := ((h.box _ hm).cell i).trans hv
theorem Kb.m (h : Kb w0 L M w) {s : ByteArray} {A B : Option Addr} {n k : Nat} {m : Mt} (hm : (s, A, n, B, k, m) ∈ M) : MIs w s A n B k m := h.met _ hm
end

def codeIf (b : Bool) (c : Int) : Int := if b = true then 0 else c
def mC (s : ByteArray) (kd : Int) (A : Option Addr) (n ca : Nat) (rt : Int) (B : Option Addr) (k cb : Nat) (tm : Int) : List Value :=
  [.string s, .int .i64 kd, .slice A n ca, .int .i64 rt, .slice B k cb, .int .i64 tm]

section
variable {s : ByteArray} {A B : Option Addr} {n k ca cb : Nat} {m : Mt} {kd rt tm : Int}

structure NameS (w0 : World) (s : ByteArray) (g : Nat) (w : World) : Prop where
  kept : Below w0.heap.size w0 w
  str : w.cell? ⟨w0.heap.size, 0, none⟩ = some (.string s)
  none_ : Box w (w0.heap.size + 1) 34 [.int .i64 0, .int .i64 0]
theorem NameS.next {w0 w w' : World} {g : Nat} (h : NameS w0 s g w) (k : Below w.heap.size w w') : NameS w0 s g w' := ⟨below_then h.kept k, (k.cell (cell_lt h.str)).trans h.str, h.none_.keep k⟩
theorem NameS.cells {w0 w : World} {g : Nat} (h : NameS w0 s g w) : w.cell? ⟨w0.heap.size, 0, none⟩ = some (.string s) ∧ w.cell? ⟨w0.heap.size + 1, 0, none⟩ = some (.int .i64 0) ∧ w.cell? ⟨w0.heap.size + 1, 1, none⟩ = some (.int .i64 0) ∧ NameS w0 s g w := ⟨h.str, h.none_.cell 0, h.none_.cell 1, h⟩
theorem NameS.of {w0 w : World} {g : Nat} {P1 P2 P3 : Prop} (h : P1 ∧ P2 ∧ P3 ∧ NameS w0 s g w) : NameS w0 s g w := h.2.2.2
theorem NameS.start (w : World) (t : TypeId) (cs : List Value) : NameS w s 0 ((w.alloc (.cells (Value.string s :: cs).toArray t)).alloc (.cells #[.int .i64 0, .int .i64 0] 34)) :=
  ⟨((Below.refl _ _).alloc (Nat.le_refl _) _).alloc (by rw [size_alloc]; omega) _, ((Box.new w t (Value.string s :: cs)).alloc _).cell 0, by have := Box.new (w.alloc (.cells (Value.string s :: cs).toArray t)) 34 [.int .i64 0, .int .i64 0]; rwa [size_alloc] at this⟩

set_option maxRecDepth 100000 in
set_option maxHeartbeats 2000000 in
theorem name_calls {l : List UInt8} (hs : Str s l) (hz : l.length ≤ 1000) (w : World) :
    Calls Tryz.prog 75 #[mV s kd A n ca rt B k cb tm] w fun e w' => e = .returned (.int .i64 (codeIf (nameR l) 15)) ∧ Below w.heap.size w w' := by
  obtain ⟨x, y, hxy⟩ : ∃ x y, faultOf 1 l 1 200 = (x, y) := ⟨_, _, rfl⟩
  have n1 := hs.size
  obtain ⟨p, hp⟩ : ∃ p, decide ((x, y) = ((0, 0) : Int × Int)) = p := ⟨_, rfl⟩
  have hc : nameR l = p := by unfold nameR; rw [hxy, hp]
  have HK := Lib.hid (fun w' (h : NameS w s 0 w') => (ctext_says (c := 1) (lo := 1) (hi := 200) hs (by omega) hxy w').mono fun e w'' (k : _ ∧ _) => And.intro k.1 (h.next k.2))
  have k1 := fne_run hp
  have hg := fguard
  rw [hc]
  unfold mV
  have HS := Lib.hid ((NameS.start (s := s) w 107 [.int .i64 kd, .slice A n ca, .int .i64 rt, .slice B k cb, .int .i64 tm]).next (Same.below (Same.drewN _ 1)))
  clear hxy hs hp hc n1
  go_enter Tryz.func75, Tryz.ntmps75
  go_wp2_with fail
  go_region_held3 (fun w' => w'.cell? ⟨w.heap.size, 0, none⟩ = some (.string s) ∧ w'.cell? ⟨w.heap.size + 1, 0, none⟩ = some (.int .i64 0) ∧ w'.cell? ⟨w.heap.size + 1, 1, none⟩ = some (.int .i64 0) ∧ NameS w s 0 w')
    (first | exact NameS.cells HS.out | exact NameS.cells HB6.out)
    (first | (go_at_call 33; refine (HK.out _ (NameS.of (by assumption))).mono ?_; rintro e w6 ⟨rfl, hb6⟩; have HB6 := Lib.hid hb6; clear hb6))
  all_goals
    cases p
    all_goals
      go_wp2_with fail
      go_ret
      exact ⟨rfl, HB6.out.kept⟩

theorem m_below (w : World) (o : Obj) : Below w.heap.size w (w.alloc o) := (Below.refl _ _).alloc (Nat.le_refl _) _

set_option maxRecDepth 100000 in
theorem kind_calls (w : World) : Calls Tryz.prog 76 #[mV s kd A n ca rt B k cb tm] w fun e w' => e = .returned (.int .i64 (codeIf (kindR kd) 16)) ∧ Below w.heap.size w w' := by
  unfold mV
  have HB := Lib.hid (m_below w (.cells #[.string s, .int .i64 kd, .slice A n ca, .int .i64 rt, .slice B k cb, .int .i64 tm] 107))
  obtain ⟨q, hq⟩ : ∃ q, codeIf (kindR kd) 16 = q := ⟨_, rfl⟩
  rw [hq]
  have HQ := Lib.hid hq
  clear hq
  go_enter Tryz.func76, Tryz.ntmps76
  rcases (by omega : kd < 1 ∨ (¬ kd < 1 ∧ 5 < kd) ∨ (¬ kd < 1 ∧ ¬ 5 < kd)) with h | ⟨h, h2⟩ | ⟨h, h2⟩
  · have HE := Lib.hid (show q = 16 by rw [← HQ.out]; unfold kindR; rw [decide_eq_false (by omega)]; rfl)
    go_wp2_with fail
    go_ret
    exact ⟨by rw [HE.out]; rfl, HB.out⟩
  · have HE := Lib.hid (show q = 16 by rw [← HQ.out]; unfold kindR; rw [decide_eq_false (by omega)]; rfl)
    go_wp2_with fail
    go_ret
    exact ⟨by rw [HE.out]; rfl, HB.out⟩
  · have HE := Lib.hid (show q = 0 by rw [← HQ.out]; unfold kindR; rw [decide_eq_true (by omega)]; rfl)
    go_wp2_with fail
    go_ret
    exact ⟨by rw [HE.out]; rfl, HB.out⟩

set_option maxRecDepth 100000 in
theorem time_calls (w : World) : Calls Tryz.prog 80 #[mV s kd A n ca rt B k cb tm] w fun e w' => e = .returned (.int .i64 (codeIf (timeR tm) 20)) ∧ Below w.heap.size w w' := by
  unfold mV
  have HB := Lib.hid (m_below w (.cells #[.string s, .int .i64 kd, .slice A n ca, .int .i64 rt, .slice B k cb, .int .i64 tm] 107))
  obtain ⟨q, hq⟩ : ∃ q, codeIf (timeR tm) 20 = q := ⟨_, rfl⟩
  rw [hq]
  have HQ := Lib.hid hq
  clear hq
  go_enter Tryz.func80, Tryz.ntmps80
  rcases (by omega : tm < 0 ∨ (¬ tm < 0 ∧ 1099511627776 < tm) ∨ (¬ tm < 0 ∧ ¬ 1099511627776 < tm)) with h | ⟨h, h2⟩ | ⟨h, h2⟩
  · have HE := Lib.hid (show q = 20 by rw [← HQ.out]; unfold timeR; rw [decide_eq_false (by omega)]; rfl)
    go_wp2_with fail
    go_ret
    exact ⟨by rw [HE.out]; rfl, HB.out⟩
  · have HE := Lib.hid (show q = 20 by rw [← HQ.out]; unfold timeR; rw [decide_eq_false (by omega)]; rfl)
    go_wp2_with fail
    go_ret
    exact ⟨by rw [HE.out]; rfl, HB.out⟩
  · have HE := Lib.hid (show q = 0 by rw [← HQ.out]; unfold timeR; rw [decide_eq_true (by omega)]; rfl)
    go_wp2_with fail
    go_ret
    exact ⟨by rw [HE.out]; rfl, HB.out⟩

set_option maxRecDepth 100000 in
theorem rate_calls (w : World) : Calls Tryz.prog 78 #[mV s kd A n ca rt B k cb tm] w fun e w' => e = .returned (.int .i64 (codeIf (rateR kd rt) 18)) ∧ Below w.heap.size w w' := by
  unfold mV
  have HB := Lib.hid (m_below w (.cells #[.string s, .int .i64 kd, .slice A n ca, .int .i64 rt, .slice B k cb, .int .i64 tm] 107))
  obtain ⟨q, hq⟩ : ∃ q, codeIf (rateR kd rt) 18 = q := ⟨_, rfl⟩
  rw [hq]
  have HQ := Lib.hid hq
  clear hq
  go_enter Tryz.func78, Tryz.ntmps78
  rcases (by omega : rt < 1 ∨ (¬ rt < 1 ∧ 1000000 < rt) ∨ (¬ rt < 1 ∧ ¬ 1000000 < rt ∧ kd = 2 ∧ rt ≠ 1000000) ∨ (kd = 2 ∧ rt = 1000000) ∨ (¬ rt < 1 ∧ ¬ 1000000 < rt ∧ kd ≠ 2)) with h | ⟨h, h2⟩ | ⟨h, h2, h3, h4⟩ | ⟨h, h2⟩ | ⟨h, h2, h3⟩
  · have HE := Lib.hid (show q = 18 by rw [← HQ.out]; unfold rateR; rw [decide_eq_false (by omega)]; rfl)
    go_wp2_with fail
    go_ret
    exact ⟨by rw [HE.out]; rfl, HB.out⟩
  · have HE := Lib.hid (show q = 18 by rw [← HQ.out]; unfold rateR; rw [decide_eq_false (by omega)]; rfl)
    go_wp2_with fail
    go_ret
    exact ⟨by rw [HE.out]; rfl, HB.out⟩
  · subst h3
    have HE := Lib.hid (show q = 18 by rw [← HQ.out]; unfold rateR; rw [decide_eq_false (by omega)]; rfl)
    go_wp2_with fail
    go_ret
    exact ⟨by rw [HE.out]; rfl, HB.out⟩
  · subst h h2
    have HE := Lib.hid (show q = 0 by rw [← HQ.out]; unfold rateR; rw [decide_eq_true (by omega)]; rfl)
    go_wp2_with fail
    go_ret
    exact ⟨by rw [HE.out]; rfl, HB.out⟩
  · have HE := Lib.hid (show q = 0 by rw [← HQ.out]; unfold rateR; rw [decide_eq_true (by omega)]; rfl)
    go_wp2_with fail
    go_ret
    exact ⟨by rw [HE.out]; rfl, HB.out⟩

set_option maxRecDepth 100000 in
theorem values_calls {ds : List D} {w : World} (hn : ds.length = n) (hA : Decs w A ds) (hz : n ≤ 1000) (hf : ∀ d ∈ ds, d.Fits) : Calls Tryz.prog 77 #[mV s kd A n ca rt B k cb tm] w fun e w' => e = .returned (.int .i64 (codeIf (valsR (okV ds) ds.length) 17)) ∧ Below w.heap.size w w' := by
  have hb := m_below w (.cells #[.string s, .int .i64 kd, .slice A n ca, .int .i64 rt, .slice B k cb, .int .i64 tm] 107)
  have hC := allD_calls (cap := ca) hn (hA.keep hb) hz hf 1 64
  obtain ⟨q, hq⟩ : ∃ q, (okV ds && decide ((1 : Int) ≤ n ∧ (n : Int) ≤ 64)) = q := ⟨_, rfl⟩
  have hv : valsR (okV ds) ds.length = q := by
    rw [← hq, hn]; unfold valsR; congr 1; exact decide_eq_decide.2 (by omega)
  rw [hv]
  rw [hq] at hC
  have HC := Lib.hid hC
  have HB := Lib.hid hb
  clear hn hA hf hb hC hq hv
  unfold mV
  go_enter Tryz.func77, Tryz.ntmps77
  go_wp2_with fail
  refine HC.out.mono ?_
  rintro e w2 ⟨rfl, hb⟩
  have HB2 := Lib.hid (below_then HB.out hb)
  clear hb HB HC
  cases q
  all_goals
    go_wp2_with fail
    go_ret
    exact ⟨rfl, HB2.out⟩

set_option maxRecDepth 100000 in
theorem tags_calls {ts : List Tg} {w : World} (hn : ts.length = k) (hA : Tags w B ts) (hz : k ≤ 1000) (hf : ∀ t ∈ ts, t.1.length ≤ 1000 ∧ t.2.length ≤ 1000) : Calls Tryz.prog 79 #[mV s kd A n ca rt B k cb tm] w fun e w' => e = .returned (.int .i64 (codeIf (tagsR ts) 19)) ∧ Below w.heap.size w w' := by
  have hb := m_below w (.cells #[.string s, .int .i64 kd, .slice A n ca, .int .i64 rt, .slice B k cb, .int .i64 tm] 107)
  have hC := allT_calls (cap := cb) hn (hA.keep hb) hz hf 0 32
  obtain ⟨q, hq⟩ : ∃ q, (ts.all rightT && decide ((0 : Int) ≤ k ∧ (k : Int) ≤ 32)) = q := ⟨_, rfl⟩
  have hv : tagsR ts = q := by
    rw [← hq]; unfold tagsR; rw [hn, Bool.and_comm]; congr 1; exact decide_eq_decide.2 (by omega)
  rw [hv]
  rw [hq] at hC
  have HC := Lib.hid hC
  have HB := Lib.hid hb
  clear hn hA hf hb hC hq hv
  unfold mV
  go_enter Tryz.func79, Tryz.ntmps79
  go_wp2_with fail
  refine HC.out.mono ?_
  rintro e w2 ⟨rfl, hb⟩
  have HB2 := Lib.hid (below_then HB.out hb)
  clear hb HB HC
  cases q
  all_goals
    go_wp2_with fail
    go_ret
    exact ⟨rfl, HB2.out⟩
end
end Go.Proofs.YtdliookdmgilgaaGreatDoor

/-
  Package metric: Check. No statement of the seat is proved here.
-/
namespace Go.Proofs.YtdliookdmgilgaaGreatDoor
open Go.RowKit
open Dc (D D0)

theorem check_first {m : Mt} {c0 c1 c2 c3 c4 c5 : Int} (h0 : codeIf (nameR m.name) 15 = c0) (h1 : codeIf (kindR m.kind) 16 = c1) (h2 : codeIf (valsR (okV m.vals) m.vals.length) 17 = c2) (h3 : codeIf (rateR m.kind m.rate) 18 = c3) (h4 : codeIf (tagsR m.tags) 19 = c4) (h5 : codeIf (timeR m.time) 20 = c5) :
    checkM m = if c0 ≠ 0 then c0 else if c1 ≠ 0 then c1 else if c2 ≠ 0 then c2 else if c3 ≠ 0 then c3 else if c4 ≠ 0 then c4 else if c5 ≠ 0 then c5 else 0 := by
  subst h0 h1 h2 h3 h4 h5
  unfold checkM restM codeIf
  cases nameR m.name <;> cases kindR m.kind <;> cases valsR (okV m.vals) m.vals.length <;> cases rateR m.kind m.rate <;> cases tagsR m.tags <;> cases timeR m.time <;> simp

/-- The row of what has to be right. -/
def rowV (v : Value) : List Value := [.func (.func 75) #[v] #[], .func (.func 76) #[v] #[], .func (.func 77) #[v] #[], .func (.func 78) #[v] #[], .func (.func 79) #[v] #[], .func (.func 80) #[v] #[]]

set_option maxRecDepth 100000 in
set_option maxHeartbeats 8000000 in
theorem mcheck_calls {w : World} {s : ByteArray} {A B : Option Addr} {n k ca cb : Nat} {m : Mt} (h : MIs w s A n B k m) (hz : Small m) :
    Calls Tryz.prog 44 #[mV s m.kind A n ca m.rate B k cb m.time] w fun e w' => e = .returned (.int .i64 (checkM m)) ∧ Below w.heap.size w w' := by
  obtain ⟨c0, h0⟩ : ∃ c, codeIf (nameR m.name) 15 = c := ⟨_, rfl⟩
  obtain ⟨c1, h1⟩ : ∃ c, codeIf (kindR m.kind) 16 = c := ⟨_, rfl⟩
  obtain ⟨c2, h2⟩ : ∃ c, codeIf (valsR (okV m.vals) m.vals.length) 17 = c := ⟨_, rfl⟩
  obtain ⟨c3, h3⟩ : ∃ c, codeIf (rateR m.kind m.rate) 18 = c := ⟨_, rfl⟩
  obtain ⟨c4, h4⟩ : ∃ c, codeIf (tagsR m.tags) 19 = c := ⟨_, rfl⟩
  obtain ⟨c5, h5⟩ : ∃ c, codeIf (timeR m.time) 20 = c := ⟨_, rfl⟩
  have hq := check_first h0 h1 h2 h3 h4 h5
  obtain ⟨q, hq0⟩ : ∃ q, checkM m = q := ⟨_, rfl⟩
  rw [hq0] at hq ⊢
  have HQ := Lib.hid hq
  have hN := fun W => name_calls (kd := m.kind) (A := A) (n := n) (ca := ca) (rt := m.rate) (B := B) (k := k) (cb := cb) (tm := m.time) h.name hz.name W
  have hK := fun W => kind_calls (s := s) (kd := m.kind) (A := A) (n := n) (ca := ca) (rt := m.rate) (B := B) (k := k) (cb := cb) (tm := m.time) W
  have hV := fun W (b : Below w.heap.size w W) => values_calls (s := s) (kd := m.kind) (ca := ca) (rt := m.rate) (B := B) (k := k) (cb := cb) (tm := m.time) h.vlen (h.vals.keep b) (by have := h.vlen; have := hz.vals; omega) hz.fits
  have hR := fun W => rate_calls (s := s) (kd := m.kind) (A := A) (n := n) (ca := ca) (rt := m.rate) (B := B) (k := k) (cb := cb) (tm := m.time) W
  have hT := fun W (b : Below w.heap.size w W) => tags_calls (s := s) (kd := m.kind) (A := A) (n := n) (ca := ca) (rt := m.rate) (cb := cb) (tm := m.time) h.tlen (h.tags.keep b) (by have := h.tlen; have := hz.tags; omega) hz.lens
  have hM := fun W => time_calls (s := s) (kd := m.kind) (A := A) (n := n) (ca := ca) (rt := m.rate) (B := B) (k := k) (cb := cb) (tm := m.time) W
  rw [h0] at hN
  rw [h1] at hK
  rw [h2] at hV
  rw [h3] at hR
  rw [h4] at hT
  rw [h5] at hM
  clear h0 h1 h2 h3 h4 h5 hq hq0 h hz
  generalize m.kind = kd at *
  generalize m.rate = rt at *
  generalize m.time = tm at *
  have HB0 := Lib.hid (((Kb.start w).push 25 (mC s kd A n ca rt B k cb tm)).push 107 (mC s kd A n ca rt B k cb tm) |>.push 108 (rowV (mV s kd A n ca rt B k cb tm)))
  rw [size_alloc, size_alloc] at HB0
  unfold mC rowV at HB0
  unfold mV at HB0 hN hK hV hR hT hM ⊢
  have HN := Lib.hid hN
  have HK := Lib.hid hK
  have HV := Lib.hid hV
  have HR := Lib.hid hR
  have HT := Lib.hid hT
  have HM := Lib.hid hM
  clear hN hK hV hR hT hM
  go_enter Tryz.func44, Tryz.ntmps44
  go_wp2_with fail
  go_loopw [22] (fun v wr => ∃ i : Nat, v = .int .i64 i ∧ i ≤ 6 ∧ Hid (Below w.heap.size w wr ∧ Box wr (w.heap.size + 1 + 1) 108 (rowV (.agg #[.string s, .int .i64 kd, .slice A n ca, .int .i64 rt, .slice B k cb, .int .i64 tm])) ∧ (0 < i → c0 = 0) ∧ (1 < i → c1 = 0) ∧ (2 < i → c2 = 0) ∧ (3 < i → c3 = 0) ∧ (4 < i → c4 = 0) ∧ (5 < i → c5 = 0))) (fun v _ => 6 - (intOf v).toNat)
  case atStart => exact ⟨0, rfl, by omega, ⟨HB0.out.kept, HB0.out.box _ (by simp; left; rfl), by omega, by omega, by omega, by omega, by omega, by omega⟩⟩
  case round =>
    obtain ⟨i, rfl, hi, hrel⟩ := hrel
    clear HB0
    obtain ⟨k0, k1, k2, k3, k4, k5⟩ := hrel.out.2.2
    rcases (by omega : i = 0 ∨ i = 1 ∨ i = 2 ∨ i = 3 ∨ i = 4 ∨ i = 5 ∨ i = 6) with rfl | rfl | rfl | rfl | rfl | rfl | rfl
    · have cc : wr.cell? ⟨w.heap.size + 1 + 1, 0, none⟩ = some (.func (.func 75) #[.agg #[.string s, .int .i64 kd, .slice A n ca, .int .i64 rt, .slice B k cb, .int .i64 tm]] #[]) := hrel.out.2.1.cell 0
      have HKK := Lib.hid (And.intro k0 (And.intro k1 (And.intro k2 (And.intro k3 (And.intro k4 k5)))))
      clear k0 k1 k2 k3 k4 k5
      go_wp2_with fail
      refine (HN.out _).mono ?_
      rintro e w2 ⟨rfl, hb⟩
      have HB2 := Lib.hid (And.intro (below_then hrel.out.1 hb) (hrel.out.2.1.keep hb))
      clear hb cc
      by_cases hc : c0 = 0
      · have HC := Lib.hid hc
        go_wp2_with fail
        refine ⟨⟨1, by first | rfl | go_num, by omega, ⟨HB2.out.1, HB2.out.2, fun _ => HC.out, by omega, by omega, by omega, by omega, by omega⟩⟩, by simp [intOf]⟩
      · have HE := Lib.hid (show q = c0 by
          have h := HQ.out
          obtain ⟨k0, k1, k2, k3, k4, k5⟩ := HKK.out
          rw [ if_pos hc] at h
          exact h)
        go_wp2_with fail
        go_ret
        exact ⟨by rw [HE.out]; rfl, HB2.out.1⟩
    · have cc : wr.cell? ⟨w.heap.size + 1 + 1, 1, none⟩ = some (.func (.func 76) #[.agg #[.string s, .int .i64 kd, .slice A n ca, .int .i64 rt, .slice B k cb, .int .i64 tm]] #[]) := hrel.out.2.1.cell 1
      have HKK := Lib.hid (And.intro k0 (And.intro k1 (And.intro k2 (And.intro k3 (And.intro k4 k5)))))
      clear k0 k1 k2 k3 k4 k5
      go_wp2_with fail
      refine (HK.out _).mono ?_
      rintro e w2 ⟨rfl, hb⟩
      have HB2 := Lib.hid (And.intro (below_then hrel.out.1 hb) (hrel.out.2.1.keep hb))
      clear hb cc
      by_cases hc : c1 = 0
      · have HC := Lib.hid hc
        go_wp2_with fail
        refine ⟨⟨2, by first | rfl | go_num, by omega, ⟨HB2.out.1, HB2.out.2, fun _ => HKK.out.1 (by omega), fun _ => HC.out, by omega, by omega, by omega, by omega⟩⟩, by simp [intOf]⟩
      · have HE := Lib.hid (show q = c1 by
          have h := HQ.out
          obtain ⟨k0, k1, k2, k3, k4, k5⟩ := HKK.out
          rw [if_neg (not_not_intro (k0 (by omega))), if_pos hc] at h
          exact h)
        go_wp2_with fail
        go_ret
        exact ⟨by rw [HE.out]; rfl, HB2.out.1⟩
    · have cc : wr.cell? ⟨w.heap.size + 1 + 1, 2, none⟩ = some (.func (.func 77) #[.agg #[.string s, .int .i64 kd, .slice A n ca, .int .i64 rt, .slice B k cb, .int .i64 tm]] #[]) := hrel.out.2.1.cell 2
      have HKK := Lib.hid (And.intro k0 (And.intro k1 (And.intro k2 (And.intro k3 (And.intro k4 k5)))))
      clear k0 k1 k2 k3 k4 k5
      go_wp2_with fail
      refine (HV.out _ hrel.out.1).mono ?_
      rintro e w2 ⟨rfl, hb⟩
      have HB2 := Lib.hid (And.intro (below_then hrel.out.1 hb) (hrel.out.2.1.keep hb))
      clear hb cc
      by_cases hc : c2 = 0
      · have HC := Lib.hid hc
        go_wp2_with fail
        refine ⟨⟨3, by first | rfl | go_num, by omega, ⟨HB2.out.1, HB2.out.2, fun _ => HKK.out.1 (by omega), fun _ => HKK.out.2.1 (by omega), fun _ => HC.out, by omega, by omega, by omega⟩⟩, by simp [intOf]⟩
      · have HE := Lib.hid (show q = c2 by
          have h := HQ.out
          obtain ⟨k0, k1, k2, k3, k4, k5⟩ := HKK.out
          rw [if_neg (not_not_intro (k0 (by omega))), if_neg (not_not_intro (k1 (by omega))), if_pos hc] at h
          exact h)
        go_wp2_with fail
        go_ret
        exact ⟨by rw [HE.out]; rfl, HB2.out.1⟩
    · have cc : wr.cell? ⟨w.heap.size + 1 + 1, 3, none⟩ = some (.func (.func 78) #[.agg #[.string s, .int .i64 kd, .slice A n ca, .int .i64 rt, .slice B k cb, .int .i64 tm]] #[]) := hrel.out.2.1.cell 3
      have HKK := Lib.hid (And.intro k0 (And.intro k1 (And.intro k2 (And.intro k3 (And.intro k4 k5)))))
      clear k0 k1 k2 k3 k4 k5
      go_wp2_with fail
      refine (HR.out _).mono ?_
      rintro e w2 ⟨rfl, hb⟩
      have HB2 := Lib.hid (And.intro (below_then hrel.out.1 hb) (hrel.out.2.1.keep hb))
      clear hb cc
      by_cases hc : c3 = 0
      · have HC := Lib.hid hc
        go_wp2_with fail
        refine ⟨⟨4, by first | rfl | go_num, by omega, ⟨HB2.out.1, HB2.out.2, fun _ => HKK.out.1 (by omega), fun _ => HKK.out.2.1 (by omega), fun _ => HKK.out.2.2.1 (by omega), fun _ => HC.out, by omega, by omega⟩⟩, by simp [intOf]⟩
      · have HE := Lib.hid (show q = c3 by
          have h := HQ.out
          obtain ⟨k0, k1, k2, k3, k4, k5⟩ := HKK.out
          rw [if_neg (not_not_intro (k0 (by omega))), if_neg (not_not_intro (k1 (by omega))), if_neg (not_not_intro (k2 (by omega))), if_pos hc] at h
          exact h)
        go_wp2_with fail
        go_ret
        exact ⟨by rw [HE.out]; rfl, HB2.out.1⟩
    · have cc : wr.cell? ⟨w.heap.size + 1 + 1, 4, none⟩ = some (.func (.func 79) #[.agg #[.string s, .int .i64 kd, .slice A n ca, .int .i64 rt, .slice B k cb, .int .i64 tm]] #[]) := hrel.out.2.1.cell 4
      have HKK := Lib.hid (And.intro k0 (And.intro k1 (And.intro k2 (And.intro k3 (And.intro k4 k5)))))
      clear k0 k1 k2 k3 k4 k5
      go_wp2_with fail
      refine (HT.out _ hrel.out.1).mono ?_
      rintro e w2 ⟨rfl, hb⟩
      have HB2 := Lib.hid (And.intro (below_then hrel.out.1 hb) (hrel.out.2.1.keep hb))
      clear hb cc
      by_cases hc : c4 = 0
      · have HC := Lib.hid hc
        go_wp2_with fail
        refine ⟨⟨5, by first | rfl | go_num, by omega, ⟨HB2.out.1, HB2.out.2, fun _ => HKK.out.1 (by omega), fun _ => HKK.out.2.1 (by omega), fun _ => HKK.out.2.2.1 (by omega), fun _ => HKK.out.2.2.2.1 (by omega), fun _ => HC.out, by omega⟩⟩, by simp [intOf]⟩
      · have HE := Lib.hid (show q = c4 by
          have h := HQ.out
          obtain ⟨k0, k1, k2, k3, k4, k5⟩ := HKK.out
          rw [if_neg (not_not_intro (k0 (by omega))), if_neg (not_not_intro (k1 (by omega))), if_neg (not_not_intro (k2 (by omega))), if_neg (not_not_intro (k3 (by omega))), if_pos hc] at h
          exact h)
        go_wp2_with fail
        go_ret
        exact ⟨by rw [HE.out]; rfl, HB2.out.1⟩
    · have cc : wr.cell? ⟨w.heap.size + 1 + 1, 5, none⟩ = some (.func (.func 80) #[.agg #[.string s, .int .i64 kd, .slice A n ca, .int .i64 rt, .slice B k cb, .int .i64 tm]] #[]) := hrel.out.2.1.cell 5
      have HKK := Lib.hid (And.intro k0 (And.intro k1 (And.intro k2 (And.intro k3 (And.intro k4 k5)))))
      clear k0 k1 k2 k3 k4 k5
      go_wp2_with fail
      refine (HM.out _).mono ?_
      rintro e w2 ⟨rfl, hb⟩
      have HB2 := Lib.hid (And.intro (below_then hrel.out.1 hb) (hrel.out.2.1.keep hb))
      clear hb cc
      by_cases hc : c5 = 0
      · have HC := Lib.hid hc
        go_wp2_with fail
        refine ⟨⟨6, by first | rfl | go_num, by omega, ⟨HB2.out.1, HB2.out.2, fun _ => HKK.out.1 (by omega), fun _ => HKK.out.2.1 (by omega), fun _ => HKK.out.2.2.1 (by omega), fun _ => HKK.out.2.2.2.1 (by omega), fun _ => HKK.out.2.2.2.2.1 (by omega), fun _ => HC.out⟩⟩, by simp [intOf]⟩
      · have HE := Lib.hid (show q = c5 by
          have h := HQ.out
          obtain ⟨k0, k1, k2, k3, k4, k5⟩ := HKK.out
          rw [if_neg (not_not_intro (k0 (by omega))), if_neg (not_not_intro (k1 (by omega))), if_neg (not_not_intro (k2 (by omega))), if_neg (not_not_intro (k3 (by omega))), if_neg (not_not_intro (k4 (by omega))), if_pos hc] at h
          exact h)
        go_wp2_with fail
        go_ret
        exact ⟨by rw [HE.out]; rfl, HB2.out.1⟩
    · have HE := Lib.hid (show q = 0 by
        have h := HQ.out
        rw [if_neg (not_not_intro (k0 (by omega))), if_neg (not_not_intro (k1 (by omega))), if_neg (not_not_intro (k2 (by omega))), if_neg (not_not_intro (k3 (by omega))), if_neg (not_not_intro (k4 (by omega))), if_neg (not_not_intro (k5 (by omega)))] at h
        exact h)
      clear k0 k1 k2 k3 k4 k5
      go_wp2_with fail
      go_ret
      exact ⟨by rw [HE.out]; first | done | rfl, hrel.out.1⟩
end Go.Proofs.YtdliookdmgilgaaGreatDoor
