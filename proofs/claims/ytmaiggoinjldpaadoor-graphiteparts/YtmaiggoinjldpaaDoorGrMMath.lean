/-
  MMath, EMath. No statement of the seat is proved here.
-/
import Derived.Test.YtmaiggoinjldpaaDoorGrTText
import Derived.Test.YtmaiggoinjldpaaDoorGrDigs
/-
  Metrics as plain data: which are right, what their one form is. Nothing of the program.
-/
namespace Go.Proofs.YtmaiggoinjldpaaDoor
open Dc (D D0)

/-- A metric. -/
structure Mt where
  name : List UInt8
  kind : Int
  vals : List D
  rate : Int
  tags : List Tg
  time : Int
deriving DecidableEq

def M0 : Mt := ⟨[], 0, [], 0, [], 0⟩
def nameR (l : List UInt8) : Bool := decide (faultOf 1 l 1 200 = (0, 0))
def kindR (k : Int) : Bool := decide (1 ≤ k ∧ k ≤ 5)
def valsR (ok : Bool) (n : Nat) : Bool := ok && decide (1 ≤ n ∧ n ≤ 64)
def rateR (k r : Int) : Bool := decide (1 ≤ r ∧ r ≤ 1000000 ∧ (k = 2 → r = 1000000))
def tagsR (ts : List Tg) : Bool := decide (ts.length ≤ 32) && ts.all rightT
def timeR (t : Int) : Bool := decide (0 ≤ t ∧ t ≤ 1099511627776)
/-- How a metric is wrong, if its values are right, or not. -/
def restM (m : Mt) (ok : Bool) : Int :=
  if nameR m.name = false then 15 else if kindR m.kind = false then 16 else if valsR ok m.vals.length = false then 17
  else if rateR m.kind m.rate = false then 18 else if tagsR m.tags = false then 19 else if timeR m.time = false then 20 else 0
def okV (ds : List D) : Bool := ds.all fun d => decide (Dc.check d = 0)
def checkM (m : Mt) : Int := restM m (okV m.vals)
def form (d : D) : D := (Dc.normal d).getD d
def hasN (ds : List D) : Bool := ds.all fun d => (Dc.normal d).isSome
def codeM (m : Mt) : Int := restM m (hasN m.vals)
/-- Its values in their one forms. -/
def valM (m : Mt) : Mt := { m with vals := m.vals.map form }
/-- Its one form, if there is one. -/
def formM (m : Mt) : Mt := { m with vals := m.vals.map form, tags := norm m.tags }
def isM (m : Mt) : Bool := decide (checkM m = 0) && decide (m.tags = norm m.tags)
/-- What Normal tells. -/
def nM (m : Mt) : Mt := if codeM m = 0 then formM m else M0
def sameM (a b : Mt) : Bool := decide (codeM a = 0) && decide (codeM b = 0) && decide (nM a = nM b)

theorem form_check (d : D) : Dc.check (form d) = 0 ↔ (Dc.normal d).isSome = true := by
  unfold form
  rw [Dc.check_ok]
  cases h : Dc.normal d with
  | none =>
    refine ⟨fun k => ?_, fun k => by cases k⟩
    simp only [Option.getD_none] at k
    rw [Dc.normal_fix k] at h; cases h
  | some n => exact ⟨fun _ => rfl, fun _ => Dc.normal_one h⟩
theorem form_one {d : D} (h : Dc.check d = 0) : form d = d := by unfold form; rw [Dc.normal_fix (Dc.check_ok.1 h)]; rfl
theorem form_form (d : D) : form (form d) = form d := by
  cases h : Dc.normal d with
  | none => have e : form d = d := by unfold form; rw [h]; rfl
            rw [e, e]
  | some n => exact form_one ((form_check d).2 (by rw [h]; rfl))
theorem form_nVal {d : D} (h : (Dc.normal d).isSome = true) : (Dc.normal d).getD D0 = form d := by
  unfold form
  cases hn : Dc.normal d with
  | none => rw [hn] at h; cases h
  | some n => rfl

theorem okV_form (ds : List D) : okV (ds.map form) = hasN ds := by
  unfold okV hasN
  rw [List.all_map]
  congr 1
  funext d
  rw [Bool.eq_iff_iff]
  simp only [Function.comp, decide_eq_true_eq]
  exact form_check d
theorem checkM_val (m : Mt) : checkM (valM m) = codeM m := by
  show restM (valM m) (okV (m.vals.map form)) = restM m (hasN m.vals)
  rw [okV_form]
  unfold restM valM
  simp only [List.length_map]

theorem okV_hasN {ds : List D} (h : okV ds = true) : hasN ds = true := by
  unfold okV hasN at *
  rw [List.all_eq_true] at *
  intro d hd
  have := of_decide_eq_true (h d hd)
  rw [Dc.normal_fix (Dc.check_ok.1 this)]; rfl
theorem okV_map {ds : List D} (h : okV ds = true) : ds.map form = ds := by
  unfold okV at h
  rw [List.all_eq_true] at h
  exact (List.map_congr_left (g := fun d => d) fun d hd => form_one (of_decide_eq_true (h d hd))).trans (by simp)
theorem restM_zero {m : Mt} {ok : Bool} : restM m ok = 0 ↔ nameR m.name = true ∧ kindR m.kind = true ∧ valsR ok m.vals.length = true ∧ rateR m.kind m.rate = true ∧ tagsR m.tags = true ∧ timeR m.time = true := by
  unfold restM
  cases nameR m.name <;> cases kindR m.kind <;> cases valsR ok m.vals.length <;> cases rateR m.kind m.rate <;> cases tagsR m.tags <;> cases timeR m.time <;> simp
theorem valsR_ok {ok : Bool} {n : Nat} (h : valsR ok n = true) : ok = true ∧ 1 ≤ n ∧ n ≤ 64 := by
  unfold valsR at h
  rw [Bool.and_eq_true, decide_eq_true_eq] at h
  exact h
theorem checkM_ok {m : Mt} (h : checkM m = 0) : okV m.vals = true := (valsR_ok (restM_zero.1 h).2.2.1).1
theorem check_code {m : Mt} (h : checkM m = 0) : codeM m = 0 := by
  have := restM_zero.1 h
  refine restM_zero.2 ⟨this.1, this.2.1, ?_, this.2.2.2⟩
  obtain ⟨h1, h2⟩ := valsR_ok this.2.2.1
  unfold valsR
  rw [okV_hasN h1, decide_eq_true h2]; rfl
theorem tagsR_norm {ts : List Tg} (h : tagsR ts = true) : tagsR (norm ts) = true := by
  unfold tagsR at *
  rw [Bool.and_eq_true, decide_eq_true_eq] at *
  refine ⟨Nat.le_trans (norm_length ts) h.1, ?_⟩
  rw [List.all_eq_true]
  intro t ht
  exact List.all_eq_true.1 h.2 t (mem_norm.1 ht)
theorem formM_check {m : Mt} (h : codeM m = 0) : checkM (formM m) = 0 := by
  rw [← checkM_val] at h
  have := restM_zero.1 h
  exact restM_zero.2 ⟨this.1, this.2.1, this.2.2.1, this.2.2.2.1, tagsR_norm this.2.2.2.2.1, this.2.2.2.2.2⟩
theorem formM_code {m : Mt} (h : codeM m = 0) : codeM (formM m) = 0 := check_code (formM_check h)
theorem formM_formM (m : Mt) : formM (formM m) = formM m := by
  unfold formM
  simp only [List.map_map, norm_norm]
  congr 1
  refine List.map_congr_left fun d _ => form_form d
theorem isM_form {m : Mt} (h : codeM m = 0) : isM (formM m) = true := by
  unfold isM
  rw [decide_eq_true (formM_check h), decide_eq_true (show (formM m).tags = norm (formM m).tags from (norm_norm m.tags).symm)]; rfl
theorem isM_iff (m : Mt) : isM m = (decide (checkM m = 0) && decide (m = formM m)) := by
  unfold isM
  by_cases h : checkM m = 0
  · rw [decide_eq_true h, Bool.true_and, Bool.true_and]
    refine decide_eq_decide.2 ⟨fun k => ?_, fun k => congrArg Mt.tags k⟩
    obtain ⟨a, b, c, d, e, f⟩ := m
    unfold formM
    simp only [Mt.mk.injEq, true_and, and_true]
    exact ⟨(okV_map (checkM_ok h)).symm, k⟩
  · rw [decide_eq_false h, Bool.false_and, Bool.false_and]
theorem nM_ok {m : Mt} (h : codeM m = 0) : nM m = formM m := by unfold nM; rw [if_pos h]
theorem nM_no {m : Mt} (h : codeM m ≠ 0) : nM m = M0 := by unfold nM; rw [if_neg h]
theorem sameM_form {m : Mt} (h : codeM m = 0) : sameM m (formM m) = true := by
  unfold sameM
  rw [decide_eq_true h, decide_eq_true (formM_code h), nM_ok h, nM_ok (formM_code h), formM_formM, decide_eq_true rfl]; rfl
theorem sameM_no {m n : Mt} (h : codeM m ≠ 0) : sameM m n = false := by unfold sameM; rw [decide_eq_false h]; rfl
theorem sameM_comm (a b : Mt) : sameM a b = sameM b a := by
  unfold sameM
  rw [Bool.and_comm (decide (codeM a = 0)), show decide (nM a = nM b) = decide (nM b = nM a) from decide_eq_decide.2 ⟨Eq.symm, Eq.symm⟩]

/-- Not too great, and it can be held. -/
structure Small (m : Mt) : Prop where
  name : m.name.length ≤ 1000
  vals : m.vals.length ≤ 1000
  fits : ∀ d ∈ m.vals, d.Fits
  tags : m.tags.length ≤ 200
  lens : ∀ t ∈ m.tags, t.1.length ≤ 1000 ∧ t.2.length ≤ 1000
theorem form_fits {d : D} (h : d.Fits) : (form d).Fits := by
  unfold form
  cases hn : Dc.normal d with
  | none => exact h
  | some n => exact (Dc.normal_one hn).fits
theorem Small.val {m : Mt} (h : Small m) : Small (valM m) := ⟨h.name, by show (m.vals.map form).length ≤ 1000; rw [List.length_map]; exact h.vals, fun d hd => by
  obtain ⟨d', hd', rfl⟩ := List.mem_map.1 hd
  exact form_fits (h.fits d' hd'), h.tags, h.lens⟩
theorem Small.form {m : Mt} (h : Small m) : Small (formM m) := ⟨h.name, h.val.vals, h.val.fits, Nat.le_trans (norm_length _) h.tags, fun t ht => h.lens t (mem_norm.1 ht)⟩
theorem small0 : Small M0 := ⟨by decide, by decide, by simp [M0], by decide, by simp [M0]⟩
theorem Small.n {m : Mt} (h : Small m) : Small (nM m) := by
  unfold nM; split
  · exact h.form
  · exact small0
end Go.Proofs.YtmaiggoinjldpaaDoor

/-
  What a format can say, as plain data. Nothing of the program.
-/
namespace Go.Proofs.YtmaiggoinjldpaaDoor
open Dc (D D0)

def known (f : Int) : Bool := decide (1 ≤ f ∧ f ≤ 4)
/-- One value, and no tags. -/
def bareN (n k : Nat) : Bool := decide (n = 1) && decide (k = 0)
def says1 (n k : Nat) (kd tm : Int) (neg : Bool) : Bool := bareN n k && decide (tm = 0) && decide (kd ≠ 5) && !(decide (kd = 2) && neg)
def says3 (n k : Nat) (kd tm : Int) : Bool := bareN n k && decide (tm ≠ 0) && decide (kd = 2)
/-- Whether a format can say a metric that is right. -/
def saysM (m : Mt) (f : Int) : Bool :=
  if f = 1 then says1 m.vals.length m.tags.length m.kind m.time (m.vals.headD D0).neg
  else if f = 3 then says3 m.vals.length m.tags.length m.kind m.time else true
/-- Why a format cannot say a metric. -/
def metricE (m : Mt) (f : Int) : Int := if known f = false then 29 else if checkM m ≠ 0 then checkM m else if saysM m f = false then 26 else 0
end Go.Proofs.YtmaiggoinjldpaaDoor
