/-
  What of a metric a format can say, as plain data. No statement of the seat is proved here.
-/
import Derived.Test.YteffankkelbhiaaEMetric
import Derived.Test.YteffankkelbhiaaMSplit
namespace Go.Proofs.Yteffankkelbhiaa
open Go.RowKit
open Dc (D D0)

/-- What is left of a metric, ahead of its being split. -/
def bareT (m : Mt) (f : Int) : Mt := { m with tags := [], time := if f = 1 then 0 else m.time }
/-- What it is split into. -/
def onesL (m : Mt) (f : Int) : List Mt := (m.vals.map (oneM m)).filter fun x => saysM x f
/-- What a format can say of a metric that is right. -/
def cutL (m : Mt) (f : Int) : List Mt := if f = 2 ∨ f = 4 then [m] else onesL (bareT m f) f
def cutE (m : Mt) (f : Int) : Int := if known f = false then 29 else if checkM m ≠ 0 then checkM m else if cutL m f = [] then 26 else 0
/-- What Cut tells. -/
def cutR (m : Mt) (f : Int) : List Mt := if cutE m f = 0 then cutL m f else []

theorem Small.bareT {m : Mt} (h : Small m) (f : Int) : Small (bareT m f) := ⟨h.name, h.vals, h.fits, Nat.zero_le _, by intro t ht; cases ht⟩
theorem check_bareT {m : Mt} (h : checkM m = 0) (f : Int) : checkM (bareT m f) = 0 := by
  have := restM_zero.1 h
  refine restM_zero.2 ⟨this.1, this.2.1, this.2.2.1, this.2.2.2.1, rfl, ?_⟩
  show timeR (if f = 1 then 0 else m.time) = true
  split
  · rfl
  · exact this.2.2.2.2.2
theorem known_cases {f : Int} (h : known f = true) : f = 1 ∨ f = 2 ∨ f = 3 ∨ f = 4 := by
  have := of_decide_eq_true h; omega
/-- What a format can say is cut to itself alone. -/
theorem cutL_says {m : Mt} {f : Int} (hk : known f = true) (h : saysM m f = true) : cutL m f = [m] := by
  unfold cutL
  rcases known_cases hk with rfl | rfl | rfl | rfl
  · rw [if_neg (by decide)]
    have h2 := h
    unfold saysM at h2
    rw [if_pos rfl] at h2
    unfold says1 bareN at h2
    simp only [Bool.and_eq_true, decide_eq_true_eq] at h2
    obtain ⟨⟨⟨⟨h3, h4⟩, h5⟩, _⟩, _⟩ := h2
    obtain ⟨a, ha⟩ := List.length_eq_one_iff.1 h3
    have ht := List.eq_nil_of_length_eq_zero h4
    have e1 : oneM (bareT m 1) a = m := by
      unfold oneM bareT
      obtain ⟨nm, kd, vs, rt, ts, tm⟩ := m
      simp only at ha ht h5 ⊢
      rw [ha, ht, h5]; rfl
    unfold onesL
    show List.filter _ (List.map _ m.vals) = _
    rw [ha]
    simp only [List.map_cons, List.map_nil, e1, List.filter_cons, h, List.filter_nil, if_true]
  · rw [if_pos (.inl rfl)]
  · rw [if_neg (by decide)]
    have h2 := h
    unfold saysM at h2
    rw [if_neg (by decide), if_pos rfl] at h2
    unfold says3 bareN at h2
    simp only [Bool.and_eq_true, decide_eq_true_eq] at h2
    obtain ⟨⟨⟨h3, h4⟩, h5⟩, _⟩ := h2
    obtain ⟨a, ha⟩ := List.length_eq_one_iff.1 h3
    have ht := List.eq_nil_of_length_eq_zero h4
    have e1 : oneM (bareT m 3) a = m := by
      unfold oneM bareT
      obtain ⟨nm, kd, vs, rt, ts, tm⟩ := m
      simp only at ha ht h5 ⊢
      rw [ha, ht]; rfl
    unfold onesL
    show List.filter _ (List.map _ m.vals) = _
    rw [ha]
    simp only [List.map_cons, List.map_nil, e1, List.filter_cons, h, List.filter_nil, if_true]
  · rw [if_pos (.inr rfl)]
theorem saysM_any {m : Mt} {f : Int} (h : f = 2 ∨ f = 4) : saysM m f = true := by
  unfold saysM
  rw [if_neg (by omega), if_neg (by omega)]
/-- What it is cut to the format can say. -/
theorem cutL_all {m : Mt} {f : Int} : ∀ x ∈ cutL m f, saysM x f = true := by
  intro x hx
  unfold cutL at hx
  split at hx
  · exact saysM_any (by assumption)
  · exact (List.mem_filter.1 hx).2
theorem cutL_check {m : Mt} {f : Int} (h : checkM m = 0) : ∀ x ∈ cutL m f, checkM x = 0 := by
  intro x hx
  unfold cutL at hx
  split at hx
  · rcases List.mem_singleton.1 hx with rfl
    exact h
  · obtain ⟨d, hd, rfl⟩ := List.mem_map.1 (List.mem_filter.1 hx).1
    exact check_one (check_bareT h f) hd
theorem cutL_same {m : Mt} {f : Int} : ∀ x ∈ cutL m f, x.name = m.name ∧ x.kind = m.kind ∧ x.rate = m.rate := by
  intro x hx
  unfold cutL at hx
  split at hx
  · rcases List.mem_singleton.1 hx with rfl
    exact ⟨rfl, rfl, rfl⟩
  · obtain ⟨d, hd, rfl⟩ := List.mem_map.1 (List.mem_filter.1 hx).1
    exact ⟨rfl, rfl, rfl⟩
theorem cutL_small {m : Mt} {f : Int} (h : Small m) : ∀ x ∈ cutL m f, Small x := by
  intro x hx
  unfold cutL at hx
  split at hx
  · rcases List.mem_singleton.1 hx with rfl
    exact h
  · obtain ⟨d, hd, rfl⟩ := List.mem_map.1 (List.mem_filter.1 hx).1
    exact (h.bareT f).one hd
theorem cutL_len {m : Mt} {f : Int} (h : Small m) : (cutL m f).length ≤ 1000 := by
  unfold cutL
  split
  · show 1 ≤ 1000; omega
  · refine Nat.le_trans (List.length_filter_le _ _) ?_
    rw [List.length_map]
    exact h.vals
theorem metricE_zero {m : Mt} {f : Int} : metricE m f = 0 ↔ known f = true ∧ checkM m = 0 ∧ saysM m f = true := by
  unfold metricE
  cases known f
  · simp
  · by_cases hc : checkM m = 0
    · cases saysM m f <;> simp [hc]
    · simp [hc]
theorem metricE_express {m : Mt} {f : Int} (h : metricE m f = 26) (hc : checkM m ≠ 26) : known f = true ∧ checkM m = 0 ∧ saysM m f = false := by
  unfold metricE at h
  revert h
  cases known f
  · simp
  · by_cases hc : checkM m = 0
    · cases saysM m f <;> simp [hc]
    · simp only [Bool.true_eq_false, if_false, if_pos hc]
      intro h; omega
theorem restM_few (m : Mt) (ok : Bool) : restM m ok = 0 ∨ (15 ≤ restM m ok ∧ restM m ok ≤ 20) := by
  unfold restM
  repeat' split
  all_goals first | (left; rfl) | (right; decide)
theorem checkM_few (m : Mt) : checkM m = 0 ∨ (15 ≤ checkM m ∧ checkM m ≤ 20) := restM_few m _
/-- Cut's code is that of Metric, but where that cannot be said: then it may be that something of it can. -/
theorem cutE_zero {m : Mt} {f : Int} (h : metricE m f = 0) : cutE m f = 0 ∧ cutL m f = [m] := by
  obtain ⟨h1, h2, h3⟩ := metricE_zero.1 h
  have := cutL_says h1 h3
  unfold cutE
  rw [h1, if_neg (by decide), if_neg (by rw [h2]; simp), this, if_neg (by simp)]
  exact ⟨rfl, rfl⟩
theorem cutE_other {m : Mt} {f : Int} (h0 : metricE m f ≠ 0) (h : metricE m f ≠ 26) : cutE m f = metricE m f := by
  unfold cutE
  unfold metricE at h h0 ⊢
  revert h h0
  cases known f
  · simp
  · by_cases hc : checkM m = 0
    · cases saysM m f <;> simp [hc]
    · simp [hc]
theorem cutE_says {m : Mt} {f : Int} (h : metricE m f = 26) : known f = true ∧ checkM m = 0 ∧ (f = 1 ∨ f = 3) ∧ cutL m f = onesL (bareT m f) f ∧ cutE m f = if onesL (bareT m f) f = [] then 26 else 0 := by
  obtain ⟨h1, h2, h3⟩ := metricE_express h (by rcases checkM_few m with h | h <;> omega)
  have hf : f = 1 ∨ f = 3 := by
    rcases known_cases h1 with rfl | rfl | rfl | rfl
    · exact .inl rfl
    · rw [saysM_any (.inl rfl)] at h3; cases h3
    · exact .inr rfl
    · rw [saysM_any (.inr rfl)] at h3; cases h3
  have hl : cutL m f = onesL (bareT m f) f := by unfold cutL; rw [if_neg (by omega)]
  refine ⟨h1, h2, hf, hl, ?_⟩
  unfold cutE
  rw [h1, if_neg (by decide), if_neg (by rw [h2]; simp), hl]
end Go.Proofs.Yteffankkelbhiaa
