/-
  Rows of metrics, and what a batch is as plain data. No statement of the seat is proved here.
-/
import Derived.Test.YteffankkelbhiaaMPa
namespace Go.Proofs.Yteffankkelbhiaa
open Go.RowKit
open Dc (D D0)

/-- A metric of a row: its cells. -/
structure En where
  s : ByteArray
  A : Option Addr
  n : Nat
  ca : Nat
  B : Option Addr
  k : Nat
  cb : Nat
  m : Mt

def encM (e : En) : List Value := [.string e.s, .int .i64 e.m.kind, .slice e.A e.n e.ca, .int .i64 e.m.rate, .slice e.B e.k e.cb, .int .i64 e.m.time]
def flatM (es : List En) : List Value := es.flatMap encM
def datM (es : List En) : List Mt := es.map En.m
theorem flatM_nil : flatM [] = [] := rfl
theorem flatM_cons (e : En) (es : List En) : flatM (e :: es) = encM e ++ flatM es := rfl
theorem flatM_one (e : En) : flatM [e] = encM e := List.append_nil _
theorem flatM_append (a b : List En) : flatM (a ++ b) = flatM a ++ flatM b := by unfold flatM; rw [List.flatMap_append]
theorem flatM_length : ∀ es : List En, (flatM es).length = es.length * 6
  | [] => rfl
  | e :: es => by rw [flatM_cons, List.length_append, flatM_length es, List.length_cons]; show 6 + _ = _; omega
theorem encM_cells {e : En} : ∀ u ∈ encM e, u.oneCell' = true := by
  intro u hu
  simp [encM] at hu
  rcases hu with rfl | rfl | rfl | rfl | rfl | rfl <;> rfl
theorem flatM_cells {es : List En} : ∀ u ∈ flatM es, u.oneCell' = true := by
  intro u hu
  obtain ⟨t, _, hu⟩ := List.mem_flatMap.1 hu
  exact encM_cells u hu
theorem flatM_get : ∀ {es : List En} {i c : Nat} {e : En}, es[i]? = some e → c < 6 → (flatM es)[i * 6 + c]? = (encM e)[c]?
  | [], i, c, e, h, _ => by simp at h
  | t :: ts, 0, c, e, h, hc => by
    injection h with h; subst h
    rw [flatM_cons, List.getElem?_append_left (by show 0 * 6 + c < 6; omega)]
    congr 1; omega
  | t :: ts, i + 1, c, e, h, hc => by
    rw [flatM_cons, List.getElem?_append_right (by show 6 ≤ (i + 1) * 6 + c; omega), show (i + 1) * 6 + c - (encM t).length = i * 6 + c by show (i + 1) * 6 + c - 6 = _; omega]
    exact flatM_get h hc

/-- The slice at A holds these metrics. -/
structure Mets (w : World) (A : Option Addr) (es : List En) : Prop where
  row : Lies w A (flatM es)
  met : ∀ e ∈ es, MIs w e.s e.A e.n e.B e.k e.m
section
variable {w w' : World} {A : Option Addr} {es fs : List En} {e : En}
theorem Mets.keep (h : Mets w A es) (hb : Below w.heap.size w w') : Mets w' A es := ⟨h.row.keep hb, fun e he => (h.met e he).keep hb⟩
theorem Mets.alloc (h : Mets w A es) (o : Obj) : Mets (w.alloc o) A es := h.keep (m_below w o)
theorem Mets.drew (h : Mets w A es) : Mets w.drew A es := h.keep (Same.below (Same.drewN w 1))
theorem Mets.nil : Mets w A [] := ⟨Lies.nil, by simp⟩
theorem Mets.get (h : Mets w A es) {i : Nat} (hi : es[i]? = some e) : ∃ b off, A = some ⟨b, off, none⟩ ∧ w.cell? ⟨b, off + i * 6, none⟩ = some (.string e.s) ∧ w.cell? ⟨b, off + i * 6 + 1, none⟩ = some (.int .i64 e.m.kind) ∧
    w.cell? ⟨b, off + i * 6 + 2, none⟩ = some (.slice e.A e.n e.ca) ∧ w.cell? ⟨b, off + i * 6 + 3, none⟩ = some (.int .i64 e.m.rate) ∧ w.cell? ⟨b, off + i * 6 + 4, none⟩ = some (.slice e.B e.k e.cb) ∧ w.cell? ⟨b, off + i * 6 + 5, none⟩ = some (.int .i64 e.m.time) := by
  obtain ⟨b, off, ea, h0⟩ := h.row (i * 6 + 0) _ ((flatM_get hi (by omega)).trans rfl)
  refine ⟨b, off, ea, h0, ?_, ?_, ?_, ?_, ?_⟩
  all_goals
    first
      | (obtain ⟨b', off', eb, h1⟩ := h.row (i * 6 + 1) _ ((flatM_get hi (by omega)).trans rfl); rw [ea] at eb; injection eb with eb; injection eb with eb1 eb2; subst eb1 eb2; exact h1)
      | (obtain ⟨b', off', eb, h1⟩ := h.row (i * 6 + 2) _ ((flatM_get hi (by omega)).trans rfl); rw [ea] at eb; injection eb with eb; injection eb with eb1 eb2; subst eb1 eb2; exact h1)
      | (obtain ⟨b', off', eb, h1⟩ := h.row (i * 6 + 3) _ ((flatM_get hi (by omega)).trans rfl); rw [ea] at eb; injection eb with eb; injection eb with eb1 eb2; subst eb1 eb2; exact h1)
      | (obtain ⟨b', off', eb, h1⟩ := h.row (i * 6 + 4) _ ((flatM_get hi (by omega)).trans rfl); rw [ea] at eb; injection eb with eb; injection eb with eb1 eb2; subst eb1 eb2; exact h1)
      | (obtain ⟨b', off', eb, h1⟩ := h.row (i * 6 + 5) _ ((flatM_get hi (by omega)).trans rfl); rw [ea] at eb; injection eb with eb; injection eb with eb1 eb2; subst eb1 eb2; exact h1)
theorem Mets.one (h : Mets w A es) {i : Nat} (hi : es[i]? = some e) : MIs w e.s e.A e.n e.B e.k e.m := h.met e (List.mem_of_getElem? hi)
theorem Mets.of_own {base n cap : Nat} (h : w.ownsRow base 25 6 (.slice A n cap) n (flatM es)) (hm : ∀ e ∈ es, MIs w e.s e.A e.n e.B e.k e.m) : Mets w A es := ⟨Lies.of_own h, hm⟩
theorem own_lenM {base n : Nat} {v : Value} (h : w.ownsRow base 25 6 v n (flatM es)) : es.length = n := by have := h.1; rw [flatM_length] at this; omega
end

theorem rowMet : RowTy 33 25 (.agg #[.string ⟨#[]⟩, .int .i64 0, .slice none 0 0, .int .i64 0, .slice none 0 0, .int .i64 0]) 6 88 := ⟨Try.underlying33, by kernel_rfl, rfl, by omega, by omega⟩

/-- The place of the first metric of which C tells an error, and that error. -/
def fw (C : Mt → Int) : List Mt → Nat × Int
  | [] => (0, 0)
  | m :: ms => if C m ≠ 0 then (0, C m) else if (fw C ms).2 = 0 then (0, 0) else ((fw C ms).1 + 1, (fw C ms).2)
theorem fw_all {C : Mt → Int} : ∀ {ms : List Mt}, (∀ m ∈ ms, C m = 0) → fw C ms = (0, 0)
  | [], _ => rfl
  | m :: ms, h => by
    unfold fw
    rw [if_neg (by rw [h m (List.mem_cons_self ..)]; simp), fw_all fun x hx => h x (List.mem_cons_of_mem _ hx)]; rfl
theorem fw_first {C : Mt → Int} : ∀ {a : List Mt} {m : Mt} {b : List Mt}, (∀ x ∈ a, C x = 0) → C m ≠ 0 → fw C (a ++ m :: b) = (a.length, C m)
  | [], m, b, _, h => by show fw C (m :: b) = _; unfold fw; rw [if_pos h]; rfl
  | x :: a, m, b, h, hm => by
    show fw C (x :: (a ++ m :: b)) = _
    unfold fw
    rw [if_neg (by rw [h x (List.mem_cons_self ..)]; simp), fw_first (fun y hy => h y (List.mem_cons_of_mem _ hy)) hm, if_neg hm]; rfl
theorem fw_ok {C : Mt → Int} : ∀ {ms : List Mt}, (fw C ms).2 = 0 → ∀ m ∈ ms, C m = 0
  | [], _, m, hm => by cases hm
  | x :: ms, h, m, hm => by
    unfold fw at h
    by_cases hx : C x = 0
    · rw [if_neg (by rw [hx]; simp)] at h
      by_cases h2 : (fw C ms).2 = 0
      · rcases List.mem_cons.1 hm with rfl | hm
        · exact hx
        · exact fw_ok h2 m hm
      · rw [if_neg h2] at h; exact absurd h h2
    · rw [if_pos hx] at h; exact absurd h hx
theorem fw_cases (C : Mt → Int) : ∀ ms : List Mt, (∀ m ∈ ms, C m = 0) ∧ fw C ms = (0, 0) ∨ ∃ a m b, ms = a ++ m :: b ∧ (∀ x ∈ a, C x = 0) ∧ C m ≠ 0 ∧ fw C ms = (a.length, C m)
  | [] => .inl ⟨by simp, rfl⟩
  | x :: ms => by
    by_cases hx : C x = 0
    · rcases fw_cases C ms with ⟨h, _⟩ | ⟨a, m, b, rfl, h1, h2, _⟩
      · have : ∀ m ∈ x :: ms, C m = 0 := fun m hm => by
          rcases List.mem_cons.1 hm with rfl | hm
          · exact hx
          · exact h m hm
        exact .inl ⟨this, fw_all this⟩
      · have : ∀ m ∈ x :: a, C m = 0 := fun m hm => by
          rcases List.mem_cons.1 hm with rfl | hm
          · exact hx
          · exact h1 m hm
        exact .inr ⟨x :: a, m, b, rfl, this, h2, fw_first (a := x :: a) this h2⟩
    · exact .inr ⟨[], x, ms, rfl, by simp, hx, fw_first (a := []) (by simp) hx⟩
/-- .. of at most 1000. -/
def fwB (C : Mt → Int) (ms : List Mt) : Nat × Int := if 1000 < ms.length then (1000, 12) else fw C ms
theorem fw_zero {C : Mt → Int} {ms : List Mt} (h : (fw C ms).2 = 0) : fw C ms = (0, 0) := fw_all (fw_ok h)
theorem fwB_zero {C : Mt → Int} {ms : List Mt} (h : (fwB C ms).2 = 0) : fwB C ms = (0, 0) := by
  unfold fwB at *
  split
  · rename_i hl; rw [if_pos hl] at h; cases h
  · rename_i hl; rw [if_neg hl] at h; exact fw_zero h
end Go.Proofs.Yteffankkelbhiaa
