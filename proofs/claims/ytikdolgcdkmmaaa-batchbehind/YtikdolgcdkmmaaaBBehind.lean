/-
  What BatchBehind leans on: batches behind others. No statement of the seat is proved here.
-/
import Derived.Test.YtikdolgcdkmmaaaBOnce
namespace Go.Proofs.Ytikdolgcdkmmaaa
open Go.RowKit
open Dc (D D0)

theorem fw_left {C : Mt → Int} {a b : List Mt} {p : Nat} {c : Int} (h : fw C a = (p, c)) (hc : c ≠ 0) : fw C (a ++ b) = (p, c) := by
  rcases fw_cases C a with ⟨_, h2⟩ | ⟨x, m, y, rfl, h2, h3, h4⟩
  · rw [h2] at h; injection h with _ h; exact absurd h.symm hc
  · rw [← h, h4, List.append_assoc, List.cons_append]; exact fw_first h2 h3
theorem fw_right {C : Mt → Int} {a b : List Mt} {p : Nat} {c : Int} (ha : ∀ m ∈ a, C m = 0) (h : fw C b = (p, c)) (hc : c ≠ 0) : fw C (a ++ b) = (p + a.length, c) := by
  rcases fw_cases C b with ⟨_, h2⟩ | ⟨x, m, y, rfl, h2, h3, h4⟩
  · rw [h2] at h; injection h with _ h; exact absurd h.symm hc
  · rw [h4] at h
    injection h with h5 h6
    rw [← List.append_assoc, fw_first (a := a ++ x) (fun z hz => by
      rcases List.mem_append.1 hz with hz | hz
      · exact ha z hz
      · exact h2 z hz) h3, h6, ← h5, List.length_append, Nat.add_comm]
theorem behind_left {a b : List Mt} {p : Nat} {c : Int} (hl : a.length + b.length ≤ 1000) (h : fwB codeM a = (p, c)) (hc : c ≠ 0) : fwB codeM (a ++ b) = (p, c) := by
  unfold fwB at *
  rw [if_neg (by omega)] at h
  rw [if_neg (by rw [List.length_append]; omega)]
  exact fw_left h hc
theorem behind_right {a b : List Mt} {p : Nat} {c : Int} (hl : a.length + b.length ≤ 1000) (ha : (fwB codeM a).2 = 0) (h : fwB codeM b = (p, c)) (hc : c ≠ 0) : fwB codeM (a ++ b) = (p + a.length, c) := by
  have h0 := fwB_ok ha
  unfold fwB at *
  rw [if_neg (by omega)] at h
  rw [if_neg (by rw [List.length_append]; omega)]
  exact fw_right h0 h hc
theorem behind_both {a b : List Mt} (hl : a.length + b.length ≤ 1000) (ha : (fwB codeM a).2 = 0) (hb : (fwB codeM b).2 = 0) : fwB codeM (a ++ b) = (0, 0) :=
  fwB_all (by rw [List.length_append]; omega) fun m hm => by
    rcases List.mem_append.1 hm with hm | hm
    · exact fwB_ok ha m hm
    · exact fwB_ok hb m hm
theorem nB_both {a b : List Mt} (hl : a.length + b.length ≤ 1000) (ha : (fwB codeM a).2 = 0) (hb : (fwB codeM b).2 = 0) : nB (a ++ b) = nB a ++ nB b := by
  rw [nB_ok (by rw [behind_both hl ha hb]), nB_ok ha, nB_ok hb, List.map_append]
theorem foldN_prefix : ∀ (ss acc : List (List UInt8)), ∃ t, ss.foldl addN acc = acc ++ t
  | [], acc => ⟨[], by simp⟩
  | s :: ss, acc => by
    rw [List.foldl_cons]
    obtain ⟨t, ht⟩ := foldN_prefix ss (addN acc s)
    rw [ht]
    unfold addN
    split
    · exact ⟨t, rfl⟩
    · exact ⟨[s] ++ t, by rw [List.append_assoc]⟩
theorem names_behind (a b : List Mt) : (namesOf a).length ≤ (namesOf (a ++ b)).length ∧ (namesOf (a ++ b)).take (namesOf a).length = namesOf a := by
  unfold namesOf
  rw [List.map_append, List.foldl_append]
  obtain ⟨t, ht⟩ := foldN_prefix (b.map Mt.name) ((a.map Mt.name).foldl addN [])
  rw [ht]
  refine ⟨by simp, ?_⟩
  rw [List.take_left']
  rfl
theorem datM_append (a b : List En) : datM (a ++ b) = datM a ++ datM b := by unfold datM; rw [List.map_append]

/-- A row of texts, cut at its end. -/
theorem run_texts_to (A : Option Addr) (n cap m : Nat) (h : m ≤ cap) (w : World) :
    (Instr.slice 49 (.slice A n cap) none (some (.int .i64 m)) none).run Try.prog w = .ok (.slice A m cap) w := by
  obtain ⟨i, hi, _⟩ := info_parts (P := Try.prog) (e := 9) (z := .string ⟨#[]⟩) (size := 1) (bytes := 16) (by kernel_rfl)
  have e1 : ((m : Int)).toNat = m := by omega
  rcases A with _ | a
  · simp [Instr.slice, run_underlying Try.underlying49, Instr.sliceBounds, run_sliceBound, sizeOf, typeInfo, hi, (by omega : (m : Int) ≤ cap), e1]
  · have hz : a.add 0 = a := by simp [Addr.add]
    by_cases hc : cap = 0
    · subst hc
      have : m = 0 := by omega
      subst this
      simp [Instr.slice, run_underlying Try.underlying49, Instr.sliceBounds, run_sliceBound, sizeOf, typeInfo, hi]
    · simp [Instr.slice, run_underlying Try.underlying49, Instr.sliceBounds, run_sliceBound, sizeOf, typeInfo, hi, (by omega : (m : Int) ≤ cap), e1, hz]

/-- Metrics are appended onto a row that was made since W1. -/
theorem append_mets {ops : Array Oper} {rest : List Oper} {o : Oper} {a : Act} {Q : Exit → Act → World → Prop} {W W1 : World} {base n m c : Nat} {v : Value} {fs es : List En} {A : Option Addr}
    (hw : Region.wanted o (yielded ops a.tmps) = true) (s x : Operand) (ho : o.op = .call { callee := .builtin .append, args := #[s, x], argTypes := #[41, 41] })
    (hs : a.eval s = v) (hx : a.eval x = .slice A m c) (h : RowM (fun _ => False) W base v n fs) (hl : es.length = m) (hM : Mets W1 A es) (hb : Below W1.heap.size W1 W) (hlow : W1.heap.size ≤ base) (hbase : base ≤ W.heap.size) (hfit : n + m ≤ 1000000) {N : Nat} (hN : n + m = N)
    (K : ∀ A' c' w', RowM (fun _ => False) w' base (.slice A' N c') N (fs ++ es) → Below W1.heap.size W1 w' → base ≤ w'.heap.size → wpList Try.prog ops Q rest (a.put o.dst (.slice A' N c')) w') :
    wpList Try.prog ops Q (o :: rest) a W := by
  subst hN
  refine BigFrame.wpList_want hw fun K' hK => ?_
  obtain ⟨v', w', hr, h2, h3, h4⟩ := run_append_rows W rowMet base o.type v n (flatM fs) h.own A m c (flatM es) (by rw [flatM_length, hl]) (hM.keep hb).row flatM_cells hfit hbase
  obtain ⟨A', c', rfl, -⟩ := own_slice h2
  unfold Oper.wp execOp
  simp only [ho, resolve, invoke, builtin, Sem.run_bind, Sem.run_pure, Result.andThen_ok, List.map_toArray, List.map_cons, List.map_nil, hs, hx, hr]
  refine hK _ _ (K A' c' w' (RowM.push h ⟨fun _ _ h _ _ => h⟩ (fun e he => (hM.keep hb).met e he) (fun e he => Off.high (hM.met e he) fun b hb' => ?_) h3 h4 (fun _ h => h.elim) h2) (hb.grown h3 hb.size fun k hk => Nat.le_trans hlow (h.lt k hk).1) (Nat.le_trans hbase h3.size))
  rcases hb' with hb' | hb'
  · exact hb'.elim
  · exact Nat.le_trans hlow (h.lt b hb').1
end Go.Proofs.Ytikdolgcdkmmaaa
