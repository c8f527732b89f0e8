/-
  The contract of package cur's Try, whatever function it is handed. No statement of the seat is proved here.
-/
import Derived.Test.YtiipkmfkelbpiaaTry2
namespace Go.Proofs.Ytiipkmfkelbpiaa
open Go.RowKit

/-- How a read ends that Try calls: of what was made from block lo on only the Cur's own block has changed. -/
def ReadOk (lo p : Nat) (w1 : World) (Post : Option Nat → World → Prop) (e : Ending) (w2 : World) : Prop :=
  w1.heap.size ≤ w2.heap.size ∧ (∀ k, lo ≤ k → k < w1.heap.size → k ≠ p → w2.heap[k]? = w1.heap[k]?) ∧
  ((e = .returned (.tuple #[]) ∧ Post none w2) ∨ ∃ r chain, e = .panicked chain ∧ Stops r chain ∧ (∃ cr, Box w2 r 68 cr) ∧ Post (some r) w2)

/-- How Try ends. -/
def TryEnds (w : World) (Rel : Nat → Nat → Option Nat → St → World → Prop) (e : Ending) (w' : World) : Prop :=
  ∃ R p q s2 w2, w.heap.size ≤ p ∧ p < q ∧ CurOk R w' p s2 (some ⟨q, 0, none⟩) ∧ Box w' q 68 [.pointer none] ∧ Below w.heap.size w2 w' ∧
    (∀ R' p' s' tr', CurOk R' w2 p' s' tr' → CurOk R' w' p' s' tr') ∧
    ((e = .returned (.tuple #[.int .i64 s2.t, .agg #[.int .i64 s2.c, .int .i64 s2.a]]) ∧ (Rel p q none s2 w2 ∨ Rel p q (some q) s2 w2)) ∨
      ∃ r chain, r ≠ q ∧ e = .panicked chain ∧ Stops r chain ∧ (∃ cr, Box w' r 68 cr) ∧ Rel p q (some r) s2 w2)

section
variable {R : Option Addr} {w w' : World} {p q m : Nat} {s : St} {tr : Option Addr}

/-- A store into a block that is no Cur's, and that holds no bytes, leaves a Cur as it was. -/
theorem CurOk.elsewhere (h : CurOk R w p s tr) {g : Nat} {t : TypeId} {cs : List Value} (hg : Box w g t cs) (ht : 65 ≠ t) (hc : ∀ z, Value.int .u8 z ∉ cs) (hb : But g w w') : CurOk R w' p s tr := by
  obtain ⟨A, cap, h1, h2, h3⟩ := h.is_
  refine ⟨⟨A, cap, Box.but h1 hb (Box.ne h1 hg ht), h2.but hb hg ?_, h3⟩, h.2, h.3, h.4⟩
  intro u hu
  simp only [by8, List.mem_map] at hu
  obtain ⟨z, _, rfl⟩ := hu
  exact hc z

theorem try_nil (w : World) (A : Option Addr) (n cap : Nat) : Calls Try.prog 17 #[.slice A n cap, .nilFunc] w fun e w' => e = .returned (.tuple #[.int .i64 0, .agg #[.int .i64 2, .int .i64 0]]) ∧ Below w.heap.size w w' := by
  have hn : ∀ w, (binOp .eql 45 .nilFunc .nilFunc).run Try.prog w = .ok (.bool true) w := fun w => by kernel_rfl
  go_enter Try.func17, Try.ntmps17
  go_wp2
  exact bodyPost_ret (v := .tuple #[.int .i64 0, .agg #[.int .i64 2, .int .i64 0]]) (by simp [results, Try.results17, go_sem]) rfl ⟨rfl, (Below.refl _ _).alloc (Nat.le_refl _) _⟩

theorem try_calls (w : World) (A : Option Addr) (n cap : Nat) (bs : List Int) (hl : bs.length = n) (hv : Lies w A (by8 bs)) (hs : ∀ z ∈ bs, 0 ≤ z ∧ z < 256) (hfew : n ≤ 1099511627776) (hnil : A = none → cap = 0)
    (F : Nat) (caps : Array Value) (hF : ∀ args w, (callFunc F args).run Try.prog w = .ok (.enter F args) w) (Rel : Nat → Nat → Option Nat → St → World → Prop)
    (hread : ∀ R w1 p q, w.heap.size ≤ p → p < q → Below w.heap.size w w1 → CurOk R w1 p (.start bs) (some ⟨q, 0, none⟩) → Box w1 q 68 [.pointer (some ⟨p, 0, none⟩)] →
      Calls Try.prog F (#[.pointer (some ⟨p, 0, none⟩)] ++ caps) w1 (ReadOk w.heap.size p w1 (fun r w2 => ∃ s2, CurOk R w2 p s2 (some ⟨q, 0, none⟩) ∧ Rel p q r s2 w2))) :
    Calls Try.prog 17 #[.slice A n cap, .func (.func F) #[] caps] w (TryEnds w Rel) := by
  have hn : ∀ w, (binOp .eql 45 (.func (.func F) #[] caps) .nilFunc).run Try.prog w = .ok (.bool false) w := fun w => by
    have h : ∀ d : Nat, (Op.equalIn (d + 1) 45 (.func (.func F) #[] caps) .nilFunc).run Try.prog w = .ok false w := fun d => by
      simp [Op.equalIn, run_underlying Try.underlying45]
    simp only [binOp]
    simp [Op.equal, Op.maxDepth, h 9999]
  have hk : Below w.heap.size w (w.alloc (.cells #[.int .i64 0, .int .i64 0] 30)) := (Below.refl _ _).alloc (Nat.le_refl _) _
  have hnew := new_calls (w.alloc (.cells #[.int .i64 0, .int .i64 0] 30)) A n cap bs hl (hv.keep hk) hs hfew hnil
  have hrc := Box.new w 30 [.int .i64 0, .int .i64 0]
  have HN := Lib.hid hnew
  have HR := Lib.hid hread
  have HF := Lib.hid hF
  have HC := Lib.hid hrc
  have HK := Lib.hid hk
  clear hnew hread hF hk hv hnil hrc
  go_enter Try.func17, Try.ntmps17
  go_wp2_with fail
  refine HN.out.mono ?_
  rintro e wN ⟨p, R, hp, _, rfl, hcur, hbN⟩
  rw [size_alloc] at hp
  have hbW : Below w.heap.size w wN := HK.out.trans (hbN.mono (by rw [size_alloc]; omega))
  have hrcN := HC.out.keep hbN
  have hplt := hcur.lt
  have hlet := let_calls hcur F caps (#[.pointer (some ⟨p, 0, none⟩)] ++ caps) rfl (fun w => HF.out _ w)
    (fun r w2 => (∃ s2, CurOk R w2 p s2 (some ⟨wN.heap.size, 0, none⟩) ∧ Rel p wN.heap.size r s2 w2) ∧ Box w2 w.heap.size 30 [.int .i64 0, .int .i64 0]) (by
      intro w1 k1 k2 k3 k4
      refine (HR.out R w1 p wN.heap.size (by omega) hplt (hbW.trans (k4.below (by omega) (by have := hbW.size; omega))) k1 k2).mono ?_
      rintro e w2 ⟨hsz, hmid, hres⟩
      have hrc1 : Box w1 w.heap.size 30 [.int .i64 0, .int .i64 0] := hrcN.but k4 (by omega)
      have hrc2 : Box w2 w.heap.size 30 [.int .i64 0, .int .i64 0] := (hmid _ (Nat.le_refl _) hrc1.lt (by omega)).trans hrc1
      refine ⟨(hmid _ (by have := hbW.size; omega) k3.lt (by omega)).trans k3, ⟨_, (hmid _ hbW.size k2.lt (by omega)).trans k2⟩, ?_⟩
      rcases hres with ⟨rfl, h2⟩ | ⟨r, chain, rfl, hst, hbr, h2⟩
      · exact .inl ⟨rfl, h2, hrc2⟩
      · exact .inr ⟨r, chain, rfl, hst, hbr, h2, hrc2⟩)
  have HL := Lib.hid hlet
  clear hlet hcur hbN hrcN
  have HW := Lib.hid hbW
  have hwsz : w.heap.size ≤ wN.heap.size := hbW.size
  clear hbW hn HN HR HF HC HK
  go_wp2_with fail
  refine HL.out.mono ?_
  rintro e w3 ⟨w2, rfl, ⟨o, hq2⟩, ⟨rfl, hP⟩ | ⟨r, chain, hne, rfl, hst, ⟨cr, hbr⟩, ⟨s2, hc2, hrel⟩, hrc⟩⟩
  · have hP' : ∃ s2, CurOk R w2 p s2 (some ⟨wN.heap.size, 0, none⟩) ∧ (Rel p wN.heap.size none s2 w2 ∨ Rel p wN.heap.size (some wN.heap.size) s2 w2) ∧ Box w2 w.heap.size 30 [.int .i64 0, .int .i64 0] := by
      rcases hP with ⟨⟨s2, hc2, hrel⟩, hrc⟩ | ⟨⟨s2, hc2, hrel⟩, hrc⟩
      · exact ⟨s2, hc2, .inl hrel, hrc⟩
      · exact ⟨s2, hc2, .inr hrel, hrc⟩
    obtain ⟨s2, hc2, hrel, hrc⟩ := hP'
    have hbq : But wN.heap.size w2 (w2.setCell ⟨wN.heap.size, 0, none⟩ (.pointer none)) := (But.refl _ _).set 0 _
    have hc3 := hc2.elsewhere hq2 (by decide) (by simp) hbq
    have hq3 : Box (w2.setCell ⟨wN.heap.size, 0, none⟩ (.pointer none)) wN.heap.size 68 [.pointer none] := hq2.set 0 _
    have hrc3 := hrc.but hbq (hrc.ne hq2 (by decide))
    have hall : ∀ R' p' s' tr', CurOk R' w2 p' s' tr' → CurOk R' (w2.setCell ⟨wN.heap.size, 0, none⟩ (.pointer none)) p' s' tr' := fun R' p' s' tr' h => h.elsewhere hq2 (by decide) (by simp) hbq
    have hbel : Below w.heap.size w2 (w2.setCell ⟨wN.heap.size, 0, none⟩ (.pointer none)) := below_set (Below.refl _ _) hwsz 0 _
    generalize w2.setCell ⟨wN.heap.size, 0, none⟩ (.pointer none) = w3 at hbq hc3 hq3 hrc3 hall hbel ⊢
    clear hP hq2 hc2 hrc hbq
    have HREL := Lib.hid hrel
    have HALL := Lib.hid hall
    have HBEL := Lib.hid hbel
    clear hrel hall hbel
    go_wp2_with fail
    refine hc3.at_.mono ?_
    rintro e w' ⟨rfl, rfl⟩
    go_wp2_with fail
    obtain ⟨A3, cap3, g3, _⟩ := hc3.is_
    refine (fault_calls g3).mono ?_
    rintro e w4 ⟨rfl, hb4⟩
    have hrc4 := hrc3.keep hb4
    have d0 : w4.cell? ⟨w.heap.size, 0, none⟩ = some (.int .i64 0) := hrc4.cell 0
    have d1 : w4.cell? ⟨w.heap.size, 1, none⟩ = some (.int .i64 0) := hrc4.cell 1
    have e0 := hrc4.frozen 0
    have e1 := hrc4.frozen 1
    have H3 := Lib.hid hc3
    have HB4 := Lib.hid hb4
    have HQ3 := Lib.hid hq3
    have HRC4 := Lib.hid hrc4
    clear g3 hc3 hrc3 hrc4 hb4 hq3
    go_wp2
    have hrc5 : Box ((w4.setCell ⟨w.heap.size, 0, none⟩ (.int .i64 s2.c)).setCell ⟨w.heap.size, 1, none⟩ (.int .i64 s2.a)) w.heap.size 30 [.int .i64 s2.c, .int .i64 s2.a] := (HRC4.out.set 0 (.int .i64 s2.c)).set 1 (.int .i64 s2.a)
    have r0 : ((w4.setCell ⟨w.heap.size, 0, none⟩ (.int .i64 s2.c)).setCell ⟨w.heap.size, 1, none⟩ (.int .i64 s2.a)).cell? ⟨w.heap.size, 0, none⟩ = some (.int .i64 s2.c) := hrc5.cell 0
    have r1 : ((w4.setCell ⟨w.heap.size, 0, none⟩ (.int .i64 s2.c)).setCell ⟨w.heap.size, 1, none⟩ (.int .i64 s2.a)).cell? ⟨w.heap.size, 1, none⟩ = some (.int .i64 s2.a) := hrc5.cell 1
    have hbr : But w.heap.size w4 ((w4.setCell ⟨w.heap.size, 0, none⟩ (.int .i64 s2.c)).setCell ⟨w.heap.size, 1, none⟩ (.int .i64 s2.a)) := ((But.refl _ _).set 0 _).set 1 _
    have hbl : Below w.heap.size w4 ((w4.setCell ⟨w.heap.size, 0, none⟩ (.int .i64 s2.c)).setCell ⟨w.heap.size, 1, none⟩ (.int .i64 s2.a)) := below_set (below_set (Below.refl _ _) (Nat.le_refl _) 0 _) (Nat.le_refl _) 1 _
    generalize (w4.setCell ⟨w.heap.size, 0, none⟩ (.int .i64 s2.c)).setCell ⟨w.heap.size, 1, none⟩ (.int .i64 s2.a) = w5 at r0 r1 hbr hbl ⊢
    have up : ∀ R' p' s' tr', CurOk R' w3 p' s' tr' → CurOk R' w5 p' s' tr' := fun R' p' s' tr' h => (h.keep HB4.out).elsewhere HRC4.out (by decide) (by simp) hbr
    refine bodyPost_ret (v := .tuple #[.int .i64 s2.t, .agg #[.int .i64 s2.c, .int .i64 s2.a]]) (by simp [results, Try.results17, go_sem, r0, r1]) rfl ?_
    have hw3 : w.heap.size ≤ w3.heap.size := by have := HQ3.out.lt; omega
    refine ⟨R, p, wN.heap.size, s2, w2, by omega, hplt, up _ _ _ _ H3.out, (HQ3.out.keep HB4.out).but hbr (by omega), HBEL.out.trans ((HB4.out.mono hw3).trans hbl), fun R' p' s' tr' h => up _ _ _ _ (HALL.out _ _ _ _ h), .inl ⟨rfl, HREL.out⟩⟩
  · have hbq : But wN.heap.size w2 (w2.setCell ⟨wN.heap.size, 0, none⟩ (.pointer none)) := (But.refl _ _).set 0 _
    exact ⟨rfl, R, p, wN.heap.size, s2, w2, by omega, hplt, hc2.elsewhere hq2 (by decide) (by simp) hbq, hq2.set 0 _, below_set (Below.refl _ _) hwsz 0 _,
      fun R' p' s' tr' h => h.elsewhere hq2 (by decide) (by simp) hbq, .inr ⟨r, chain, hne, rfl, hst, ⟨cr, hbr.but hbq hne⟩, hrel⟩⟩
end
end Go.Proofs.Ytiipkmfkelbpiaa
