/-
  The walk through CurTries: whatever bytes, calls and turns it is handed, it returns true, and changes nothing that was there. The statement itself is proved in the last text.
-/
import Derived.Test.YtiipkmfkelbpiaaAwake
import Derived.Test.YtiipkmfkelbpiaaPlays
import Derived.Test.YtiipkmfkelbpiaaTriesRead
import Derived.Deep.RegionHeld3
namespace Go.Proofs.Ytiipkmfkelbpiaa
open Go.RowKit

/-- What holds at each round's head of the law's own loop. -/
structure LInv (w : World) (A : Option Addr) (cap r fq g4 g5 g7 g8 : Nat) (L T : Option Addr) (m capL tl capT : Nat) (bs : List Int) (l : List (Int × Int × Int)) (zs : List Bool) (j : Nat) (s2 : St) (k : Nat) (wr : World) : Prop where
  ref : RefOk A cap wr r ((St.start bs).steps l k)
  vars : TVars wr g4 g5 g7 g8 L T m capL tl capT j 1
  fault : Box wr fq 30 [.int .i64 s2.c, .int .i64 s2.a]
  below : Below w.heap.size w wr

section
variable {w wr w' : World} {A : Option Addr} {cap r fq g4 g5 g7 g8 : Nat} {L T : Option Addr} {m capL tl capT : Nat} {bs : List Int} {l : List (Int × Int × Int)} {zs : List Bool} {j : Nat} {s2 : St} {k : Nat}
theorem LInv.keep (h : LInv w A cap r fq g4 g5 g7 g8 L T m capL tl capT bs l zs j s2 k wr) (hb : Below wr.heap.size wr w') : LInv w A cap r fq g4 g5 g7 g8 L T m capL tl capT bs l zs j s2 k w' :=
  ⟨h.ref.keep hb, h.vars.keep hb, h.fault.keep hb, below_then h.below hb⟩
theorem LInv.drew (h : LInv w A cap r fq g4 g5 g7 g8 L T m capL tl capT bs l zs j s2 k wr) : LInv w A cap r fq g4 g5 g7 g8 L T m capL tl capT bs l zs j s2 k wr.drew :=
  h.keep (Same.below ⟨rfl, rfl, rfl, rfl⟩)
/-- The cells that the law's last line reads, if just as many calls were made. -/
theorem LInv.cells (h : LInv w A cap r fq g4 g5 g7 g8 L T m capL tl capT bs l zs j s2 k wr) (hs : s2 = (St.start bs).steps l k) :
    wr.cell? ⟨g8, 0, none⟩ = some (.int .i64 1) ∧ wr.cell? ⟨g7, 0, none⟩ = some (.int .i64 j) ∧ wr.cell? ⟨r, 1, none⟩ = some (.int .i64 s2.t) ∧ wr.cell? ⟨r, 2, none⟩ = some (.int .i64 s2.c) ∧ wr.cell? ⟨r, 3, none⟩ = some (.int .i64 s2.a) ∧
      wr.cell? ⟨fq, 0, none⟩ = some (.int .i64 s2.c) ∧ wr.cell? ⟨fq, 1, none⟩ = some (.int .i64 s2.a) ∧ LInv w A cap r fq g4 g5 g7 g8 L T m capL tl capT bs l zs j s2 k wr := by
  subst hs
  exact ⟨h.vars.calls_.cell 0, h.vars.done_.cell 0, h.ref.is_.cell 1, h.ref.is_.cell 2, h.ref.is_.cell 3, h.fault.cell 0, h.fault.cell 1, h⟩
theorem LInv.of (h : wr.cell? ⟨g8, 0, none⟩ = some (.int .i64 1) ∧ wr.cell? ⟨g7, 0, none⟩ = some (.int .i64 j) ∧ wr.cell? ⟨r, 1, none⟩ = some (.int .i64 s2.t) ∧ wr.cell? ⟨r, 2, none⟩ = some (.int .i64 s2.c) ∧ wr.cell? ⟨r, 3, none⟩ = some (.int .i64 s2.a) ∧
      wr.cell? ⟨fq, 0, none⟩ = some (.int .i64 s2.c) ∧ wr.cell? ⟨fq, 1, none⟩ = some (.int .i64 s2.a) ∧ LInv w A cap r fq g4 g5 g7 g8 L T m capL tl capT bs l zs j s2 k wr) : LInv w A cap r fq g4 g5 g7 g8 L T m capL tl capT bs l zs j s2 k wr := h.2.2.2.2.2.2.2
theorem LInv.awake (h : LInv w A cap r fq g4 g5 g7 g8 L T m capL tl capT bs l zs j s2 k wr) :
    Calls Try.prog 9 #[] wr fun e w' => e = .returned (.bool true) ∧ LInv w A cap r fq g4 g5 g7 g8 L T m capL tl capT bs l zs j s2 k w' :=
  (awake_calls wr).mono fun _ _ ⟨he, hb⟩ => ⟨he, h.keep hb⟩
end

theorem tvars_new (w : World) (L T : Option Addr) (m capL tl capT : Nat) :
    TVars ((((w.alloc (.cells #[.slice L m capL] 23)).alloc (.cells #[.slice T tl capT] 42)).alloc (.cells #[.int .i64 0] 3)).alloc (.cells #[.int .i64 0] 3)) w.heap.size (w.heap.size + 1) (w.heap.size + 1 + 1) (w.heap.size + 1 + 1 + 1) L T m capL tl capT 0 0 ∧
    Below w.heap.size w ((((w.alloc (.cells #[.slice L m capL] 23)).alloc (.cells #[.slice T tl capT] 42)).alloc (.cells #[.int .i64 0] 3)).alloc (.cells #[.int .i64 0] 3)) ∧
    ((((w.alloc (.cells #[.slice L m capL] 23)).alloc (.cells #[.slice T tl capT] 42)).alloc (.cells #[.int .i64 0] 3)).alloc (.cells #[.int .i64 0] 3)).heap.size = w.heap.size + 1 + 1 + 1 + 1 := by
  have b1 := Box.new w 23 [.slice L m capL]
  have b2 := Box.new (w.alloc (.cells #[.slice L m capL] 23)) 42 [.slice T tl capT]
  have b3 := Box.new ((w.alloc (.cells #[.slice L m capL] 23)).alloc (.cells #[.slice T tl capT] 42)) 3 [.int .i64 0]
  have b4 := Box.new (((w.alloc (.cells #[.slice L m capL] 23)).alloc (.cells #[.slice T tl capT] 42)).alloc (.cells #[.int .i64 0] 3)) 3 [.int .i64 0]
  rw [size_alloc] at b2
  rw [size_alloc, size_alloc] at b3
  rw [size_alloc, size_alloc, size_alloc] at b4
  refine ⟨⟨((b1.alloc _).alloc _).alloc _, (b2.alloc _).alloc _, b3.alloc _, b4⟩, ?_, by rw [size_alloc, size_alloc, size_alloc, size_alloc]⟩
  exact ((((Below.refl _ _).alloc (Nat.le_refl _) _).alloc (by rw [size_alloc]; omega) _).alloc (by rw [size_alloc, size_alloc]; omega) _).alloc (by rw [size_alloc, size_alloc, size_alloc]; omega) _

set_option maxRecDepth 100000 in
set_option maxHeartbeats 4000000 in
theorem tries_walk (A L T : Option Addr) (n cap m capL tl capT : Nat) (bs : List Int) (l : List (Int × Int × Int)) (zs : List Bool) (w : World) (hl : bs.length = n) (hv : Lies w A (by8 bs)) (hs : ∀ z ∈ bs, 0 ≤ z ∧ z < 256) (hnil : A = none → cap = 0)
    (hm : l.length = m) (hL : LiesActs w L l) (ht : zs.length = tl) (hT : Lies w T (zs.map .bool)) :
    Calls Try.prog 4 #[.slice A n cap, .slice L m capL, .slice T tl capT] w fun e w' => e = .returned (.bool true) ∧ Below w.heap.size w w' := by
  have HV := Lib.hid hv
  have HL := Lib.hid hl
  have HS := Lib.hid hs
  have HM := Lib.hid hm
  have HLA := Lib.hid hL
  have HN := Lib.hid hnil
  have HT := Lib.hid ht
  have HTA := Lib.hid hT
  clear hv hl hs hnil hm hL ht hT
  have hb0 : Below w.heap.size w ((w.alloc (.cells #[.slice L m capL] 23)).alloc (.cells #[.slice T tl capT] 42)) := ((Below.refl _ _).alloc (Nat.le_refl _) _).alloc (by rw [size_alloc]; omega) _
  have HB0 := Lib.hid hb0
  clear hb0
  by_cases h300 : 300 < n
  · have h3 : (300 : Int) < (n : Int) := by omega
    go_enter Try.func4, Try.ntmps4
    go_wp2_with fail
    refine (awake_calls _).mono ?_
    rintro e w9 ⟨rfl, hb9⟩
    go_wp2
    go_ret
    exact ⟨rfl, below_then HB0.out hb9⟩
  have h3 : ¬ (300 : Int) < (n : Int) := by omega
  by_cases h100 : 100 < m
  · have h4 : (100 : Int) < (m : Int) := by omega
    go_enter Try.func4, Try.ntmps4
    go_wp2_with fail
    refine (awake_calls _).mono ?_
    rintro e w9 ⟨rfl, hb9⟩
    go_wp2
    go_ret
    exact ⟨rfl, below_then HB0.out hb9⟩
  have h4 : ¬ (100 : Int) < (m : Int) := by omega
  by_cases h101 : 100 < tl
  · have h5 : (100 : Int) < (tl : Int) := by omega
    go_enter Try.func4, Try.ntmps4
    go_wp2_with fail
    refine (awake_calls _).mono ?_
    rintro e w9 ⟨rfl, hb9⟩
    go_wp2
    go_ret
    exact ⟨rfl, below_then HB0.out hb9⟩
  have h5 : ¬ (100 : Int) < (tl : Int) := by omega
  have hmf : ∀ (fn : Fn) (first cap : Array Value) (w : World), (Instr.makeFunc fn first cap).run Try.prog w = .ok (.func fn first cap) w := fun _ _ _ _ => rfl
  go_enter Try.func4, Try.ntmps4
  go_wp2_with fail
  obtain ⟨tv0, bw0, hz0⟩ := tvars_new w L T m capL tl capT
  have ha4 : w.heap.size ≤ w.heap.size := Nat.le_refl _
  have h45 : w.heap.size < w.heap.size + 1 := by omega
  have h57 : w.heap.size + 1 < w.heap.size + 1 + 1 := by omega
  have h78 : w.heap.size + 1 + 1 < w.heap.size + 1 + 1 + 1 := by omega
  have h8l : w.heap.size + 1 + 1 + 1 < ((((w.alloc (.cells #[.slice L m capL] 23)).alloc (.cells #[.slice T tl capT] 42)).alloc (.cells #[.int .i64 0] 3)).alloc (.cells #[.int .i64 0] 3)).heap.size := by omega
  generalize ((((w.alloc (.cells #[.slice L m capL] 23)).alloc (.cells #[.slice T tl capT] 42)).alloc (.cells #[.int .i64 0] 3)).alloc (.cells #[.int .i64 0] 3)) = w0 at tv0 bw0 h8l ⊢
  clear hz0
  generalize w.heap.size + 1 + 1 + 1 = g8 at tv0 h78 h8l ⊢
  generalize w.heap.size + 1 + 1 = g7 at tv0 h57 h78 ⊢
  generalize w.heap.size + 1 = g5 at tv0 h45 h57 ⊢
  generalize hg4 : w.heap.size = g4 at tv0 h45 ⊢
  have h04 : w.heap.size ≤ g4 := by omega
  clear hg4 ha4
  refine (try_calls w0 A n cap bs HL.out (HV.out.keep bw0) HS.out (by omega) HN.out 18 #[.pointer (some ⟨g8, 0, none⟩), .pointer (some ⟨g4, 0, none⟩), .pointer (some ⟨g7, 0, none⟩), .pointer (some ⟨g5, 0, none⟩)] (fun _ _ => by kernel_rfl)
    (fun _ q r s2 w2 => TRel w g4 g5 g7 g8 L T m capL tl capT bs l zs q r s2 w2) (by
      intro R w1 p q hp hpq hbw hcw hbq
      exact tries_read w w1 R w0.heap.size p q g4 g5 g7 g8 L T m capL tl capT bs l zs (bw0.trans (hbw.mono bw0.size)) h04 h45 h57 h78 h8l hp hcw hbq (tv0.keep hbw) HM.out HLA.out HT.out HTA.out (by omega) (by omega))).mono ?_
  rintro e w6 ⟨R, p, q, s2, w2, hp, hpq, _, _, hb6, _, ⟨rfl, hrel⟩ | ⟨r, chain, hne, rfl, _, _, hrel⟩⟩
  · obtain ⟨j, hj, hs2, tv2, bw2⟩ : ∃ j : Nat, Ends (.start bs) l zs j ∧ s2 = (St.start bs).steps l j ∧ TVars w2 g4 g5 g7 g8 L T m capL tl capT j 1 ∧ Below w.heap.size w w2 := by
      rcases hrel with ⟨j, a1, a2, _, a4, a5⟩ | ⟨j, a1, a2, _, a4, a5⟩ <;> exact ⟨j, a1, a2, a4, a5⟩
    have tv6 : TVars w6 g4 g5 g7 g8 L T m capL tl capT j 1 := ⟨tv2.acts.below hb6 (by omega), tv2.turns.below hb6 (by omega), tv2.done_.below hb6 (by omega), tv2.calls_.below hb6 (by omega)⟩
    have bw6 : Below w.heap.size w w6 := bw2.trans (hb6.mono bw0.size)
    have HJ := Lib.hid hj
    have HS2 := Lib.hid hs2
    clear hrel hb6 tv2 bw2 tv0 hp hpq hj hs2
    have hfq := Box.new w6 30 [.int .i64 s2.c, .int .i64 s2.a]
    have hk7 : Below w6.heap.size w6 (w6.alloc (.cells #[.int .i64 s2.c, .int .i64 s2.a] 30)) := (Below.refl _ _).alloc (Nat.le_refl _) _
    have tv7 := tv6.keep hk7
    have bw7 := below_then bw6 hk7
    have hrx := Box.new (w6.alloc (.cells #[.int .i64 s2.c, .int .i64 s2.a] 30)) 32 [.slice A n cap, .int .i64 0, .int .i64 0, .int .i64 0]
    have hk8 : Below (w6.alloc (.cells #[.int .i64 s2.c, .int .i64 s2.a] 30)).heap.size (w6.alloc (.cells #[.int .i64 s2.c, .int .i64 s2.a] 30)) ((w6.alloc (.cells #[.int .i64 s2.c, .int .i64 s2.a] 30)).alloc (.cells #[.slice A n cap, .int .i64 0, .int .i64 0, .int .i64 0] 32)) := (Below.refl _ _).alloc (Nat.le_refl _) _
    have tv8 := tv7.keep hk8
    have bw8 := below_then bw7 hk8
    have hfq8 := hfq.keep hk8
    rw [size_alloc] at hrx
    have I0 : LInv w A cap (w6.heap.size + 1) w6.heap.size g4 g5 g7 g8 L T m capL tl capT bs l zs j s2 0 ((w6.alloc (.cells #[.int .i64 s2.c, .int .i64 s2.a] 30)).alloc (.cells #[.slice A n cap, .int .i64 0, .int .i64 0, .int .i64 0] 32)) :=
      ⟨by rw [steps_zero]; exact ⟨by rw [← HL.out] at hrx ⊢; exact hrx, HV.out.keep bw8, Nat.zero_le _, by show bs.length ≤ _; rw [HL.out]; omega⟩, tv8, hfq8, bw8⟩
    have hg86 : g8 < w6.heap.size := tv6.calls_.lt
    clear hfq hk7 tv7 bw7 hrx hk8 tv8 bw8 hfq8 tv6
    have hrw : w.heap.size ≤ w6.heap.size := bw6.size
    clear bw6 bw0 hmf
    go_wp2_with fail
    go_loopw [12, 13] (fun o i wr => ∃ k : Nat, k ≤ m ∧ o = .int .i64 k ∧ i = .int .i64 k ∧ LInv w A cap (w6.heap.size + 1) w6.heap.size g4 g5 g7 g8 L T m capL tl capT bs l zs j s2 k wr ∧ NoStop (.start bs) l zs k) (fun _ i _ => m - (intOf i).toNat)
    case atStart => exact ⟨0, Nat.zero_le _, rfl, rfl, I0, .zero _ _ _⟩
    case round =>
      obtain ⟨k, hk, rfl, rfl, hI, hns⟩ := hrel
      clear I0
      have v4 : wr.cell? ⟨g4, 0, none⟩ = some (.slice L m capL) := hI.vars.acts.cell 0
      by_cases hlt : k < m
      · obtain ⟨⟨d, nn, cc⟩, hx⟩ : ∃ x, l[k]? = some x := ⟨_, List.getElem?_eq_getElem (by rw [HM.out]; exact hlt)⟩
        have hlt' : (k : Int) < (m : Int) := by omega
        have hge' : (0 : Int) ≤ (k : Int) := by omega
        obtain ⟨lb, lo', rfl, y0, y1, y2⟩ := HLA.out.keep hI.below k _ hx
        simp only [] at y0 y1 y2
        have hst := steps_succ (.start bs) l k _ hx
        simp only [] at hst
        have HST := Lib.hid hst
        have HI := Lib.hid hI
        have HNS := Lib.hid hns
        clear hI hst hx hns
        go_wp2_with fail
        refine (plays_calls HI.out.ref d nn cc).mono ?_
        rintro e wa ⟨B, capB, rfl, _, ha, hba⟩
        rw [← HST.out] at ha
        have HLI := Lib.hid (show LInv w A cap (w6.heap.size + 1) w6.heap.size g4 g5 g7 g8 (some ⟨lb, lo', none⟩) T m capL tl capT bs l zs j s2 (k + 1) wa from
          ⟨ha, HI.out.vars.but hba (by omega) (by omega) (by omega) (by omega), HI.out.fault.but hba (by omega), HI.out.below.trans (hba.below (by omega) HI.out.below.size)⟩)
        clear ha hba HI y0 y1 y2 v4
        have v5 : wa.cell? ⟨g5, 0, none⟩ = some (.slice T tl capT) := HLI.out.vars.turns.cell 0
        have vc : wa.cell? ⟨w6.heap.size + 1, 2, none⟩ = some (.int .i64 ((St.start bs).steps l (k + 1)).c) := HLI.out.ref.is_.cell 2
        go_wp2_with fail
        by_cases htl : tl = 0
        · subst htl
          go_quiet (fail)
          have hs1 : Same wa (wa.drewN nq) := .drewN _ _
          have HL1 := Lib.hid (HLI.out.keep hs1.below)
          have HN1 := Lib.hid (HNS.out.succ (by rw [turn_none zs k HT.out]; simp))
          generalize wa.drewN nq = wc at HL1 ⊢
          clear hs1 v5 vc HLI
          go_wp2_with fail
          exact ⟨⟨k + 1, by omega, by go_num, by go_num, HL1.out, HN1.out⟩, by simp [intOf]; omega⟩
        · have hmlt : k % tl < tl := Nat.mod_lt _ (by omega)
          have hzl : k % tl < zs.length := by rw [HT.out]; exact hmlt
          obtain ⟨tb, to, rfl, hcell⟩ := (HTA.out.keep HLI.out.below).at_ (i := k % tl) (by rw [List.length_map]; exact hzl)
          have htg : turnAt zs k = zs[k % tl] := by
            have := turn_get zs k (by omega)
            simpa [HT.out] using this
          have hcell' : wa.cell? ⟨tb, to + k % tl, none⟩ = some (.bool (turnAt zs k)) := by rw [hcell, htg]; simp
          clear hcell htg
          generalize htn : turnAt zs k = tn at hcell'
          have HTN := Lib.hid htn
          clear htn
          have hmod : Int.tmod (k : Int) (tl : Int) = ((k % tl : Nat) : Int) := (Int.ofNat_tmod k tl).symm
          have u1 : ((k % tl : Nat) : Int) < (tl : Int) := by omega
          have u2 : (0 : Int) ≤ ((k % tl : Nat) : Int) := by omega
          have u3 : (0 : Int) < (tl : Int) := by omega
          have u4 : ¬ (tl : Int) = 0 := by omega
          have u5 : 0 < tl := by omega
          have u6 : k % tl < tl := hmlt
          cases tn with
          | false =>
            go_quiet (fail)
            have hs1 : Same wa (wa.drewN nq) := .drewN _ _
            have HL1 := Lib.hid (HLI.out.keep hs1.below)
            have HN1 := Lib.hid (HNS.out.succ (by rw [HTN.out]; simp))
            generalize wa.drewN nq = wc at HL1 ⊢
            clear hs1 v5 vc HLI hcell' hmod u1 u2 u3 u4 u5 u6
            go_wp2_with fail
            exact ⟨⟨k + 1, by omega, by go_num, by go_num, HL1.out, HN1.out⟩, by simp [intOf]; omega⟩
          | true =>
            by_cases hc0 : ((St.start bs).steps l (k + 1)).c = 0
            · have t1 : (((St.start bs).steps l (k + 1)).c != 0) = false := by simp [hc0]
              have HN1 := Lib.hid (HNS.out.succ (fun hh => hh.2 hc0))
              clear hc0
              go_quiet (fail)
              have hs1 : Same wa (wa.drewN nq) := .drewN _ _
              have HL1 := Lib.hid (HLI.out.keep hs1.below)
              generalize wa.drewN nq = wc at HL1 ⊢
              clear hs1 v5 vc HLI hcell' hmod u1 u2 u3 u4 u5 u6
              go_wp2_with fail
              exact ⟨⟨k + 1, by omega, by go_num, by go_num, HL1.out, HN1.out⟩, by simp [intOf]; omega⟩
            · have t1 : (((St.start bs).steps l (k + 1)).c != 0) = true := by simp [hc0]
              have hend : Ends (.start bs) l zs (k + 1) := .inr ⟨k, rfl, by rw [HM.out]; exact hlt, HNS.out, HTN.out, hc0⟩
              have hjk := HJ.out.once hend
              clear hc0 hend
              go_quiet (fail)
              have hs1 : Same wa (wa.drewN nq) := .drewN _ _
              have hLI2 := HLI.out.keep hs1.below
              generalize wa.drewN nq = wc at hLI2 ⊢
              clear hs1 v5 vc HLI hcell' hmod u1 u2 u3 u4 u5 u6 t1
              rw [← hjk] at hLI2
              have HLI := Lib.hid hLI2
              have HSJ := HS2
              have e9 : (k : Int) + 1 = (j : Int) := by omega
              rw [e9]
              clear hLI2 e9 hjk
              have HCE := Lib.hid (HLI.out.cells HSJ.out)
              have u1 : ((j : Int) == (j : Int)) = true := by simp
              have u2 : ((s2.t : Int) == (s2.t : Int)) = true := by simp
              have u3 : (s2.c == s2.c) = true := by simp
              have u4 : (s2.a == s2.a) = true := by simp
              go_wp2_with fail
              go_region_held3 (fun w' => w'.cell? ⟨g8, 0, none⟩ = some (.int .i64 1) ∧ w'.cell? ⟨g7, 0, none⟩ = some (.int .i64 j) ∧ w'.cell? ⟨(w6.heap.size + 1), 1, none⟩ = some (.int .i64 s2.t) ∧ w'.cell? ⟨(w6.heap.size + 1), 2, none⟩ = some (.int .i64 s2.c) ∧ w'.cell? ⟨(w6.heap.size + 1), 3, none⟩ = some (.int .i64 s2.a) ∧ w'.cell? ⟨w6.heap.size, 0, none⟩ = some (.int .i64 s2.c) ∧ w'.cell? ⟨w6.heap.size, 1, none⟩ = some (.int .i64 s2.a) ∧ LInv w A cap (w6.heap.size + 1) w6.heap.size g4 g5 g7 g8 (some ⟨lb, lo', none⟩) (some ⟨tb, to, none⟩) m capL tl capT bs l zs j s2 j w')
                (first | exact HLI.out.drew.cells HSJ.out | exact LInv.cells (by assumption) HSJ.out | assumption)
                (first | (go_at_call 9; refine (LInv.awake (w := w) (A := A) (cap := cap) (r := (w6.heap.size + 1)) (fq := w6.heap.size) (g4 := g4) (g5 := g5) (g7 := g7) (g8 := g8) (L := (some ⟨lb, lo', none⟩)) (T := (some ⟨tb, to, none⟩)) (m := m) (capL := capL) (tl := tl) (capT := capT) (bs := bs) (l := l) (zs := zs) (j := j) (s2 := s2) (k := j) ?_).mono ?_; exact LInv.of (by assumption); rintro e w' ⟨rfl, hb⟩))
              go_wp2
              go_ret
              exact ⟨rfl, hb.below⟩
      · obtain rfl : k = m := by omega
        have hend : Ends (.start bs) l zs k := .inl ⟨HM.out.symm, hns⟩
        have hjk := HJ.out.once hend
        subst hjk
        have HLI := Lib.hid hI
        have HSJ := HS2
        have hlt' : ¬ (j : Int) < (j : Int) := by omega
        clear hI hend hns
        have HCE := Lib.hid (HLI.out.cells HSJ.out)
        have u1 : ((j : Int) == (j : Int)) = true := by simp
        have u2 : ((s2.t : Int) == (s2.t : Int)) = true := by simp
        have u3 : (s2.c == s2.c) = true := by simp
        have u4 : (s2.a == s2.a) = true := by simp
        go_wp2_with fail
        go_region_held3 (fun w' => w'.cell? ⟨g8, 0, none⟩ = some (.int .i64 1) ∧ w'.cell? ⟨g7, 0, none⟩ = some (.int .i64 j) ∧ w'.cell? ⟨(w6.heap.size + 1), 1, none⟩ = some (.int .i64 s2.t) ∧ w'.cell? ⟨(w6.heap.size + 1), 2, none⟩ = some (.int .i64 s2.c) ∧ w'.cell? ⟨(w6.heap.size + 1), 3, none⟩ = some (.int .i64 s2.a) ∧ w'.cell? ⟨w6.heap.size, 0, none⟩ = some (.int .i64 s2.c) ∧ w'.cell? ⟨w6.heap.size, 1, none⟩ = some (.int .i64 s2.a) ∧ LInv w A cap (w6.heap.size + 1) w6.heap.size g4 g5 g7 g8 L T j capL tl capT bs l zs j s2 j w')
          (first | exact HLI.out.drew.cells HSJ.out | exact LInv.cells (by assumption) HSJ.out | assumption)
          (first | (go_at_call 9; refine (LInv.awake (w := w) (A := A) (cap := cap) (r := (w6.heap.size + 1)) (fq := w6.heap.size) (g4 := g4) (g5 := g5) (g7 := g7) (g8 := g8) (L := L) (T := T) (m := j) (capL := capL) (tl := tl) (capT := capT) (bs := bs) (l := l) (zs := zs) (j := j) (s2 := s2) (k := j) ?_).mono ?_; exact LInv.of (by assumption); rintro e w' ⟨rfl, hb⟩))
        go_wp2
        go_ret
        exact ⟨rfl, hb.below⟩
  · obtain ⟨j, _, _, h1 | h1, _⟩ := hrel
    · cases h1
    · exact absurd h1 (by intro h; injection h with h; exact hne h)
end Go.Proofs.Ytiipkmfkelbpiaa
