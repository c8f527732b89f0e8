/-
  The walk through CurOwn: whatever bytes and number it is handed, it returns true, and changes nothing that was there. The statement itself is proved in the last text.
-/
import Derived.Test.YtiipkmfkelbpiaaAwake
namespace Go.Proofs.Ytiipkmfkelbpiaa
open Go.RowKit

/-- What holds while the bytes that were handed in are turned: all that was there is as it was, the Cur is as it began, the bytes are a row of the law's own. -/
def OwnInv (w : World) (B base p n : Nat) (G : Option Addr) (capG : Nat) (R : Option Addr) (bs : List Int) (wr : World) : Prop :=
  Below B w wr ∧ CurOk R wr p (.start bs) none ∧ ∃ ys, wr.ownsRow base 5 1 (.slice G n capG) n (by8 ys)

/-- The same, while the bytes that were told are turned: those that were kept stay. -/
def OwnInv2 (w : World) (B base base2 p m : Nat) (G : Option Addr) (capG : Nat) (K : Option Addr) (capK : Nat) (R : Option Addr) (s : St) (half : List Int) (wr : World) : Prop :=
  Below B w wr ∧ CurOk R wr p s none ∧ wr.ownsRow base2 5 1 (.slice K m capK) m (by8 half) ∧ base2 ≤ wr.heap.size ∧ ∃ ys, wr.ownsRow base 5 1 (.slice G m capG) m (by8 ys)

theorem take_half (bs : List Int) (n : Nat) (h : bs.length = n) : (St.start bs).take ((n : Int) / 2) = (bs.take (n / 2), ⟨bs, n / 2, 0, 0⟩) := by
  have e : ((n : Int) / 2).toNat = n / 2 := by omega
  have h1 : ¬ (n : Int) / 2 < 0 := by omega
  have h2 : ¬ (bs.length : Int) - ((0 : Nat) : Int) < (n : Int) / 2 := by omega
  simp only [St.take, St.start, St.next, ne_eq, not_true_eq_false, if_false, h1, h2, e, List.drop_zero, Nat.zero_add]

theorem take_rest (bs : List Int) (m : Nat) (h : m ≤ bs.length) : (St.take ⟨bs, m, 0, 0⟩ ((bs.length : Int) - (m : Int))) = (bs.drop m, ⟨bs, bs.length, 0, 0⟩) := by
  have e : ((bs.length : Int) - (m : Int)).toNat = bs.length - m := by omega
  have h1 : ¬ (bs.length : Int) - (m : Int) < 0 := by omega
  have h2 : ¬ (bs.length : Int) - (m : Int) < (bs.length : Int) - (m : Int) := by omega
  simp only [St.take, St.next, ne_eq, not_true_eq_false, if_false, h1, h2, e]
  rw [List.take_of_length_le (by simp), show m + (bs.length - m) = bs.length by omega]

theorem by8_set (ys : List Int) (k : Nat) (z : Int) : (by8 ys).set k (.int .u8 z) = by8 (ys.set k z) := by simp [by8, List.map_set]

theorem own_walk (A : Option Addr) (n cap : Nat) (bs : List Int) (x : Int) (w : World) (hl : bs.length = n) (hv : Lies w A (by8 bs)) (hs : ∀ z ∈ bs, 0 ≤ z ∧ z < 256) :
    Calls Try.prog 8 #[.slice A n cap, .int .i64 x] w fun e w' => e = .returned (.bool true) ∧ Below w.heap.size w w' := by
  have HV := Lib.hid hv
  have HL := Lib.hid hl
  have HS := Lib.hid hs
  clear hv hl hs
  go_enter Try.func8, Try.ntmps8
  go_wp2_with fail
  refine (peek_nil w).mono ?_
  rintro e w1 ⟨rfl, hb1⟩
  go_wp2_with fail
  refine (until_nil w1 1).mono ?_
  rintro e w2 ⟨rfl, hb2⟩
  have b2 := below_then hb1 hb2
  clear hb1 hb2
  go_wp2_with fail
  refine (fail_nil w2 11 3).mono ?_
  rintro e w3 ⟨rfl, hb3⟩
  have b3 := below_then b2 hb3
  clear b2 hb3
  go_wp2_with fail
  refine (must_nil w3).mono ?_
  rintro e w' ⟨rfl, rfl⟩
  go_wp2_with fail
  refine (try_nil w3 A n cap).mono ?_
  rintro e w4 ⟨rfl, hb4⟩
  have b4 := below_then b3 hb4
  clear b3 hb4
  go_wp2_with fail
  have bf := Box.new w4 30 [.int .i64 2, .int .i64 0]
  have b5 := below_then b4 ((Below.refl w4.heap.size w4).alloc (Nat.le_refl _) (.cells #[.int .i64 2, .int .i64 0] 30))
  clear b4
  generalize hq : w4.heap.size = q at bf ⊢
  generalize w4.alloc (.cells #[.int .i64 2, .int .i64 0] 30) = w5 at bf b5 ⊢
  clear hq
  refine (at_nil w5).mono ?_
  rintro e w' ⟨rfl, rfl⟩
  go_wp2_with fail
  refine (left_nil w5).mono ?_
  rintro e w' ⟨rfl, rfl⟩
  go_wp2_with fail
  refine (byte_nil w5).mono ?_
  rintro e w6 ⟨rfl, hb6⟩
  go_wp2_with fail
  refine (take_nil w6 x).mono ?_
  rintro e w7 ⟨rfl, hb7⟩
  go_wp2_with fail
  refine (fault_nil w7).mono ?_
  rintro e w8 ⟨rfl, hb8⟩
  have b58 := below_then (below_then hb6 hb7) hb8
  have b8 := below_then b5 b58
  have bf8 := bf.keep b58
  have d0 : w8.cell? ⟨q, 0, none⟩ = some (.int .i64 2) := bf8.cell 0
  have d1 : w8.cell? ⟨q, 1, none⟩ = some (.int .i64 0) := bf8.cell 1
  clear bf bf8 hb6 hb7 hb8 b58 b5
  by_cases h300 : 300 < n
  · have h3 : (300 : Int) < (n : Int) := by omega
    go_wp2_with fail
    refine (awake_calls w8).mono ?_
    rintro e w9 ⟨rfl, hb9⟩
    go_wp2
    go_ret
    exact ⟨rfl, below_then b8 hb9⟩
  · have h3 : ¬ (300 : Int) < (n : Int) := by omega
    have hlen : (by8 bs).length = n := by rw [by8_length]; exact HL.out
    have HLE := Lib.hid hlen
    have HB8 := Lib.hid b8
    clear hlen b8
    go_wp2_with (at_builtin; refine wpList_append_row _ rfl (.tmp 92) (.tmp 93) rfl w8.heap.size (.slice (some ⟨w8.heap.size, 0, none⟩) 0 0) 0 [] rfl (own_empty w8) A n cap (by8 bs) rfl HLE.out (HV.out.keep (below_then HB8.out ((Below.refl _ _).alloc (Nat.le_refl _) _))) by8_one (by omega) (by simp) ?_; intro v9 w9 hown9 hgr9 hob9; obtain ⟨G, capG, hv9, hG1, hG2, hG3, hG4⟩ := own_slice hown9; subst hv9; rw [Nat.zero_add, List.nil_append] at hown9)
    have b9 : Below w.heap.size w w9 := (below_then HB8.out ((Below.refl _ _).alloc (Nat.le_refl _) _)).grown hgr9 (by rw [size_alloc]; have := HB8.out.size; omega) (by intro k hk; cases hk; exact HB8.out.size)
    have hG5 : ∀ x, G = some x → x.block < w9.heap.size := by
      intro x hx
      subst hx
      rcases hown9.2 with ⟨hq, _⟩ | ⟨g, c, cur, hq, _, hh, _⟩
      · cases hq
      · injection hq with hq
        injection hq with hq
        subst hq
        exact own_lt hh
    have HB9 := Lib.hid b9
    have HO9 := Lib.hid hown9
    have HG3 := Lib.hid hG3
    have HG5 := Lib.hid hG5
    have hsz8 : w.heap.size ≤ w8.heap.size := HB8.out.size
    have hsz9 : w8.heap.size ≤ w9.heap.size := by have := hgr9.size; rw [size_alloc] at this; omega
    clear b9 hown9 hG1 hG2 hG3 hG4 hG5 hgr9 hob9 d0 d1
    refine (new_calls w9 G n capG bs HL.out (Lies.of_own HO9.out) HS.out (by omega) HG3.out).mono ?_
    rintro e w10 ⟨p, R, hp, hR, rfl, hc10, hb10⟩
    have I0 : OwnInv w w.heap.size w8.heap.size p n G capG R bs w10 := ⟨HB9.out.trans (hb10.mono (by omega)), hc10, bs, own_keep HO9.out hb10⟩
    have HR := Lib.hid hR
    clear hc10 hb10 HO9 HB9 HB8 HG3 hR
    go_wp2_with fail
    go_loopw [14] (fun i wr => ∃ k : Nat, k ≤ n ∧ i = .int .i64 k ∧ OwnInv w w.heap.size w8.heap.size p n G capG R bs wr) (fun i _ => n - (intOf i).toNat)
    case atStart => exact ⟨0, Nat.zero_le _, rfl, I0⟩
    case round =>
      obtain ⟨k, hk, rfl, hI⟩ := hrel
      clear I0
      by_cases hlt : k < n
      · obtain ⟨q1, q2, ys, q3⟩ := hI
        obtain ⟨g, cur, rfl, hg1, hg2, _⟩ := own_form q3 hlt
        have hg3 : g < w9.heap.size := HG5.out _ rfl
        have hyl : ys.length = n := by have := q3.1; rw [by8_length] at this; omega
        obtain ⟨b', o', e', hcell⟩ := (Lies.of_own q3).at_ (i := k) (by rw [by8_length]; omega)
        injection e' with e'
        injection e' with e1 e2
        subst e1 e2
        obtain ⟨z, hz⟩ : ∃ z, (by8 ys)[k]'(by rw [by8_length]; omega) = .int .u8 z := by simp [by8]
        rw [hz, Nat.zero_add] at hcell
        have hfr := own_frozen (i := k) hg2
        have HQ := Lib.hid (And.intro q1 (And.intro q2 q3))
        clear q1 q2 q3 hg2 hz
        have hlt' : (k : Int) < (n : Int) := by omega
        have hge' : (0 : Int) ≤ (k : Int) := by omega
        go_wp2_with fail
        refine ⟨⟨k + 1, by omega, by go_num, ?_⟩, by simp [intOf]; omega⟩
        obtain ⟨q1, q2, q3⟩ := HQ.out
        exact ⟨below_set q1 (by omega) k _, q2.far (fun x hx => by have := HR.out x hx; omega) (by omega) ((But.refl _ _).set k _), ys.set k _, by rw [← by8_set]; exact own_set q3 hlt _⟩
      · obtain ⟨q1, q2, _⟩ := hI
        obtain ⟨wo, hwo⟩ : ∃ wo, wo = wr := ⟨_, rfl⟩
        subst hwo
        have HQ1 := Lib.hid q1
        clear q1
        go_wp2_with fail
        refine (take_calls q2 ((n : Int) / 2)).mono ?_
        rw [take_half bs n HL.out]
        rintro e w11 ⟨A1, cap1, rfl, hown1, h11, hb11⟩
        have hm : (bs.take (n / 2)).length = n / 2 := by rw [List.length_take, HL.out]; omega
        simp only [] at hown1 h11
        rw [hm] at hown1
        simp only []
        rw [hm]
        have hp11 : w.heap.size ≤ p := by omega
        have hrl : 0 < n → ∀ x : Addr, R = some x → x.block < wo.heap.size := fun h0 x hx => q2.row_lt (by simp only [St.start]; rw [HL.out]; exact h0) hx
        have hplt : p < wo.heap.size := q2.lt
        have b11 : Below w.heap.size w w11 := HQ1.out.trans (hb11.below hp11 HQ1.out.size)
        have hszr : w.heap.size ≤ wo.heap.size := HQ1.out.size
        have hszr1 : wo.heap.size ≤ w11.heap.size := hb11.size
        have hG5 : ∀ x, A1 = some x → x.block < w11.heap.size := by
          intro x hx
          subst hx
          rcases hown1.2 with ⟨hq, _⟩ | ⟨g, c, cur, hq, _, hh, _⟩
          · cases hq
          · injection hq with hq
            injection hq with hq
            subst hq
            exact own_lt hh
        have HG5' := Lib.hid hG5
        have HO1 := Lib.hid hown1
        have H11 := Lib.hid h11
        have HB11 := Lib.hid b11
        have HRL := Lib.hid hrl
        have HM := Lib.hid hm
        clear hown1 h11 b11 hm hb11 q2 HQ1 hrl hG5 HG5
        go_wp2_with (at_builtin; refine wpList_append_row _ rfl (.tmp 116) (.tmp 117) rfl w11.heap.size (.slice (some ⟨w11.heap.size, 0, none⟩) 0 0) 0 [] rfl (own_empty w11) A1 (n / 2) cap1 (by8 (bs.take (n / 2))) rfl (by rw [by8_length]; exact HM.out) ((Lies.of_own HO1.out).keep ((Below.refl _ _).alloc (Nat.le_refl _) _)) by8_one (by omega) (by simp) ?_; intro v12 w12 hown12 hgr12 hob12; obtain ⟨K, capK, hv12, hK1, hK2, hK3, hK4⟩ := own_slice hown12; subst hv12; rw [Nat.zero_add, List.nil_append] at hown12)
        have hgb : Below w11.heap.size w11 w12 := ((Below.refl _ _).alloc (Nat.le_refl _) _).grown hgr12 (by rw [size_alloc]; omega) (by intro j hj; cases hj; exact Nat.le_refl _)
        have I2 : OwnInv2 w w.heap.size wo.heap.size w11.heap.size p (n / 2) A1 cap1 K capK R ⟨bs, n / 2, 0, 0⟩ (bs.take (n / 2)) w12 :=
          ⟨HB11.out.trans (hgb.mono (by omega)), H11.out.keep hgb, hown12, hgb.size, _, own_keep HO1.out hgb⟩
        clear hown12 hgr12 hob12 hK1 hK2 hK3 hK4 hgb HO1 H11 HB11
        generalize hmm : n / 2 = m at I2 HM ⊢
        have hmn : m ≤ n := by omega
        have HMM := Lib.hid hmm
        clear hmm
        generalize hhalf : bs.take m = half at I2
        have HHALF := Lib.hid hhalf
        clear hhalf
        go_loopw [17] (fun i wr => ∃ j : Nat, j ≤ m ∧ i = .int .i64 j ∧ OwnInv2 w w.heap.size wo.heap.size w11.heap.size p m A1 cap1 K capK R ⟨bs, m, 0, 0⟩ half wr) (fun i _ => m - (intOf i).toNat)
        case atStart => exact ⟨0, Nat.zero_le _, rfl, I2⟩
        case round =>
          obtain ⟨j, hj, rfl, hI⟩ := hrel
          clear I2
          by_cases hlj : j < m
          · obtain ⟨q1, q2, q4, q5, ys, q3⟩ := hI
            obtain ⟨g, cur, rfl, hg1, hg2, _⟩ := own_form q3 hlj
            have hg3 : g < w11.heap.size := HG5'.out _ rfl
            have hyl : ys.length = m := by have := q3.1; rw [by8_length] at this; omega
            obtain ⟨b', o', e', hcell⟩ := (Lies.of_own q3).at_ (i := j) (by rw [by8_length]; omega)
            injection e' with e'
            injection e' with e1 e2
            subst e1 e2
            obtain ⟨z, hz⟩ : ∃ z, (by8 ys)[j]'(by rw [by8_length]; omega) = .int .u8 z := by simp [by8]
            rw [hz, Nat.zero_add] at hcell
            have hfr := own_frozen (i := j) hg2
            have HQ := Lib.hid (And.intro q1 (And.intro q2 (And.intro q4 (And.intro q5 q3))))
            clear q1 q2 q3 q4 q5 hg2 hz
            have hlt' : (j : Int) < (m : Int) := by omega
            have hge' : (0 : Int) ≤ (j : Int) := by omega
            go_wp2_with fail
            refine ⟨⟨j + 1, by omega, by go_num, ?_⟩, by simp [intOf]; omega⟩
            obtain ⟨q1, q2, q4, q5, q3⟩ := HQ.out
            have hrl := HRL.out (by omega)
            exact ⟨below_set q1 (by omega) j _, q2.far (fun x hx => by have := hrl x hx; omega) (by omega) ((But.refl _ _).set j _), own_but_lt q4 ((But.refl g _).set j _) hg3, by simpa [World.setCell] using q5, ys.set j _, by rw [← by8_set]; exact own_set q3 hlj _⟩
          · obtain ⟨q1, q2, q4, q5, _⟩ := hI
            have HQ1 := Lib.hid q1
            have HQ4 := Lib.hid q4
            clear q1 q4
            go_wp2_with fail
            refine q2.left.mono ?_
            rintro e w13 ⟨rfl, hs13⟩
            go_wp2_with fail
            have h13 := q2.same hs13
            refine (take_calls h13 _).mono ?_
            rw [take_rest bs m (by rw [HL.out]; exact hmn)]
            rintro e w14 ⟨A2, cap2, rfl, hown2, h14, hb14⟩
            simp only [] at hown2
            simp only []
            have hsz13 : w13.heap.size = wr.heap.size := by rw [hs13.heap]
            have b14 : Below w.heap.size w w14 := (HQ1.out.trans hs13.below).trans (hb14.below hp11 (by rw [hsz13]; omega))
            have hkeep : w14.ownsRow w11.heap.size 5 1 (.slice K m capK) m (by8 half) := own_but_lt (own_keep HQ4.out hs13.below) hb14 (by omega)
            have hrest : Lies w14 A2 (by8 (bs.drop m)) := Lies.of_own hown2
            have hrl2 : (bs.drop m).length = n - m := by rw [List.length_drop, HL.out]
            rw [hrl2]
            have HB14 := Lib.hid b14
            have HK14 := Lib.hid hkeep
            have HR14 := Lib.hid hrest
            have HRL2 := Lib.hid hrl2
            have hsz14 : w11.heap.size ≤ w14.heap.size := by have := hb14.size; omega
            clear b14 hkeep hrest hrl2 hb14 h14 hown2 h13 hs13 hsz13 q2 HQ1 HQ4
            go_wp2_with (at_builtin; refine wpList_append_row _ rfl (.tmp 137) (.tmp 138) rfl w11.heap.size (.slice K m capK) m (by8 half) rfl HK14.out A2 (n - m) cap2 (by8 (bs.drop m)) rfl (by rw [by8_length]; exact HRL2.out) HR14.out by8_one (by omega) hsz14 ?_; intro v15 w15 hown15 hgr15 hob15; obtain ⟨L, capL, hv15, hL1, hL2, hL3, hL4⟩ := own_slice hown15; subst hv15)
            have e15 : by8 half ++ by8 (bs.drop m) = by8 bs := by rw [← by8_append, ← HHALF.out, List.take_append_drop]
            have b15 : Below w.heap.size w w15 := HB14.out.grown hgr15 (by omega) (by
              intro i hi
              rcases HK14.out.2 with ⟨hq, _⟩ | ⟨g, c, cur, hq, hg, _⟩
              · rw [hq] at hi; cases hi
              · rw [hq] at hi; injection hi with hi; simp only [] at hi; omega)
            rw [e15, show m + (n - m) = n by omega] at hown15
            have hl15 := Lies.of_own hown15
            clear e15 hown15 hgr15 hob15 hL1 hL3 hL4
            refine (same_calls w15 L A n n capL cap bs bs HL.out HL.out hl15 (HV.out.keep b15) (by unfold maxLen; omega) (by unfold maxLen; omega)).mono ?_
            rintro e w16 ⟨rfl, hs16⟩
            rw [show (decide (bs = bs)) = true by simp]
            go_wp2_with fail
            refine (awake_calls w16).mono ?_
            rintro e w17 ⟨rfl, hb17⟩
            go_wp2
            go_ret
            have hz : w.heap.size ≤ w16.heap.size := by rw [hs16.heap]; exact b15.size
            exact ⟨rfl, (b15.trans hs16.below).trans (hb17.mono hz)⟩
end Go.Proofs.Ytiipkmfkelbpiaa
