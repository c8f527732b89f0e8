/-
  TCheck, TRefLess, TOne, TSame. No statement of the seat is proved here.
-/
import Derived.Test.YtbcmchkgamkceaaGreatDoorTLess
import Derived.Test.YtbcmchkgamkceaaGreatDoorGrTText
import Derived.Test.YtbcmchkgamkceaaGreatDoorGrKIs
import Derived.Test.YtbcmchkgamkceaaGreatDoorGrTMath
/-
  Package tag: Check and textOf, and the document's. No statement of the seat is proved here.
-/
namespace Go.Proofs.YtbcmchkgamkceaaGreatDoor
open Go.RowKit

theorem ctext_says {c lo hi : Int} {s : ByteArray} {l : List UInt8} {a b : Int} (h : Str s l) (hz : (s.size : Int) ≤ 100000) (ha : faultOf c l lo hi = (a, b)) (w : World) : Calls Tryz.prog 69 #[.int .i64 c, .string s, .int .i64 lo, .int .i64 hi] w fun e w' => e = .returned (.agg #[.int .i64 a, .int .i64 b]) ∧ Below w.heap.size w w' := by
  have := text_calls c s l h hz lo hi w
  rw [ha] at this
  exact this

section
variable {x y u v : Int}
theorem feq_in (w : World) : (Op.equalIn 10000 42 (.agg #[.int .i64 x, .int .i64 y]) (.agg #[.int .i64 u, .int .i64 v])).run Tryz.prog w = .ok (decide ((x, y) = (u, v))) w := by
  have u3 := Tryz.underlying3
  have a3 := Tryz.isAgg3
  have z3 := Tryz.sizeOf3
  have u4 := Tryz.underlying23
  have a4 := Tryz.isAgg23
  have z4 := Tryz.sizeOf23
  have hS : Tryz.prog.underlying 42 = some (.struct (Tryz.prog.fieldsOf 42)) := by kernel_rfl
  have hp : Tryz.prog.stoodInHeld 42 = false := by kernel_rfl
  rw [show (10000 : Nat) = 9999 + 1 from rfl, run_equalIn_agg w 9999 42 _ _ hS hp]
  simp only [Program.fieldsOf, Tryz.underlying42]
  go_simp
  by_cases h1 : x = u <;> by_cases h2 : y = v <;> simp [h1, h2]
theorem feq_run {q : Bool} (hq : decide ((x, y) = (u, v)) = q) (w : World) : (binOp .eql 42 (.agg #[.int .i64 x, .int .i64 y]) (.agg #[.int .i64 u, .int .i64 v])).run Tryz.prog w = .ok (.bool q) w := by
  rw [run_eql_struct, feq_in, hq]; rfl
theorem fne_run {q : Bool} (hq : decide ((x, y) = (u, v)) = q) (w : World) : (binOp .neq 42 (.agg #[.int .i64 x, .int .i64 y]) (.agg #[.int .i64 u, .int .i64 v])).run Tryz.prog w = .ok (.bool (!q)) w := by
  rw [run_neq_struct, feq_in, hq]; rfl
theorem fguard (op : BinOp) (p q : Operand) (xs ys : Array Value) (w : World) : (eqGuard op 42 p q (.agg xs) (.agg ys)).run Tryz.prog w = .ok () w := run_eqGuard_agg w op _ p q xs ys (by kernel_rfl)
end

/-- How a tag is wrong. -/
def chkT (t : Tg) : Int := if rightT t = true then 0 else 19

/-- A tag, and a fault that is none, lie. -/
structure CAt (w : World) (s t : ByteArray) (w' : World) : Prop where
  kept : Below w.heap.size w w'
  one : Box w' w.heap.size 53 [.string s, .string t]
  two : Box w' (w.heap.size + 1) 42 [.int .i64 0, .int .i64 0]
section
variable {w w1 w2 : World} {s t : ByteArray}
theorem CAt.next (h : CAt w s t w1) (k : Below w1.heap.size w1 w2) : CAt w s t w2 := ⟨below_then h.kept k, h.one.keep k, h.two.keep k⟩
theorem CAt.start (w : World) (s t : ByteArray) : CAt w s t ((w.alloc (.cells #[.string s, .string t] 53)).alloc (.cells #[.int .i64 0, .int .i64 0] 42)) :=
  ⟨((Below.refl _ _).alloc (Nat.le_refl _) _).alloc (by rw [size_alloc]; omega) _, (Box.new w 53 [_, _]).alloc _, by have := Box.new (w.alloc (.cells #[.string s, .string t] 53)) 42 [.int .i64 0, .int .i64 0]; rwa [size_alloc] at this⟩
theorem CAt.cells (h : CAt w s t w1) : w1.cell? ⟨w.heap.size, 0, none⟩ = some (.string s) ∧ w1.cell? ⟨w.heap.size, 1, none⟩ = some (.string t) ∧ w1.cell? ⟨w.heap.size + 1, 0, none⟩ = some (.int .i64 0) ∧ w1.cell? ⟨w.heap.size + 1, 1, none⟩ = some (.int .i64 0) ∧ CAt w s t w1 :=
  ⟨h.one.cell 0, h.one.cell 1, h.two.cell 0, h.two.cell 1, h⟩
theorem CAt.of {P1 P2 P3 P4 : Prop} (h : P1 ∧ P2 ∧ P3 ∧ P4 ∧ CAt w s t w1) : CAt w s t w1 := h.2.2.2.2
end

theorem right_is {a : Tg} {x y u v : Int} {p q : Bool} (h1 : faultOf 2 a.1 1 64 = (x, y)) (h2 : faultOf 3 a.2 0 100 = (u, v)) (hp : decide ((x, y) = (0, 0)) = p) (hq : decide ((u, v) = (0, 0)) = q) : rightT a = (p && q) := by
  unfold rightT
  rw [h1, h2, ← hp, ← hq]
  by_cases e1 : (x, y) = ((0, 0) : Int × Int) <;> by_cases e2 : (u, v) = ((0, 0) : Int × Int) <;> simp [e1, e2]

set_option maxRecDepth 100000 in
set_option maxHeartbeats 2000000 in
theorem check_calls {s t : ByteArray} {a : Tg} (hs : Str s a.1) (ht : Str t a.2) (hz : (s.size : Int) ≤ 100000) (hz2 : (t.size : Int) ≤ 100000) (w : World) :
    Calls Tryz.prog 57 #[.agg #[.string s, .string t]] w fun e w' => e = .returned (.int .i64 (chkT a)) ∧ Below w.heap.size w w' := by
  obtain ⟨x, y, hxy⟩ : ∃ x y, faultOf 2 a.1 1 64 = (x, y) := ⟨_, _, rfl⟩
  obtain ⟨u, v, huv⟩ : ∃ u v, faultOf 3 a.2 0 100 = (u, v) := ⟨_, _, rfl⟩
  have HK := Lib.hid (fun w' (h : CAt w s t w') => (ctext_says hs hz hxy w').mono fun e w'' (k : _ ∧ _) => And.intro k.1 (h.next k.2))
  have HV := Lib.hid (fun w' (h : CAt w s t w') => (ctext_says ht hz2 huv w').mono fun e w'' (k : _ ∧ _) => And.intro k.1 (h.next k.2))
  obtain ⟨p, hp⟩ : ∃ p, decide ((x, y) = ((0, 0) : Int × Int)) = p := ⟨_, rfl⟩
  obtain ⟨q, hq⟩ : ∃ q, decide ((u, v) = ((0, 0) : Int × Int)) = q := ⟨_, rfl⟩
  have hc : chkT a = if (p && q) = true then 0 else 19 := by unfold chkT; rw [right_is hxy huv hp hq]
  have k1 := fne_run hp
  have k2 := fne_run hq
  have hg := fguard
  rw [hc]
  have HS := Lib.hid ((CAt.start w s t).next (Same.below (Same.drewN _ 1)))
  clear hxy huv hs ht hz hz2 hp hq hc
  go_enter Tryz.func57, Tryz.ntmps57
  go_wp2_with fail
  cases p
  · go_region_held3 (fun w' => w'.cell? ⟨w.heap.size, 0, none⟩ = some (.string s) ∧ w'.cell? ⟨w.heap.size, 1, none⟩ = some (.string t) ∧ w'.cell? ⟨w.heap.size + 1, 0, none⟩ = some (.int .i64 0) ∧ w'.cell? ⟨w.heap.size + 1, 1, none⟩ = some (.int .i64 0) ∧ CAt w s t w')
      (first | exact CAt.cells HS.out | exact CAt.cells HB6.out)
      (first | (go_at_call 69; refine (HK.out _ (CAt.of (by assumption))).mono ?_; rintro e w6 ⟨rfl, hb6⟩; have HB6 := Lib.hid hb6; clear hb6))
    all_goals
      go_wp2_with fail
      go_ret
      exact ⟨rfl, HB6.out.kept⟩
  · go_region_held3 (fun w' => w'.cell? ⟨w.heap.size, 0, none⟩ = some (.string s) ∧ w'.cell? ⟨w.heap.size, 1, none⟩ = some (.string t) ∧ w'.cell? ⟨w.heap.size + 1, 0, none⟩ = some (.int .i64 0) ∧ w'.cell? ⟨w.heap.size + 1, 1, none⟩ = some (.int .i64 0) ∧ CAt w s t w')
      (first | exact CAt.cells HS.out | exact CAt.cells HB6.out)
      (first | (go_at_call 69; refine (HK.out _ (CAt.of (by assumption))).mono ?_; rintro e w6 ⟨rfl, hb6⟩; have HB6 := Lib.hid hb6; clear hb6))
    all_goals
      have HS6 := Lib.hid (HB6.out.next (Same.below (Same.drewN _ 1)))
      clear HS HB6
      go_wp2_with fail
      cases q
    all_goals
      go_region_held3 (fun w' => w'.cell? ⟨w.heap.size, 0, none⟩ = some (.string s) ∧ w'.cell? ⟨w.heap.size, 1, none⟩ = some (.string t) ∧ w'.cell? ⟨w.heap.size + 1, 0, none⟩ = some (.int .i64 0) ∧ w'.cell? ⟨w.heap.size + 1, 1, none⟩ = some (.int .i64 0) ∧ CAt w s t w')
        (first | exact CAt.cells HS6.out | exact CAt.cells HB7.out)
        (first | (go_at_call 69; refine (HV.out _ (CAt.of (by assumption))).mono ?_; rintro e w7 ⟨rfl, hb7⟩; have HB7 := Lib.hid hb7; clear hb7))
    all_goals
      go_wp2_with fail
      go_ret
      exact ⟨rfl, HB7.out.kept⟩
end Go.Proofs.YtbcmchkgamkceaaGreatDoor

/-
  Package tag: the document's Right, Ahead and Less. No statement of the seat is proved here.
-/
namespace Go.Proofs.YtbcmchkgamkceaaGreatDoor
open Go.RowKit

section
variable {s t : ByteArray} {a : Tg}
theorem rtext_says {c lo hi : Int} {s : ByteArray} {l : List UInt8} {a b : Int} (hc : isCls c = true) (h : Str s l) (hz : (s.size : Int) ≤ 100000) (hlo : ¬ lo < 0) (hhi : ¬ hi < lo) (ha : faultOf c l lo hi = (a, b)) (w : World) : Calls Tryz.prog 143 #[.int .i64 c, .string s, .int .i64 lo, .int .i64 hi] w fun e w' => e = .returned (.agg #[.int .i64 a, .int .i64 b]) ∧ Below w.heap.size w w' := by
  have := rtext_calls c hc s l h hz lo hi hlo hhi w
  rw [ha] at this
  exact this

set_option maxRecDepth 100000 in
set_option maxHeartbeats 2000000 in
theorem right_calls (hs : Str s a.1) (ht : Str t a.2) (hz : (s.size : Int) ≤ 100000) (hz2 : (t.size : Int) ≤ 100000) (w : World) :
    Calls Tryz.prog 106 #[.agg #[.string s, .string t]] w fun e w' => e = .returned (.bool (rightT a)) ∧ Below w.heap.size w w' := by
  obtain ⟨x, y, hxy⟩ : ∃ x y, faultOf 2 a.1 1 64 = (x, y) := ⟨_, _, rfl⟩
  obtain ⟨u, v, huv⟩ : ∃ u v, faultOf 3 a.2 0 100 = (u, v) := ⟨_, _, rfl⟩
  have HK := Lib.hid (rtext_says (by decide) hs hz (by decide) (by decide) hxy)
  have HV := Lib.hid (rtext_says (by decide) ht hz2 (by decide) (by decide) huv)
  obtain ⟨p, hp⟩ : ∃ p, decide ((x, y) = ((0, 0) : Int × Int)) = p := ⟨_, rfl⟩
  obtain ⟨q, hq⟩ : ∃ q, decide ((u, v) = ((0, 0) : Int × Int)) = q := ⟨_, rfl⟩
  rw [right_is hxy huv hp hq]
  have k1 := feq_run hp
  have k2 := feq_run hq
  have hg := fguard
  clear hxy huv hs ht hz hz2 hp hq
  have b0 := Box.new w 53 [.string s, .string t]
  have HB := Lib.hid (And.intro b0 ((Below.refl w.heap.size w).alloc (Nat.le_refl _) (.cells #[.string s, .string t] 53)))
  clear b0
  go_enter Tryz.func106, Tryz.ntmps106
  go_wp2_with fail
  refine (HK.out _).mono ?_
  rintro e w1 ⟨rfl, hb⟩
  have HB1 := Lib.hid (And.intro (HB.out.1.keep hb) (Below.trans HB.out.2 (hb.mono HB.out.2.size)))
  clear hb HB HK
  have c1 : w1.cell? ⟨w.heap.size, 1, none⟩ = some (.string t) := HB1.out.1.cell 1
  cases p
  · go_wp2_with fail
    go_ret
    exact ⟨rfl, HB1.out.2⟩
  · go_wp2_with fail
    refine (HV.out _).mono ?_
    rintro e w2 ⟨rfl, hb⟩
    have HB2 := Lib.hid (Below.trans HB1.out.2 (hb.mono HB1.out.2.size))
    clear hb HB1 HV
    go_wp2_with fail
    go_ret
    exact ⟨by simp, HB2.out⟩
end

/-- Where two texts part. -/
theorem ltB_at {a b : List UInt8} {i : Nat} (h1 : i < a.length) (h2 : i < b.length) (he : ∀ j (h : j < a.length) (g : j < b.length), j < i → a[j] = b[j]) (hn : a[i] ≠ b[i]) : ltB a b = decide (a[i].toNat < b[i].toNat) := by
  induction i generalizing a b with
  | zero =>
    match a, b, h1, h2 with
    | x :: a, y :: b, _, _ =>
      simp only [List.getElem_cons_zero] at hn ⊢
      unfold ltB Op.bytesLess
      have hxy : (x == y) = false := by simpa using hn
      rw [hxy, Bool.false_and, Bool.or_false]
      rfl
  | succ i ih =>
    match a, b, h1, h2 with
    | x :: a, y :: b, h1, h2 =>
      have e0 := he 0 (by simp) (by simp) (by omega)
      simp only [List.getElem_cons_zero] at e0
      subst e0
      simp only [List.getElem_cons_succ] at hn ⊢
      rw [← ih (by simpa using h1) (by simpa using h2) (fun j h g hj => by have := he (j + 1) (by simpa using h) (by simpa using g) (by omega); simpa using this) hn]
      show (decide (x < x) || (x == x && ltB a b)) = ltB a b
      have hx : ¬ x < x := by simp
      simp [hx]
theorem ltB_end {a b : List UInt8} (he : ∀ j (h : j < a.length) (g : j < b.length), a[j] = b[j]) : ltB a b = decide (a.length < b.length) := by
  induction a generalizing b with
  | nil =>
    cases b with
    | nil => rfl
    | cons y b => unfold ltB Op.bytesLess; simp
  | cons x a ih =>
    cases b with
    | nil => unfold ltB Op.bytesLess; simp
    | cons y b =>
      have e0 := he 0 (by simp) (by simp)
      simp only [List.getElem_cons_zero] at e0
      subst e0
      have := ih (b := b) (fun j h g => by have := he (j + 1) (by simpa using h) (by simpa using g); simpa using this)
      show (decide (x < x) || (x == x && ltB a b)) = _
      have hx : ¬ x < x := by simp
      simp [hx, this]

set_option maxRecDepth 100000 in
set_option maxHeartbeats 2000000 in
theorem rahead_calls {s t : ByteArray} {a b : List UInt8} (hs : Str s a) (ht : Str t b) (hz : (s.size : Int) ≤ 100000) (hz2 : (t.size : Int) ≤ 100000) (w : World) :
    Calls Tryz.prog 107 #[.string s, .string t] w fun e w' => e = .returned (.bool (ltB a b)) ∧ Below w.heap.size w w' := by
  have n1 := hs.size
  have n2 := ht.size
  have HS := Lib.hid (And.intro hs ht)
  obtain ⟨q, hq⟩ : ∃ q, q = ltB a b := ⟨_, rfl⟩
  rw [← hq]
  have HQ := Lib.hid hq
  clear hq hs ht
  go_enter Tryz.func107, Tryz.ntmps107
  go_wp2_with fail
  go_loopw [5] (fun v5 wr => ∃ i : Nat, v5 = .int .i64 i ∧ i ≤ a.length ∧ i ≤ b.length ∧ Hid (Below w.heap.size w wr ∧ ∀ j (h : j < a.length) (g : j < b.length), j < i → a[j] = b[j])) (fun v5 _ => a.length - (intOf v5).toNat)
  case atStart => exact ⟨0, rfl, by omega, by omega, ⟨Below.refl _ _, fun j _ _ hj => absurd hj (by omega)⟩⟩
  case round =>
    obtain ⟨i, rfl, hia, hib, hrel⟩ := hrel
    by_cases h1 : i < a.length
    · have g1 : (i : Int) < (s.size : Int) := by omega
      by_cases h2 : i < b.length
      · have g2 : (i : Int) < (t.size : Int) := by omega
        have x1 := HS.out.1.index (i := (i : Int)) i rfl h1
        have x2 := HS.out.2.index (i := (i : Int)) i rfl h2
        obtain ⟨x, hx⟩ : ∃ x : Int, x = (a[i].toNat : Int) := ⟨_, rfl⟩
        obtain ⟨y, hy⟩ : ∃ y : Int, y = (b[i].toNat : Int) := ⟨_, rfl⟩
        rw [← hx] at x1
        rw [← hy] at x2
        by_cases hxy : x = y
        · have HE := Lib.hid (show a[i] = b[i] from UInt8.toNat_inj.1 (by omega))
          subst hxy
          clear hx hy n1 n2
          go_wp2_with fail
          go_quiet (fail)
          go_wp2_with fail
          refine ⟨⟨i + 1, by go_num, by omega, by omega, ⟨hrel.out.1.trans (Same.drewN _ _).below, ?_⟩⟩, by simp [intOf]; omega⟩
          intro j h g hj
          rcases Nat.lt_or_ge j i with h' | h'
          · exact hrel.out.2 j h g h'
          · obtain rfl : i = j := by omega
            exact HE.out
        · have HE := Lib.hid (show q = decide (x < y) by
            rw [HQ.out, ltB_at h1 h2 hrel.out.2 (fun e => hxy (by rw [hx, hy, e]))]
            exact decide_eq_decide.2 (by omega))
          have hne : (x == y) = false := by simp [hxy]
          have HXY := Lib.hid hxy
          clear hx hy n1 n2 hxy
          go_wp2_with fail
          go_quiet (fail)
          go_wp2_with fail
          go_quiet (fail)
          go_wp2_with fail
          go_ret
          exact ⟨by rw [HE.out]; first | done | rfl, (hrel.out.1.trans (Same.drewN _ _).below).trans (Same.drewN _ _).below⟩
      · have g2 : ¬ (i : Int) < (t.size : Int) := by omega
        have HE := Lib.hid (show q = decide (s.size < t.size) by
            rw [HQ.out, ltB_end (fun j h g => hrel.out.2 j h g (by omega))]
            exact decide_eq_decide.2 (by omega))
        clear n1 n2
        go_wp2_with fail
        go_ret
        exact ⟨by rw [HE.out]; first | done | rfl, hrel.out.1⟩
    · have g1 : ¬ (i : Int) < (s.size : Int) := by omega
      have HE := Lib.hid (show q = decide (s.size < t.size) by
            rw [HQ.out, ltB_end (fun j h g => hrel.out.2 j h g (by omega))]
            exact decide_eq_decide.2 (by omega))
      clear n1 n2
      go_wp2_with fail
      go_ret
      exact ⟨by rw [HE.out]; first | done | rfl, hrel.out.1⟩

/-- The document's Less: both tags lie. -/
structure RAt (w : World) (s t u v : ByteArray) (w' : World) : Prop where
  kept : Below w.heap.size w w'
  one : Box w' w.heap.size 53 [.string s, .string t]
  two : Box w' (w.heap.size + 1) 53 [.string u, .string v]
theorem RAt.next {w w1 w2 : World} {s t u v : ByteArray} (h : RAt w s t u v w1) (k : Below w1.heap.size w1 w2) : RAt w s t u v w2 := ⟨below_then h.kept k, h.one.keep k, h.two.keep k⟩
theorem RAt.start (w : World) (s t u v : ByteArray) : RAt w s t u v ((w.alloc (.cells #[.string s, .string t] 53)).alloc (.cells #[.string u, .string v] 53)) :=
  ⟨(LAt.start w s t u v).grown.below, (LAt.start w s t u v).one, (LAt.start w s t u v).two⟩

set_option maxRecDepth 100000 in
set_option maxHeartbeats 2000000 in
theorem rless_calls {s t u v : ByteArray} {a b : Tg} (hs : Str s a.1) (ht : Str t a.2) (hu : Str u b.1) (hv : Str v b.2) (zs : (s.size : Int) ≤ 100000) (zt : (t.size : Int) ≤ 100000) (zu : (u.size : Int) ≤ 100000) (zv : (v.size : Int) ≤ 100000) (w : World) :
    Calls Tryz.prog 65 #[.agg #[.string s, .string t], .agg #[.string u, .string v]] w fun e w' => e = .returned (.bool (ltT a b)) ∧ Below w.heap.size w w' := by
  have HK := Lib.hid (rahead_calls hs hu zs zu)
  have HV := Lib.hid (rahead_calls ht hv zt zv)
  have he := str_eq hs hu
  have hl : ltT a b = (ltB a.1 b.1 || (a.1 == b.1 && ltB a.2 b.2)) := rfl
  rw [hl]
  generalize ltB a.1 b.1 = p at HK ⊢
  generalize ltB a.2 b.2 = q at HV ⊢
  generalize (a.1 == b.1) = r at he ⊢
  have HS := Lib.hid (RAt.start w s t u v)
  clear hl hs ht hu hv
  go_enter Tryz.func65, Tryz.ntmps65
  go_wp2_with fail
  refine (HK.out _).mono ?_
  rintro e w1 ⟨rfl, hb⟩
  have HS1 := Lib.hid (HS.out.next hb)
  clear hb HS HK
  have c0 : w1.cell? ⟨w.heap.size, 0, none⟩ = some (.string s) := HS1.out.one.cell 0
  have c1 : w1.cell? ⟨w.heap.size, 1, none⟩ = some (.string t) := HS1.out.one.cell 1
  have d0 : w1.cell? ⟨w.heap.size + 1, 0, none⟩ = some (.string u) := HS1.out.two.cell 0
  have d1 : w1.cell? ⟨w.heap.size + 1, 1, none⟩ = some (.string v) := HS1.out.two.cell 1
  cases p
  · cases r
    · go_wp2_with fail
      go_ret
      exact ⟨rfl, HS1.out.kept⟩
    · go_wp2_with fail
      refine (HV.out _).mono ?_
      rintro e w2 ⟨rfl, hb⟩
      have HS2 := Lib.hid (HS1.out.next hb)
      clear hb HS1 HV c0 c1 d0 d1
      go_wp2_with fail
      go_ret
      exact ⟨by simp, HS2.out.kept⟩
  · go_wp2_with fail
    go_ret
    exact ⟨rfl, HS1.out.kept⟩
end Go.Proofs.YtbcmchkgamkceaaGreatDoor

/-
  Package tag: textOf; the document's One. No statement of the seat is proved here.
-/
namespace Go.Proofs.YtbcmchkgamkceaaGreatDoor
open Go.RowKit

section
variable {s t : ByteArray} {a : Tg}
theorem txt_nil (h : a.2 = []) : txt a = a.1 := by unfold txt; rw [if_pos h]
theorem txt_some (h : a.2 ≠ []) : txt a = a.1 ++ [58] ++ a.2 := by unfold txt; rw [if_neg h]; simp
theorem str_empty {l : List UInt8} (h : Str t l) {q : Bool} (hq : decide (l = []) = q) : t.toList.isEmpty = q := by
  rw [h.toList, ← hq]
  cases l <;> simp

set_option maxRecDepth 100000 in
set_option maxHeartbeats 2000000 in
theorem textOf_calls (hs : Str s a.1) (ht : Str t a.2) (hz : (s.size : Int) ≤ 100000) (hz2 : (t.size : Int) ≤ 100000) (w : World) :
    Calls Tryz.prog 58 #[.agg #[.string s, .string t]] w fun e w' => (∃ r, e = .returned (.string r) ∧ Str r (txt a)) ∧ Below w.heap.size w w' := by
  obtain ⟨q, hq⟩ : ∃ q, decide (a.2 = []) = q := ⟨_, rfl⟩
  have he := str_empty ht hq
  have hb := Lib.hid ((Below.refl w.heap.size w).alloc (Nat.le_refl _) (.cells #[.string s, .string t] 53))
  cases q
  · have HX := Lib.hid (show Str (s ++ ⟨#[58]⟩ ++ t) (txt a) by rw [txt_some (by simpa using hq)]; exact (hs.append rfl).append ht)
    have h1 : ¬ (9223372036854775807 < s.size + (⟨#[58]⟩ : ByteArray).size) := by have : (⟨#[58]⟩ : ByteArray).size = 1 := rfl; omega
    have h2 : ¬ (9223372036854775807 < (s ++ (⟨#[58]⟩ : ByteArray)).size + t.size) := by have : (⟨#[58]⟩ : ByteArray).size = 1 := rfl; rw [ByteArray.size_append]; omega
    clear hq hs ht
    go_enter Tryz.func58, Tryz.ntmps58
    go_wp2_with fail
    go_ret
    exact ⟨⟨_, rfl, HX.out⟩, hb.out⟩
  · have HX := Lib.hid (show Str s (txt a) by rw [txt_nil (by simpa using hq)]; exact hs)
    clear hq hs ht
    go_enter Tryz.func58, Tryz.ntmps58
    go_wp2_with fail
    go_ret
    exact ⟨⟨_, rfl, HX.out⟩, hb.out⟩

set_option maxRecDepth 100000 in
set_option maxHeartbeats 2000000 in
theorem rOne_calls (hs : Str s a.1) (ht : Str t a.2) (hz : (s.size : Int) ≤ 100000) (hz2 : (t.size : Int) ≤ 100000) (w : World) :
    Calls Tryz.prog 67 #[.agg #[.string s, .string t]] w fun e w' => (∃ r, e = .returned (.string r) ∧ Str r (txt a)) ∧ Below w.heap.size w w' := by
  obtain ⟨q, hq⟩ : ∃ q, decide (a.2 = []) = q := ⟨_, rfl⟩
  have he := str_empty ht hq
  have hb := Lib.hid ((Below.refl w.heap.size w).alloc (Nat.le_refl _) (.cells #[.string s, .string t] 53))
  cases q
  · have HX := Lib.hid (show Str (s ++ ⟨#[58]⟩ ++ t) (txt a) by rw [txt_some (by simpa using hq)]; exact (hs.append rfl).append ht)
    have h1 : ¬ (9223372036854775807 < s.size + (⟨#[58]⟩ : ByteArray).size) := by have : (⟨#[58]⟩ : ByteArray).size = 1 := rfl; omega
    have h2 : ¬ (9223372036854775807 < (s ++ (⟨#[58]⟩ : ByteArray)).size + t.size) := by have : (⟨#[58]⟩ : ByteArray).size = 1 := rfl; rw [ByteArray.size_append]; omega
    clear hq hs ht
    go_enter Tryz.func67, Tryz.ntmps67
    go_wp2_with fail
    go_ret
    exact ⟨⟨_, rfl, HX.out⟩, hb.out⟩
  · have HX := Lib.hid (show Str s (txt a) by rw [txt_nil (by simpa using hq)]; exact hs)
    clear hq hs ht
    go_enter Tryz.func67, Tryz.ntmps67
    go_wp2_with fail
    go_ret
    exact ⟨⟨_, rfl, HX.out⟩, hb.out⟩
end
end Go.Proofs.YtbcmchkgamkceaaGreatDoor

/-
  Layer 6: same, Few, and package tag's Is. No statement of the seat is proved here.
-/
namespace Go.Proofs.YtbcmchkgamkceaaGreatDoor
open Go.RowKit

end Go.Proofs.YtbcmchkgamkceaaGreatDoor
