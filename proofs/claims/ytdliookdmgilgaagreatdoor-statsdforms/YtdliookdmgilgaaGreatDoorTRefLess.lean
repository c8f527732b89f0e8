/-
  Package tag: the document's Right, Ahead and Less. No statement of the seat is proved here.
-/
import Derived.Test.YtdliookdmgilgaaGreatDoorGrTCheck
namespace Go.Proofs.YtdliookdmgilgaaGreatDoor
open Go.RowKit

section
variable {s t : ByteArray} {a : Tg}
theorem rtext_says {c lo hi : Int} {s : ByteArray} {l : List UInt8} {a b : Int} (hc : isCls c = true) (h : Str s l) (hz : (s.size : Int) ≤ 100000) (hlo : ¬ lo < 0) (hhi : ¬ hi < lo) (ha : faultOf c l lo hi = (a, b)) (w : World) : Calls Tryz.prog 67 #[.int .i64 c, .string s, .int .i64 lo, .int .i64 hi] w fun e w' => e = .returned (.agg #[.int .i64 a, .int .i64 b]) ∧ Below w.heap.size w w' := by
  have := rtext_calls c hc s l h hz lo hi hlo hhi w
  rw [ha] at this
  exact this

set_option maxRecDepth 100000 in
set_option maxHeartbeats 2000000 in
theorem right_calls (hs : Str s a.1) (ht : Str t a.2) (hz : (s.size : Int) ≤ 100000) (hz2 : (t.size : Int) ≤ 100000) (w : World) :
    Calls Tryz.prog 124 #[.agg #[.string s, .string t]] w fun e w' => e = .returned (.bool (rightT a)) ∧ Below w.heap.size w w' := by
  obtain ⟨x, y, hxy⟩ : ∃ x y, faultOf 2 a.1 1 64 = (x, y) := ⟨_, _, rfl⟩
  obtain ⟨u, v, huv⟩ : ∃ u v, faultOf 3 a.2 0 100 = (u, v) := ⟨_, _, rfl⟩
  have HK := Lib.hid (rtext_says (by decide) hs hz (by decide) (by decide) hxy)
  have HV := Lib.hid (rtext_says (by decide) ht hz2 (by decide) (by decide) huv)
  obtain ⟨p, hp⟩ : ∃ p, decide ((x, y) = ((0, 0) : Int × Int)) = p := ⟨_, rfl⟩
  obtain ⟨q, hq⟩ : ∃ q, decide ((u, v) = ((0, 0) : Int × Int)) = q := ⟨_, rfl⟩
  rw [right_is hxy huv hp hq]
  have k1 := feq_run hp
  have k2 := feq_run hq
  have hg := fguard
  clear hxy huv hs ht hz hz2 hp hq
  have b0 := Box.new w 54 [.string s, .string t]
  have HB := Lib.hid (And.intro b0 ((Below.refl w.heap.size w).alloc (Nat.le_refl _) (.cells #[.string s, .string t] 54)))
  clear b0
  go_enter Tryz.func124, Tryz.ntmps124
  go_wp2_with fail
  refine (HK.out _).mono ?_
  rintro e w1 ⟨rfl, hb⟩
  have HB1 := Lib.hid (And.intro (HB.out.1.keep hb) (Below.trans HB.out.2 (hb.mono HB.out.2.size)))
  clear hb HB HK
  have c1 : w1.cell? ⟨w.heap.size, 1, none⟩ = some (.string t) := HB1.out.1.cell 1
  cases p
  · go_wp2_with fail
    go_ret
    exact ⟨rfl, HB1.out.2⟩
  · go_wp2_with fail
    refine (HV.out _).mono ?_
    rintro e w2 ⟨rfl, hb⟩
    have HB2 := Lib.hid (Below.trans HB1.out.2 (hb.mono HB1.out.2.size))
    clear hb HB1 HV
    go_wp2_with fail
    go_ret
    exact ⟨by simp, HB2.out⟩
end

/-- Where two texts part. -/
theorem ltB_at {a b : List UInt8} {i : Nat} (h1 : i < a.length) (h2 : i < b.length) (he : ∀ j (h : j < a.length) (g : j < b.length), j < i → a[j] = b[j]) (hn : a[i] ≠ b[i]) : ltB a b = decide (a[i].toNat < b[i].toNat) := by
  induction i generalizing a b with
  | zero =>
    match a, b, h1, h2 with
    | x :: a, y :: b, _, _ =>
      simp only [List.getElem_cons_zero] at hn ⊢
      unfold ltB Op.bytesLess
      have hxy : (x == y) = false := by simpa using hn
      rw [hxy, Bool.false_and, Bool.or_false]
      rfl
  | succ i ih =>
    match a, b, h1, h2 with
    | x :: a, y :: b, h1, h2 =>
      have e0 := he 0 (by simp) (by simp) (by omega)
      simp only [List.getElem_cons_zero] at e0
      subst e0
      simp only [List.getElem_cons_succ] at hn ⊢
      rw [← ih (by simpa using h1) (by simpa using h2) (fun j h g hj => by have := he (j + 1) (by simpa using h) (by simpa using g) (by omega); simpa using this) hn]
      show (decide (x < x) || (x == x && ltB a b)) = ltB a b
      have hx : ¬ x < x := by simp
      simp [hx]
theorem ltB_end {a b : List UInt8} (he : ∀ j (h : j < a.length) (g : j < b.length), a[j] = b[j]) : ltB a b = decide (a.length < b.length) := by
  induction a generalizing b with
  | nil =>
    cases b with
    | nil => rfl
    | cons y b => unfold ltB Op.bytesLess; simp
  | cons x a ih =>
    cases b with
    | nil => unfold ltB Op.bytesLess; simp
    | cons y b =>
      have e0 := he 0 (by simp) (by simp)
      simp only [List.getElem_cons_zero] at e0
      subst e0
      have := ih (b := b) (fun j h g => by have := he (j + 1) (by simpa using h) (by simpa using g); simpa using this)
      show (decide (x < x) || (x == x && ltB a b)) = _
      have hx : ¬ x < x := by simp
      simp [hx, this]

/-- The document's Less: both tags lie. -/
structure RAt (w : World) (s t u v : ByteArray) (w' : World) : Prop where
  kept : Below w.heap.size w w'
  one : Box w' w.heap.size 54 [.string s, .string t]
  two : Box w' (w.heap.size + 1) 54 [.string u, .string v]
theorem RAt.next {w w1 w2 : World} {s t u v : ByteArray} (h : RAt w s t u v w1) (k : Below w1.heap.size w1 w2) : RAt w s t u v w2 := ⟨below_then h.kept k, h.one.keep k, h.two.keep k⟩
theorem RAt.start (w : World) (s t u v : ByteArray) : RAt w s t u v ((w.alloc (.cells #[.string s, .string t] 54)).alloc (.cells #[.string u, .string v] 54)) :=
  ⟨(LAt.start w s t u v).grown.below, (LAt.start w s t u v).one, (LAt.start w s t u v).two⟩

end Go.Proofs.YtdliookdmgilgaaGreatDoor
