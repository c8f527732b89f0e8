/-
  Layer 6's awake. No statement of the seat is proved here.
-/
import Derived.Test.YtapkdghghnmhhaaTFew
import Derived.Test.YtapkdghghnmhhaaTParse
namespace Go.Proofs.Ytapkdghghnmhhaa
open Go.RowKit

def envK : List UInt8 := [101, 110, 118]
def envV : List UInt8 := [112, 114, 111, 100]
def hostK : List UInt8 := [104, 111, 115, 116]
theorem aw1 : parseT [101, 110, 118, 58, 112, 114, 111, 100, 44, 104, 111, 115, 116] = .inr [(envK, envV), (hostK, [])] := by decide +kernel
theorem aw2 : parseT [97, 58, 49, 44, 98, 58] = .inl 4 := by decide +kernel
theorem aw3 : parseT [] = .inl 0 := by decide +kernel
theorem aw4 : norm [(hostK, []), (envK, envV), (hostK, [])] = [(envK, envV), (hostK, [])] := by decide +kernel

section
variable {s : ByteArray} {l : List UInt8}
theorem parse_bad {k : Nat} (hs : Str s l) (hz : (s.size : Int) ≤ 100000) (hp : parseT l = .inl k) (w : World) : Calls Try.prog 20 #[.string s] w fun e w' => e = .returned (.tuple #[.slice none 0 0, .agg #[.int .i64 19, .int .i64 k]]) ∧ Below w.heap.size w w' := by
  have := parse_calls hs hz w
  rw [hp] at this
  exact this.mono fun _ _ ⟨h1, h2⟩ => ⟨h2, h1⟩
theorem parse_good {ts : List Tg} (hs : Str s l) (hz : (s.size : Int) ≤ 100000) (hp : parseT l = .inr ts) (w : World) : Calls Try.prog 20 #[.string s] w fun e w' => (∃ A cap, e = .returned (.tuple #[.slice A ts.length cap, .agg #[.int .i64 0, .int .i64 0]]) ∧ Tags w' A ts ∧ ts.length ≤ cap ∧ cap ≤ maxLen) ∧ Below w.heap.size w w' := by
  have := parse_calls hs hz w
  rw [hp] at this
  exact this.mono fun _ _ ⟨h1, h2⟩ => ⟨h2, h1⟩
end

/-- These cells, and these rows of tags, lie so, and nothing old has changed. -/
structure Kp (w0 : World) (L : List (Addr × Value)) (R : List (Option Addr × List Tg)) (w : World) : Prop where
  kept : Below w0.heap.size w0 w
  has : ∀ x ∈ L, w.cell? x.1 = some x.2
  rows : ∀ x ∈ R, Tags w x.1 x.2
section
variable {w0 w w' : World} {L : List (Addr × Value)} {R : List (Option Addr × List Tg)}
theorem Kp.start (w : World) : Kp w [] [] w := ⟨Below.refl _ _, by simp, by simp⟩
theorem Kp.next (h : Kp w0 L R w) (k : Below w.heap.size w w') : Kp w0 L R w' := ⟨below_then h.kept k, fun x hx => (k.cell (cell_lt (h.has x hx))).trans (h.has x hx), fun x hx => (h.rows x hx).keep k⟩
theorem Kp.drew (h : Kp w0 L R w) : Kp w0 L R w.drew := h.next (Same.below (Same.drewN w 1))
theorem Kp.alloc (h : Kp w0 L R w) (o : Obj) : Kp w0 L R (w.alloc o) := h.next ((Below.refl _ _).alloc (Nat.le_refl _) o)
theorem Kp.push (h : Kp w0 L R w) (t : TypeId) (a b : Value) : Kp w0 ((⟨w.heap.size, 0, none⟩, a) :: (⟨w.heap.size, 1, none⟩, b) :: L) R (w.alloc (.cells #[a, b] t)) := by
  have h' := h.alloc (.cells #[a, b] t)
  refine ⟨h'.kept, fun x hx => ?_, h'.rows⟩
  have hb := Box.new w t [a, b]
  rcases List.mem_cons.1 hx with rfl | hx
  · exact hb.cell 0
  · rcases List.mem_cons.1 hx with rfl | hx
    · exact hb.cell 1
    · exact h'.has x hx
theorem Kp.row (h : Kp w0 L R w) {A : Option Addr} {ts : List Tg} (ha : Tags w A ts) : Kp w0 L ((A, ts) :: R) w := ⟨h.kept, h.has, fun x hx => by
  rcases List.mem_cons.1 hx with rfl | hx
  · exact ha
  · exact h.rows x hx⟩
theorem Kp.cell {a : Addr} {v : Value} (h : Kp w0 L R w) (hm : (a, v) ∈ L) : w.cell? a = some v := h.has (a, v) hm
theorem Kp.tags {A : Option Addr} {ts : List Tg} (h : Kp w0 L R w) (hm : (A, ts) ∈ R) : Tags w A ts := h.rows (A, ts) hm
end

theorem tags_lit {w : World} {n : Nat} (hn : w.heap.size = n) (ts : List Tg) : Tags (w.alloc (.cells (flat ts).toArray 23)) (some ⟨n, 0, none⟩) ts := by
  subst hn
  intro i u hu
  exact ⟨w.heap.size, 0, rfl, by rw [Nat.zero_add, (Box.new w 23 (flat ts)).cell i]; exact hu⟩

theorem Tags.drew {w : World} {A : Option Addr} {ts : List Tg} (h : Tags w A ts) : Tags w.drew A ts := h.keep (Same.below (Same.drewN w 1))
theorem Tags.alloc {w : World} {A : Option Addr} {ts : List Tg} (h : Tags w A ts) (o : Obj) : Tags (w.alloc o) A ts := h.keep ((Below.refl _ _).alloc (Nat.le_refl _) o)
theorem same_true {w : World} {A B : Option Addr} {n m ca cb : Nat} {ts : List Tg} (hn : ts.length = n) (hm : ts.length = m) (hA : Tags w A ts) (hB : Tags w B ts) (zn : n ≤ 1000000) :
    Calls Try.prog 17 #[.slice A n ca, .slice B m cb] w fun e w' => e = .returned (.bool true) ∧ Below w.heap.size w w' := by
  have := same_calls (ca := ca) (cb := cb) hn hm hA hB zn (by omega)
  rwa [decide_eq_true (rfl : ts = ts)] at this

/-- Where awake stands. -/
structure AwS (w0 : World) (A : Option Addr) (F G H : Nat) (w : World) : Prop where
  kp : Kp w0 [(⟨H, 0, none⟩, .int .i64 19), (⟨H, 1, none⟩, .int .i64 0), (⟨G, 0, none⟩, .int .i64 19), (⟨G, 1, none⟩, .int .i64 4), (⟨F, 0, none⟩, .int .i64 0), (⟨F, 1, none⟩, .int .i64 0),
    (⟨w0.heap.size + 1, 0, none⟩, .string ⟨#[104, 111, 115, 116]⟩), (⟨w0.heap.size + 1, 1, none⟩, .string ⟨#[]⟩), (⟨w0.heap.size, 0, none⟩, .string ⟨#[101, 110, 118]⟩), (⟨w0.heap.size, 1, none⟩, .string ⟨#[112, 114, 111, 100]⟩)] [(A, [(envK, envV), (hostK, [])])] w
section
variable {w0 w w' : World} {A : Option Addr} {F G H : Nat}
theorem AwS.next (h : AwS w0 A F G H w) (k : Below w.heap.size w w') : AwS w0 A F G H w' := ⟨h.kp.next k⟩
theorem AwS.alloc (h : AwS w0 A F G H w) (o : Obj) : AwS w0 A F G H (w.alloc o) := ⟨h.kp.alloc o⟩
theorem AwS.cells (h : AwS w0 A F G H w) : w.cell? ⟨H, 0, none⟩ = some (.int .i64 19) ∧ w.cell? ⟨H, 1, none⟩ = some (.int .i64 0) ∧ w.cell? ⟨G, 0, none⟩ = some (.int .i64 19) ∧ w.cell? ⟨G, 1, none⟩ = some (.int .i64 4) ∧ w.cell? ⟨F, 0, none⟩ = some (.int .i64 0) ∧ w.cell? ⟨F, 1, none⟩ = some (.int .i64 0) ∧
    w.cell? ⟨w0.heap.size + 1, 0, none⟩ = some (.string ⟨#[104, 111, 115, 116]⟩) ∧ w.cell? ⟨w0.heap.size + 1, 1, none⟩ = some (.string ⟨#[]⟩) ∧ w.cell? ⟨w0.heap.size, 0, none⟩ = some (.string ⟨#[101, 110, 118]⟩) ∧ w.cell? ⟨w0.heap.size, 1, none⟩ = some (.string ⟨#[112, 114, 111, 100]⟩) ∧ AwS w0 A F G H w :=
  ⟨h.kp.cell (by simp), h.kp.cell (by simp), h.kp.cell (by simp), h.kp.cell (by simp), h.kp.cell (by simp), h.kp.cell (by simp), h.kp.cell (by simp), h.kp.cell (by simp), h.kp.cell (by simp), h.kp.cell (by simp), h⟩
theorem AwS.of {P1 P2 P3 P4 P5 P6 P7 P8 P9 P10 : Prop} (h : P1 ∧ P2 ∧ P3 ∧ P4 ∧ P5 ∧ P6 ∧ P7 ∧ P8 ∧ P9 ∧ P10 ∧ AwS w0 A F G H w) : AwS w0 A F G H w := h.2.2.2.2.2.2.2.2.2.2
end

set_option maxRecDepth 100000 in
set_option maxHeartbeats 4000000 in
theorem awake_calls (w : World) : Calls Try.prog 11 #[] w fun e w' => e = .returned (.bool true) ∧ Below w.heap.size w w' := by
  have HK0 := Lib.hid (((Kp.start w).push 23 (.string ⟨#[101, 110, 118]⟩) (.string ⟨#[112, 114, 111, 100]⟩)).push 23 (.string ⟨#[104, 111, 115, 116]⟩) (.string ⟨#[]⟩))
  rw [size_alloc] at HK0
  go_enter Try.func11, Try.ntmps11
  go_wp2_with fail
  refine (parse_good (s := ⟨#[101, 110, 118, 58, 112, 114, 111, 100, 44, 104, 111, 115, 116]⟩) rfl (by decide) aw1 _).mono ?_
  rintro e w1 ⟨⟨A, cap, rfl, ht, _, _⟩, hb⟩
  have HK1 := Lib.hid (((HK0.out.next hb).row ht).push 34 (.int .i64 0) (.int .i64 0))
  clear hb HK0 ht
  go_wp2_with fail
  refine (parse_bad (s := ⟨#[97, 58, 49, 44, 98, 58]⟩) rfl (by decide) aw2 _).mono ?_
  rintro e w2 ⟨rfl, hb⟩
  have HK2 := Lib.hid ((HK1.out.next hb).push 34 (.int .i64 19) (.int .i64 4))
  clear hb HK1
  go_wp2_with fail
  refine (parse_bad (s := ⟨#[]⟩) rfl (by decide) aw3 _).mono ?_
  rintro e w3 ⟨rfl, hb⟩
  have HK3 := Lib.hid ((HK2.out.next hb).push 34 (.int .i64 19) (.int .i64 0))
  clear hb HK2
  have HS := Lib.hid (show AwS w A w1.heap.size w2.heap.size w3.heap.size _ from ⟨HK3.out.drew⟩)
  clear HK3
  have q1 := feq_run (x := 0) (y := 0) (u := 0) (v := 0) (q := true) (by decide)
  have q2 := feq_run (x := 19) (y := 4) (u := 19) (v := 4) (q := true) (by decide)
  have q3 := feq_run (x := 19) (y := 0) (u := 19) (v := 0) (q := true) (by decide)
  have hg := fguard
  go_wp2_with fail
  go_region_held3 (fun w' => w'.cell? ⟨w3.heap.size, 0, none⟩ = some (.int .i64 19) ∧ w'.cell? ⟨w3.heap.size, 1, none⟩ = some (.int .i64 0) ∧ w'.cell? ⟨w2.heap.size, 0, none⟩ = some (.int .i64 19) ∧ w'.cell? ⟨w2.heap.size, 1, none⟩ = some (.int .i64 4) ∧ w'.cell? ⟨w1.heap.size, 0, none⟩ = some (.int .i64 0) ∧ w'.cell? ⟨w1.heap.size, 1, none⟩ = some (.int .i64 0) ∧
    w'.cell? ⟨w.heap.size + 1, 0, none⟩ = some (.string ⟨#[104, 111, 115, 116]⟩) ∧ w'.cell? ⟨w.heap.size + 1, 1, none⟩ = some (.string ⟨#[]⟩) ∧ w'.cell? ⟨w.heap.size, 0, none⟩ = some (.string ⟨#[101, 110, 118]⟩) ∧ w'.cell? ⟨w.heap.size, 1, none⟩ = some (.string ⟨#[112, 114, 111, 100]⟩) ∧ AwS w A w1.heap.size w2.heap.size w3.heap.size w')
    (first | exact AwS.cells HS.out | exact AwS.cells (AwS.alloc (AwS.of (by assumption)) _) | exact AwS.cells HB6.out)
    (first
      | (go_at_call 17
         refine (same_true (ts := [(envK, envV), (hostK, [])]) rfl rfl (by first | exact HT7.out | exact HT7.out.alloc _ | exact (AwS.of (by assumption)).kp.tags (by simp)) (by first | exact HT2.out | exact tags_lit rfl _ | exact (tags_lit (size_alloc _ _) _).drew) (by decide)).mono ?_
         rintro e w6 ⟨rfl, hb6⟩
         have HB6 := Lib.hid (AwS.next (AwS.of (by assumption)) hb6)
         clear hb6)
      | (go_at_call 18
         refine (normal_says (ts := [(hostK, []), (envK, envV), (hostK, [])]) rfl (by first | exact tags_lit rfl _ | exact tags_lit (size_alloc _ _) _ | exact (tags_lit rfl _).alloc _) (by decide) aw4).mono ?_
         rintro e w7 ⟨⟨A7, cap7, rfl, ht7⟩, hb7⟩
         first
           | (have HT2 : Hid (Tags w7 (some ⟨w6.heap.size, 0, none⟩) [(envK, envV), (hostK, [])]) := Tags.keep (Tags.alloc (tags_lit rfl _) _) hb7)
           | (have HT2 : Hid (Tags w7 (some ⟨w6.heap.size + 1, 0, none⟩) [(envK, envV), (hostK, [])]) := Tags.keep (tags_lit (size_alloc _ _) _) hb7)
           | skip
         have HT7 := Lib.hid ht7
         have HB6 := Lib.hid (AwS.next (AwS.of (by assumption)) hb7)
         clear ht7 hb7))
  all_goals
    go_wp2_with fail
    go_ret
    exact ⟨rfl, HB6.out.kp.kept⟩
end Go.Proofs.Ytapkdghghnmhhaa
