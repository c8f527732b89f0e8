/-
  OgMore, OgRefP, OgRefL. No statement of the seat is proved here.
-/
import Derived.Test.YtbcmchkgamkceaaGreatDoorGrOgMeth
import Derived.Test.YtbcmchkgamkceaaGreatDoorOgRefT
import Derived.Test.YtbcmchkgamkceaaGreatDoorGrNRefRate
import Derived.Test.YtbcmchkgamkceaaGreatDoorGrTAwake
import Derived.Test.YtbcmchkgamkceaaGreatDoorGrTNormal
import Derived.RegionTactic
import Derived.ChangeAlike
import Derived.BigRegion
/-
  The document's reading of a piece behind the first two. No statement of the seat is proved here.
-/
namespace Go.Proofs.YtbcmchkgamkceaaGreatDoor
open Go.RowKit
open Dc (D D0)

/-- Which piece it is, and what is wrong with it. -/
def moreT (k : Int) (p : List UInt8) : Nat × Int :=
  if p.head? = some 64 then (1, if (rated p.tail).2.1 ≠ 0 ∨ (k = 2 ∧ (rated p.tail).1 ≠ 1000000) then 18 else 0)
  else if p.head? = some 35 then (2, match parseT p.tail with | .inl _ => 19 | .inr ts => if 32 < ts.length then 19 else 0)
  else if p.head? = some 84 then (3, if (parsed p.tail 1 MaxT).2.1 ≠ 0 then 20 else 0)
  else (0, 11)
/-- The metric then. -/
def moreM (m : Mt) (p : List UInt8) : Mt :=
  if p.head? = some 64 then { m with rate := (rated p.tail).1 }
  else if p.head? = some 35 then { m with tags := norm (match parseT p.tail with | .inl _ => [] | .inr ts => ts) }
  else if p.head? = some 84 then { m with time := (parsed p.tail 1 MaxT).1 }
  else m
theorem more_rate {m : Mt} {q : List UInt8} {r c a : Int} (h : rated q = (r, c, a)) : moreT m.kind (64 :: q) = (1, if c ≠ 0 ∨ (m.kind = 2 ∧ r ≠ 1000000) then 18 else 0) ∧ moreM m (64 :: q) = { m with rate := r } := by
  unfold moreT moreM
  simp [h]
theorem more_tags {m : Mt} {q : List UInt8} : moreT m.kind (35 :: q) = (2, match parseT q with | .inl _ => 19 | .inr ts => if 32 < ts.length then 19 else 0) ∧ moreM m (35 :: q) = { m with tags := norm (match parseT q with | .inl _ => [] | .inr ts => ts) } := by
  unfold moreT moreM
  rw [if_neg (by simp), if_pos (show (35 :: q).head? = some 35 from rfl), if_neg (by simp), if_pos (show (35 :: q).head? = some 35 from rfl)]
  exact ⟨rfl, rfl⟩
theorem more_time {m : Mt} {q : List UInt8} {r c a : Int} (h : parsed q 1 MaxT = (r, c, a)) : moreT m.kind (84 :: q) = (3, if c ≠ 0 then 20 else 0) ∧ moreM m (84 :: q) = { m with time := r } := by
  unfold moreT moreM
  simp [h]
theorem more_none {m : Mt} {p : List UInt8} (h1 : p.head? ≠ some 64) (h2 : p.head? ≠ some 35) (h3 : p.head? ≠ some 84) : moreT m.kind p = (0, 11) ∧ moreM m p = m := by
  unfold moreT moreM
  rw [if_neg h1, if_neg h2, if_neg h3, if_neg h1, if_neg h2, if_neg h3]
  exact ⟨rfl, rfl⟩
/-- What the document makes of it. -/
theorem pieceD_more (name : List UInt8) (k : Int) (ds : List D) (x : Rt) (p : List UInt8) :
    (((moreT k p).1 ≤ x.last ∨ (moreT k p).2 ≠ 0) → pieceD k x p = .inl (if (moreT k p).1 ≤ x.last then 11 else (moreT k p).2)) ∧
    (¬ (moreT k p).1 ≤ x.last → (moreT k p).2 = 0 → ∃ y, pieceD k x p = .inr y ∧ y.last = (moreT k p).1 ∧ moreM ⟨name, k, ds, x.rate, x.tags, x.time⟩ p = ⟨name, k, ds, y.rate, y.tags, y.time⟩) := by
  rcases p with _ | ⟨b, q⟩
  · have e := (more_none (m := ⟨name, k, ds, x.rate, x.tags, x.time⟩) (p := []) (by simp) (by simp) (by simp)).1
    simp only at e
    rw [e, pieceD_nil]
    refine ⟨fun _ => ?_, fun h _ => absurd (Nat.zero_le _) h⟩
    split <;> rfl
  · by_cases h1 : b = 64
    · subst h1
      obtain ⟨r, c, a, hr⟩ : ∃ r c a, rated q = (r, c, a) := ⟨_, _, _, rfl⟩
      obtain ⟨e, e'⟩ := more_rate (m := ⟨name, k, ds, x.rate, x.tags, x.time⟩) hr
      simp only at e
      rw [e, e', pieceD_rate, hr]
      simp only
      by_cases hl : 1 ≤ x.last
      · rw [if_pos hl]
        exact ⟨fun _ => by rw [if_pos hl], fun h => absurd hl h⟩
      · rw [if_neg hl, if_neg hl]
        by_cases hb : c ≠ 0 ∨ (k = 2 ∧ r ≠ 1000000)
        · rw [if_pos hb, if_pos hb]
          exact ⟨fun _ => rfl, fun _ h => absurd h (by decide)⟩
        · rw [if_neg hb, if_neg hb]
          exact ⟨fun h => (h.elim hl (fun h => h rfl)).elim, fun _ _ => ⟨_, rfl, rfl, rfl⟩⟩
    · by_cases h2 : b = 35
      · subst h2
        obtain ⟨e, e'⟩ := more_tags (m := ⟨name, k, ds, x.rate, x.tags, x.time⟩) (q := q)
        simp only at e
        rw [e, e']
        simp only
        by_cases hl : 2 ≤ x.last
        · rw [pieceD_tags, if_pos hl]
          exact ⟨fun _ => by rw [if_pos hl], fun h => absurd hl h⟩
        · rw [if_neg hl]
          rcases hp : parseT q with k0 | ts
          · rw [pieceD_tags_bad hl hp]
            exact ⟨fun _ => rfl, fun _ h => absurd (show (19 : Int) = 0 from h) (by decide)⟩
          · simp only
            by_cases h32 : 32 < ts.length
            · rw [pieceD_tags_many hl hp h32, if_pos h32]
              exact ⟨fun _ => rfl, fun _ h => absurd h (by decide)⟩
            · rw [pieceD_tags_ok hl hp h32, if_neg h32]
              exact ⟨fun h => (h.elim hl (fun h => h rfl)).elim, fun _ _ => ⟨_, rfl, rfl, rfl⟩⟩
      · by_cases h3 : b = 84
        · subst h3
          obtain ⟨r, c, a, hr⟩ : ∃ r c a, parsed q 1 MaxT = (r, c, a) := ⟨_, _, _, rfl⟩
          obtain ⟨e, e'⟩ := more_time (m := ⟨name, k, ds, x.rate, x.tags, x.time⟩) hr
          simp only at e
          rw [e, e', pieceD_time, hr]
          simp only
          by_cases hl : 3 ≤ x.last
          · rw [if_pos hl]
            exact ⟨fun _ => by rw [if_pos hl], fun h => absurd hl h⟩
          · rw [if_neg hl, if_neg hl]
            by_cases hb : c ≠ 0
            · rw [if_pos hb, if_pos hb]
              exact ⟨fun _ => rfl, fun _ h => absurd h (by decide)⟩
            · rw [if_neg hb, if_neg hb]
              exact ⟨fun h => (h.elim hl (fun h => h rfl)).elim, fun _ _ => ⟨_, rfl, rfl, rfl⟩⟩
        · have e := (more_none (m := ⟨name, k, ds, x.rate, x.tags, x.time⟩) (p := b :: q) (by simpa using h1) (by simpa using h2) (by simpa using h3)).1
          simp only at e
          rw [e, pieceD_none k x h1 h2 h3]
          refine ⟨fun _ => ?_, fun h _ => absurd (Nat.zero_le _) h⟩
          split <;> rfl

theorem oparse_len {l : List UInt8} {ts : List Tg} (h : parseT l = .inr ts) : ts.length ≤ l.length + 1 := by
  obtain ⟨us, e, hm, _⟩ := pgo_inr _ _ _ h
  rw [List.nil_append] at e
  subst e
  have h1 := congrArg List.length hm
  rw [List.length_map] at h1
  have h2 := sum_pieces l
  have h3 : ∀ ps : List (List UInt8), ps.length ≤ (ps.map fun p => p.length + 1).sum := by
    intro ps
    induction ps with
    | nil => simp
    | cons p ps ih => simp only [List.map_cons, List.sum_cons, List.length_cons]; omega
  have := h3 (pieces l)
  omega
/-- What the document's Parse tells of tags. -/
theorem more_parse {m : Mt} {q : List UInt8} {tt : Nat} {te : Int} {M : Mt} (hx : moreT m.kind (35 :: q) = (tt, te) ∧ moreM m (35 :: q) = M) :
    ∃ (a b : Int) (ts : List Tg), tt = 2 ∧ te = (if a ≠ 0 ∨ 32 < ts.length then 19 else 0) ∧ M = { m with tags := norm ts } ∧ (a = 0 → b = 0) ∧ ts.length ≤ q.length + 1 ∧ (∀ i (hi : i < ts.length), ts[i].1.length ≤ 1000 ∧ ts[i].2.length ≤ 1000) ∧
      ∀ (w w' : World) (e : Ending), ParseP w (parseT q) e w' → (∃ A cap, e = .returned (.tuple #[.slice A ts.length cap, .agg #[.int .i64 a, .int .i64 b]]) ∧ Tags w' A ts) ∧ Below w.heap.size w w' := by
  have ht := more_tags (m := m) (q := q)
  rw [hx.1, hx.2] at ht
  rcases hp : parseT q with k0 | ts
  · rw [hp] at ht
    refine ⟨19, k0, [], congrArg Prod.fst ht.1, ?_, ht.2, fun h => absurd h (by decide), by simp, fun i hi => absurd hi (by simp), fun w w' e h => ⟨⟨none, 0, h.2, Tags.nil⟩, h.1⟩⟩
    rw [show te = 19 from congrArg Prod.snd ht.1, if_pos (.inl (by decide))]
  · rw [hp] at ht
    obtain ⟨_, _, hr⟩ := text_parse hp
    refine ⟨0, 0, ts, congrArg Prod.fst ht.1, ?_, ht.2, fun _ => rfl, oparse_len hp, fun i hi => ?_, fun w w' e h => ?_⟩
    · rw [show te = (if 32 < ts.length then 19 else 0) from congrArg Prod.snd ht.1]
      by_cases h32 : 32 < ts.length
      · rw [if_pos h32, if_pos (.inr h32)]
      · rw [if_neg h32, if_neg]
        rintro (h | h)
        · exact h rfl
        · exact h32 h
    · have := right_parts (hr _ (List.getElem_mem hi))
      have h1 := this.1.2.1
      have h2 := this.2.1
      omega
    · obtain ⟨hb, A, cap, he, hA, _⟩ := h
      exact ⟨⟨A, cap, he, hA⟩, hb⟩
/-- A piece lies, and the metric that is written into. -/
structure Mo (w W : World) (g : Nat) (m : Mt) (a : Int) (s : ByteArray) : Prop where
  kept : But g w W
  rd : Rd 35 W g m
  pc : Box W w.heap.size 76 [.int .i64 a, .string s]
  lt : g < w.heap.size
section
variable {t : TypeId} {w W W' : World} {g : Nat} {m : Mt} {a : Int} {s : ByteArray} {l : List UInt8}
theorem Rd.setRate (h : Rd t W g m) (x : Int) : Rd t (W.setCell ⟨g, 3, none⟩ (.int .i64 x)) g { m with rate := x } := by
  obtain ⟨s, A, n, ca, B, k, cb, hb, hm⟩ := h
  have h2 := hm.set_met (s := s) (kd := m.kind) (A0 := A) (n0 := n) (ca0 := ca) (rt := m.rate) (B0 := B) (k0 := k) (cb0 := cb) (tm := m.time) hb 3 (.int .i64 x)
  exact ⟨s, A, n, ca, B, k, cb, hb.set 3 _, h2.name, h2.vlen, h2.vals, h2.tlen, h2.tags⟩
theorem Rd.setTime (h : Rd t W g m) (x : Int) : Rd t (W.setCell ⟨g, 5, none⟩ (.int .i64 x)) g { m with time := x } := by
  obtain ⟨s, A, n, ca, B, k, cb, hb, hm⟩ := h
  have h2 := hm.set_met (s := s) (kd := m.kind) (A0 := A) (n0 := n) (ca0 := ca) (rt := m.rate) (B0 := B) (k0 := k) (cb0 := cb) (tm := m.time) hb 5 (.int .i64 x)
  exact ⟨s, A, n, ca, B, k, cb, hb.set 5 _, h2.name, h2.vlen, h2.vals, h2.tlen, h2.tags⟩
theorem Rd.setKind (h : Rd t W g m) (x : Int) : Rd t (W.setCell ⟨g, 1, none⟩ (.int .i64 x)) g { m with kind := x } := by
  obtain ⟨s, A, n, ca, B, k, cb, hb, hm⟩ := h
  have h2 := hm.set_met (s := s) (kd := m.kind) (A0 := A) (n0 := n) (ca0 := ca) (rt := m.rate) (B0 := B) (k0 := k) (cb0 := cb) (tm := m.time) hb 1 (.int .i64 x)
  exact ⟨s, A, n, ca, B, k, cb, hb.set 1 _, h2.name, h2.vlen, h2.vals, h2.tlen, h2.tags⟩
theorem Rd.setTags (h : Rd t W g m) {B' : Option Addr} {k' : Nat} (cb' : Nat) {ts : List Tg} (hl : ts.length = k') (ht : Tags W B' ts) : Rd t (W.setCell ⟨g, 4, none⟩ (.slice B' k' cb')) g { m with tags := ts } := by
  obtain ⟨s, A, n, ca, B, k, cb, hb, hm⟩ := h
  have h2 := hm.set_met (s := s) (kd := m.kind) (A0 := A) (n0 := n) (ca0 := ca) (rt := m.rate) (B0 := B) (k0 := k) (cb0 := cb) (tm := m.time) hb 4 (.slice B' k' cb')
  have h3 := ht.set_met (s := s) (kd := m.kind) (A0 := A) (n0 := n) (ca0 := ca) (rt := m.rate) (B0 := B) (k0 := k) (cb0 := cb) (tm := m.time) hb 4 (.slice B' k' cb')
  exact ⟨s, A, n, ca, B', k', cb', hb.set 4 _, h2.name, h2.vlen, h2.vals, hl, h3⟩
theorem Rd.six (h : Rd t W g m) : ∃ s A n ca B k cb, W.cell? ⟨g, 0, none⟩ = some (.string s) ∧ W.cell? ⟨g, 1, none⟩ = some (.int .i64 m.kind) ∧ W.cell? ⟨g, 2, none⟩ = some (.slice A n ca) ∧ W.cell? ⟨g, 3, none⟩ = some (.int .i64 m.rate) ∧ W.cell? ⟨g, 4, none⟩ = some (.slice B k cb) ∧ W.cell? ⟨g, 5, none⟩ = some (.int .i64 m.time) ∧
    (W.frozen? ⟨g, 1, none⟩ = false ∧ W.frozen? ⟨g, 3, none⟩ = false ∧ W.frozen? ⟨g, 4, none⟩ = false ∧ W.frozen? ⟨g, 5, none⟩ = false) := by
  obtain ⟨s, A, n, ca, B, k, cb, hb, _⟩ := h
  exact ⟨s, A, n, ca, B, k, cb, hb.cell 0, hb.cell 1, hb.cell 2, hb.cell 3, hb.cell 4, hb.cell 5, hb.frozen 1, hb.frozen 3, hb.frozen 4, hb.frozen 5⟩
theorem Mo.start (h : Rd 35 w g m) (a : Int) (s : ByteArray) : Mo w (w.alloc (.cells #[.int .i64 a, .string s] 76)) g m a s :=
  ⟨(But.refl g w).alloc _, h.next ((Below.refl _ _).alloc (Nat.le_refl _) _), Box.new w 76 [.int .i64 a, .string s], h.lt⟩
theorem Mo.next (h : Mo w W g m a s) (b : Below W.heap.size W W') : Mo w W' g m a s := ⟨h.kept.trans (.of_below b), h.rd.next b, h.pc.keep b, h.lt⟩
theorem Mo.alloc (h : Mo w W g m a s) (o : Obj) : Mo w (W.alloc o) g m a s := h.next ((Below.refl _ _).alloc (Nat.le_refl _) o)
theorem Mo.drew (h : Mo w W g m a s) : Mo w W.drew g m a s := h.next (Same.below (Same.drewN W 1))
theorem Mo.put (h : Mo w W g m a s) {m' : Mt} {i : Nat} {u : Value} (hr : Rd 35 (W.setCell ⟨g, i, none⟩ u) g m') : Mo w (W.setCell ⟨g, i, none⟩ u) g m' a s :=
  ⟨h.kept.set i u, hr, h.pc.far (q := ⟨g, i, none⟩) (by have := h.lt; show w.heap.size ≠ g; omega) u, h.lt⟩
set_option maxRecDepth 100000 in
set_option maxHeartbeats 4000000 in
theorem rmore_calls (h : Rd 35 w g m) (hs : Str s l) (hl : l.length ≤ 8192) (at_ : Int) : Calls Tryz.prog 45 #[.agg #[.int .i64 at_, .string s], .pointer (some ⟨g, 0, none⟩)] w fun e w' =>
    e = .returned (.tuple #[.int .i64 ((moreT m.kind l).1 : Int), .int .i64 (moreT m.kind l).2]) ∧ But g w w' ∧ Rd 35 w' g (moreM m l) := by
  obtain ⟨tt, te, hx⟩ : ∃ tt te, moreT m.kind l = (tt, te) := ⟨_, _, rfl⟩
  obtain ⟨M, hM⟩ : ∃ M, moreM m l = M := ⟨_, rfl⟩
  rw [hx, hM]
  have HX := Lib.hid (And.intro hx hM)
  have HM := Lib.hid (Mo.start h at_ s)
  have HS := Lib.hid hs
  have p0 := HM.out.pc.cell 0
  have p1 := HM.out.pc.cell 1
  simp only [List.getElem?_cons_zero, List.getElem?_cons_succ] at p0 p1
  clear hx hM h hs
  rcases l with _ | ⟨b, q⟩
  · obtain rfl : s = ⟨#[]⟩ := HS.out.eq
    have HE := Lib.hid (show tt = 0 ∧ te = 11 ∧ M = m by
      have := more_none (m := m) (p := []) (by simp) (by simp) (by simp)
      rw [HX.out.1, HX.out.2] at this
      exact ⟨congrArg Prod.fst this.1, congrArg Prod.snd this.1, this.2⟩)
    go_enter Tryz.func45, Tryz.ntmps45
    go_wp2_with fail
    go_ret2
    exact ⟨by rw [HE.out.1, HE.out.2.1]; first | done | rfl, HM.out.kept, by rw [HE.out.2.2]; exact HM.out.rd⟩
  · have hs0 : (s.toList == []) = false := by rw [HS.out.toList]; rfl
    have hidx := HS.out.index (i := 0) 0 rfl (by simp)
    simp only [List.getElem_cons_zero] at hidx
    have hsz : (s.size : Int) = (q.length : Int) + 1 := by rw [HS.out.size]; simp
    obtain ⟨r0, hr0, hsl⟩ := HS.out.from_ (i := 1) 1 rfl (by simp)
    rw [show (b :: q).drop 1 = q from rfl] at hr0
    have HQ := Lib.hid hr0
    have hbb := b.toNat_lt
    obtain ⟨z, hz⟩ : ∃ z : Int, (b.toNat : Int) = z := ⟨_, rfl⟩
    rw [hz] at hidx
    have key : ∀ x : UInt8, z = (x.toNat : Int) ↔ b = x := fun x => ⟨fun h => UInt8.toNat_inj.1 (by omega), fun h => by rw [← hz, h]⟩
    have HK := Lib.hid key
    have hg := fguard
    rw [List.length_cons] at hl
    have hrz : (r0.size : Int) ≤ 9000 := by rw [hr0.size]; omega
    clear hz key hbb hr0 hsz
    rcases (by omega : z = 64 ∨ z = 35 ∨ z = 84 ∨ (¬ z = 64 ∧ ¬ z = 35 ∧ ¬ z = 84)) with rfl | rfl | rfl | ⟨h1, h2, h3⟩
    · obtain rfl : b = 64 := (HK.out 64).1 rfl
      obtain ⟨r, c2, a2, hr⟩ : ∃ r c2 a2, rated q = (r, c2, a2) := ⟨_, _, _, rfl⟩
      have HE := Lib.hid (show tt = 1 ∧ te = (if c2 ≠ 0 ∨ (m.kind = 2 ∧ r ≠ 1000000) then 18 else 0) ∧ M = { m with rate := r } by
        have := more_rate (m := m) hr
        rw [HX.out.1, HX.out.2] at this
        exact ⟨congrArg Prod.fst this.1, congrArg Prod.snd this.1, this.2⟩)
      have HR := Lib.hid (fun W => (rrate_calls r0 _ HQ.out hrz W).mono fun _ _ k => otold_says hr k)
      have HZ := Lib.hid (show c2 = 0 → a2 = 0 from fun h0 => by
        obtain ⟨r', e', _⟩ := rated_zero (q := q) (by rw [hr]; exact h0)
        rw [hr] at e'
        injection e' with _ e'
        injection e' with _ e'
      )
      clear hr HX HK
      go_enter Tryz.func45, Tryz.ntmps45
      go_wp2_with fail
      refine (HR.out _).mono ?_
      rintro e w2 ⟨rfl, hb⟩
      have HM2 := Lib.hid ((HM.out.next hb).alloc (.cells #[.int .i64 c2, .int .i64 a2] 42))
      have e1 := Box.new w2 42 [.int .i64 c2, .int .i64 a2]
      have z0 := e1.cell 0
      have z1 := e1.cell 1
      simp only [List.getElem?_cons_zero, List.getElem?_cons_succ] at z0 z1
      have hgw : g ≠ w2.heap.size := by have := (HM.out.next hb).rd.lt; omega
      obtain ⟨sn, A, n, ca, B, kk, cb, c0, c1, c2', c3, c4, c5, f1, f3, f4, f5⟩ := HM2.out.rd.six
      have HM3 := Lib.hid (HM2.out.put (HM2.out.rd.setRate r))
      have HE1 := Lib.hid e1
      clear hb HR e1 HM p0 p1
      obtain ⟨sn', A', n', ca', B', kk', cb', d0, d1, d2, d3, d4, d5, g1, g3, g4, g5⟩ := HM3.out.rd.six
      simp only at d1 d3 d5
      by_cases hc : c2 = 0
      · obtain rfl := hc
        obtain rfl := HZ.out rfl
        have kq1 := fne_run (x := 0) (y := 0) (u := 0) (v := 0) (decide_eq_true rfl)
        rcases (by by_cases h : m.kind = 2 <;> by_cases h2 : r = 1000000 <;> simp [h, h2] : (m.kind == 2) = false ∨ ((m.kind == 2) = true ∧ (r != 1000000) = false) ∨ ((m.kind == 2) = true ∧ (r != 1000000) = true)) with h1 | ⟨h1, h2⟩ | ⟨h1, h2⟩
        · have HF := Lib.hid (show te = 0 by rw [HE.out.2.1, if_neg]; rintro (h | ⟨h, _⟩); exact h rfl; exact absurd h (by simpa using h1))
          go_wp2_with fail
          go_ret2
          exact ⟨by rw [HE.out.1, HF.out]; first | done | rfl, HM3.out.kept, by rw [HE.out.2.2]; exact HM3.out.rd⟩
        · have HF := Lib.hid (show te = 0 by rw [HE.out.2.1, if_neg]; rintro (h | ⟨_, h⟩); exact h rfl; exact h (by simpa using h2))
          go_wp2_with fail
          go_ret2
          exact ⟨by rw [HE.out.1, HF.out]; first | done | rfl, HM3.out.kept, by rw [HE.out.2.2]; exact HM3.out.rd⟩
        · have HF := Lib.hid (show te = 18 by rw [HE.out.2.1, if_pos]; exact .inr ⟨by simpa using h1, by simpa using h2⟩)
          go_wp2_with fail
          go_ret2
          exact ⟨by rw [HE.out.1, HF.out]; first | done | rfl, HM3.out.kept, by rw [HE.out.2.2]; exact HM3.out.rd⟩
      · have kq1 := fne_run (x := c2) (y := a2) (u := 0) (v := 0) (decide_eq_false (fun e => hc (congrArg Prod.fst e)))
        have HF := Lib.hid (show te = 18 by rw [HE.out.2.1, if_pos]; exact .inl hc)
        clear hc
        go_wp2_with fail
        go_ret2
        exact ⟨by rw [HE.out.1, HF.out]; first | done | rfl, HM3.out.kept, by rw [HE.out.2.2]; exact HM3.out.rd⟩
    · obtain rfl : b = 35 := (HK.out 35).1 rfl
      obtain ⟨a, b, ts, e1, e2, e3, e4, e5, e6, e7⟩ := more_parse (m := m) HX.out
      have HE := Lib.hid (And.intro e1 (And.intro e2 (And.intro e3 e4)))
      have HL := Lib.hid (And.intro e5 e6)
      have HR := Lib.hid (fun W => (trparse_calls HQ.out (by omega) W).mono fun e w' k => e7 W w' e k)
      clear HK HX e1 e2 e3 e4 e5 e6 e7
      go_enter Tryz.func45, Tryz.ntmps45
      go_wp2_with fail
      refine (HR.out _).mono ?_
      rintro e w2 ⟨⟨At, ct, rfl, hA⟩, hb⟩
      have HM2 := Lib.hid ((HM.out.next hb).alloc (.cells #[.int .i64 a, .int .i64 b] 42))
      have e1 := Box.new w2 42 [.int .i64 a, .int .i64 b]
      have HN := Lib.hid (rnormal_calls (cap := ct) rfl (hA.keep (Below.alloc (Below.refl _ _) (Nat.le_refl _) (.cells #[.int .i64 a, .int .i64 b] 42))) (by have := HL.out.1; omega) HL.out.2)
      have HFB := Lib.hid e1
      have hgw : g ≠ w2.heap.size := by
        have h1 := (HM.out.next hb).rd.lt
        omega
      clear hb HR e1 HM p0 p1 hA
      obtain ⟨nt, hnt⟩ : ∃ nt, ts.length = nt := ⟨_, rfl⟩
      rw [hnt] at HN ⊢
      have HNT := Lib.hid hnt
      clear hnt
      go_wp2_with fail
      refine HN.out.mono ?_
      rintro e w3 ⟨⟨Bt, cb', rfl, hB⟩, hb⟩
      have HM3 := Lib.hid (HM2.out.next hb)
      have HF3 := Lib.hid (HFB.out.keep hb)
      have z0 := HF3.out.cell 0
      have z1 := HF3.out.cell 1
      simp only [List.getElem?_cons_zero, List.getElem?_cons_succ] at z0 z1
      obtain ⟨sn, A, na, ca, B, kk, cb, c0, c1, c2', c3, c4, c5, f1, f3, f4, f5⟩ := HM3.out.rd.six
      have HM4 := Lib.hid (HM3.out.put (HM3.out.rd.setTags cb' rfl hB))
      clear hb hB HM2 HN
      by_cases hc : a = 0
      · obtain rfl := hc
        obtain rfl := HE.out.2.2.2 rfl
        have kq1 := fne_run (x := 0) (y := 0) (u := 0) (v := 0) (decide_eq_true rfl)
        by_cases h32 : 32 < nt
        · have h32' : 32 < (nt : Int) := by omega
          have HF := Lib.hid (show te = 19 by rw [HE.out.2.1, if_pos]; exact .inr (by rw [HNT.out]; exact h32))
          go_wp2_with fail
          go_ret2
          exact ⟨by rw [HE.out.1, HF.out]; first | done | rfl, HM4.out.kept, by rw [HE.out.2.2.1]; exact HM4.out.rd⟩
        · have h32' : ¬ 32 < (nt : Int) := by omega
          have HF := Lib.hid (show te = 0 by rw [HE.out.2.1, if_neg]; rintro (h | h); exact h rfl; rw [HNT.out] at h; exact h32 h)
          go_wp2_with fail
          go_ret2
          exact ⟨by rw [HE.out.1, HF.out]; first | done | rfl, HM4.out.kept, by rw [HE.out.2.2.1]; exact HM4.out.rd⟩
      · have kq1 := fne_run (x := a) (y := b) (u := 0) (v := 0) (decide_eq_false (fun e => hc (congrArg Prod.fst e)))
        have HF := Lib.hid (show te = 19 by rw [HE.out.2.1, if_pos]; exact .inl hc)
        clear hc
        go_wp2_with fail
        go_ret2
        exact ⟨by rw [HE.out.1, HF.out]; first | done | rfl, HM4.out.kept, by rw [HE.out.2.2.1]; exact HM4.out.rd⟩
    · obtain rfl : b = 84 := (HK.out 84).1 rfl
      obtain ⟨r, c2, a2, hr⟩ : ∃ r c2 a2, parsed q 1 MaxT = (r, c2, a2) := ⟨_, _, _, rfl⟩
      have HE := Lib.hid (show tt = 3 ∧ te = (if c2 ≠ 0 then 20 else 0) ∧ M = { m with time := r } by
        have := more_time (m := m) hr
        rw [HX.out.1, HX.out.2] at this
        exact ⟨congrArg Prod.fst this.1, congrArg Prod.snd this.1, this.2⟩)
      have HR := Lib.hid (fun W => (rtime5_calls r0 _ HQ.out hrz W).mono fun _ _ k => otold_says hr k)
      have HZ := Lib.hid (show c2 = 0 → a2 = 0 from fun h0 => by
        obtain ⟨r', e', _⟩ := parsed_zero (l := q) (by rw [hr]; exact h0)
        rw [hr] at e'
        injection e' with _ e'
        injection e' with _ e')
      clear hr HX HK
      go_enter Tryz.func45, Tryz.ntmps45
      go_wp2_with fail
      refine (HR.out _).mono ?_
      rintro e w2 ⟨rfl, hb⟩
      have HM2 := Lib.hid ((HM.out.next hb).alloc (.cells #[.int .i64 c2, .int .i64 a2] 42))
      have e1 := Box.new w2 42 [.int .i64 c2, .int .i64 a2]
      have z0 := e1.cell 0
      have z1 := e1.cell 1
      simp only [List.getElem?_cons_zero, List.getElem?_cons_succ] at z0 z1
      have hgw : g ≠ w2.heap.size := by have := (HM.out.next hb).rd.lt; omega
      obtain ⟨sn, A, n, ca, B, kk, cb, c0, c1, c2', c3, c4, c5, f1, f3, f4, f5⟩ := HM2.out.rd.six
      have HM3 := Lib.hid (HM2.out.put (HM2.out.rd.setTime r))
      clear hb HR e1 HM p0 p1
      by_cases hc : c2 = 0
      · obtain rfl := hc
        obtain rfl := HZ.out rfl
        have kq1 := fne_run (x := 0) (y := 0) (u := 0) (v := 0) (decide_eq_true rfl)
        have HF := Lib.hid (show te = 0 by rw [HE.out.2.1, if_neg]; exact fun h => h rfl)
        go_wp2_with fail
        go_ret2
        exact ⟨by rw [HE.out.1, HF.out]; first | done | rfl, HM3.out.kept, by rw [HE.out.2.2]; exact HM3.out.rd⟩
      · have kq1 := fne_run (x := c2) (y := a2) (u := 0) (v := 0) (decide_eq_false (fun e => hc (congrArg Prod.fst e)))
        have HF := Lib.hid (show te = 20 by rw [HE.out.2.1, if_pos]; exact hc)
        clear hc
        go_wp2_with fail
        go_ret2
        exact ⟨by rw [HE.out.1, HF.out]; first | done | rfl, HM3.out.kept, by rw [HE.out.2.2]; exact HM3.out.rd⟩
    · have HE := Lib.hid (show tt = 0 ∧ te = 11 ∧ M = m by
        have := more_none (m := m) (p := b :: q) (by simpa using fun e => h1 ((HK.out 64).2 e)) (by simpa using fun e => h2 ((HK.out 35).2 e)) (by simpa using fun e => h3 ((HK.out 84).2 e))
        rw [HX.out.1, HX.out.2] at this
        exact ⟨congrArg Prod.fst this.1, congrArg Prod.snd this.1, this.2⟩)
      have b1 : (z == 64) = false := by simpa using h1
      have b2 : (z == 35) = false := by simpa using h2
      have b3 : (z == 84) = false := by simpa using h3
      clear h1 h2 h3
      go_enter Tryz.func45, Tryz.ntmps45
      go_wp2_with fail
      go_ret2
      exact ⟨by rw [HE.out.1, HE.out.2.1]; first | done | rfl, HM.out.kept, by rw [HE.out.2.2]; exact HM.out.rd⟩
end
end Go.Proofs.YtbcmchkgamkceaaGreatDoor

/-
  The document's Parse of a line of DogStatsD. No statement of the seat is proved here.
-/
namespace Go.Proofs.YtbcmchkgamkceaaGreatDoor
open Go.RowKit
open Dc (D D0)

/-- What lies while the document reads a line: what is told, nothing, the pieces; g: the metric's block. -/
structure PrI (w W : World) (g gl : Nat) (pcs : List (Nat × List UInt8)) : Prop where
  res : ResS w W
  non : Box W (w.heap.size + 2) 35 [.string ⟨#[]⟩, .int .i64 0, .slice none 0 0, .int .i64 0, .slice none 0 0, .int .i64 0]
  pcs_ : Lies W (some ⟨gl, 0, none⟩) (flatP pcs)
  lo : w.heap.size + 3 ≤ g ∧ g ≠ gl
section
variable {w W W' : World} {g gl : Nat} {pcs : List (Nat × List UInt8)}
theorem PrI.next (h : PrI w W g gl pcs) (b : Below W.heap.size W W') : PrI w W' g gl pcs := ⟨h.res.next b, h.non.keep b, h.pcs_.keep b, h.lo⟩
theorem PrI.alloc (h : PrI w W g gl pcs) (o : Obj) : PrI w (W.alloc o) g gl pcs := h.next ((Below.refl _ _).alloc (Nat.le_refl _) o)
theorem PrI.but (h : PrI w W g gl pcs) (b : But g W W') : PrI w W' g gl pcs := by
  have hl := h.lo
  have hz := h.res.two.lt
  exact ⟨⟨h.res.one.but b (by omega), h.res.two.but b (by omega), h.res.kept.trans (b.below (by omega) (by omega))⟩, h.non.but b (by omega), h.pcs_.but b (fun x e => by injection e with e; subst e; exact fun e => hl.2 e.symm), hl⟩
theorem PrI.pc (h : PrI w W g gl pcs) {i a : Nat} {q : List UInt8} (hi : pcs[i]? = some (a, q)) : W.cell? ⟨gl, i * 2, none⟩ = some (.int .i64 a) ∧ W.cell? ⟨gl, i * 2 + 1, none⟩ = some (.string ⟨q.toArray⟩) := by
  obtain ⟨b, off, e, hc⟩ := h.pcs_ (i * 2) (.int .i64 a) (by rw [flatP_get0, hi]; rfl)
  obtain ⟨b', off', e', hc'⟩ := h.pcs_ (i * 2 + 1) (.string ⟨q.toArray⟩) (by rw [flatP_get1, hi]; rfl)
  injection e with e
  injection e with e1 e2
  subst e1 e2
  injection e' with e
  injection e with e1 e2
  subst e1 e2
  exact ⟨by simpa using hc, by simpa using hc'⟩
theorem PrI.nix (h : PrI w W g gl pcs) : W.cell? ⟨w.heap.size + 2, 0, none⟩ = some (.string ⟨#[]⟩) ∧ W.cell? ⟨w.heap.size + 2, 1, none⟩ = some (.int .i64 0) ∧ W.cell? ⟨w.heap.size + 2, 2, none⟩ = some (.slice none 0 0) ∧ W.cell? ⟨w.heap.size + 2, 3, none⟩ = some (.int .i64 0) ∧ W.cell? ⟨w.heap.size + 2, 4, none⟩ = some (.slice none 0 0) ∧ W.cell? ⟨w.heap.size + 2, 5, none⟩ = some (.int .i64 0) :=
  ⟨h.non.cell 0, h.non.cell 1, h.non.cell 2, h.non.cell 3, h.non.cell 4, h.non.cell 5⟩
end

theorem PutMF.drewD {w W : World} {g g' : Nat} {s : ByteArray} {A B : Option Addr} {n ca k cb : Nat} {m : Mt} {c a : Int} (h : PutMF w W g g' s A n ca B k cb m c a) : PutMF w W.drew g g' s A n ca B k cb m c a :=
  ⟨h.one.keep (Same.below (Same.drewN _ 1)), h.two.keep (Same.below (Same.drewN _ 1)), h.met.keep (Same.below (Same.drewN _ 1)), h.kept.trans ((Same.below (Same.drewN _ 1)).mono h.kept.size)⟩

set_option maxRecDepth 100000 in
set_option maxHeartbeats 4000000 in
theorem rdparse_calls {s : ByteArray} {l : List UInt8} (hs : Str s l) (hl : l.length ≤ 8192) (w : World) : Calls Tryz.prog 19 #[.string s] w (TellsM w (parseD l)) := by
  obtain ⟨x, hx⟩ : ∃ x, parseD l = x := ⟨_, rfl⟩
  rw [hx]
  unfold parseD at hx
  rw [if_neg (by omega)] at hx
  have hsz : (s.size : Int) = (l.length : Int) := by rw [hs.size]
  have HC := Lib.hid (fun W => rcut_calls hs (by omega) 124 0 (by omega) W)
  have hsum := lenB_cuts 124 l
  obtain ⟨p, ps, hps⟩ : ∃ p ps, cutsB 124 l = p :: ps := by
    rcases h : cutsB 124 l with _ | ⟨p, ps⟩
    · exact absurd h (cutsB_ne _ _)
    · exact ⟨_, _, rfl⟩
  rw [hps] at hx hsum
  have hx2 : firstD l.length p ps (cutsB 58 p) = x := hx
  rw [lenB_cons] at hsum
  have HX := Lib.hid (And.intro hx2 (And.intro hps hsum))
  have gl8 : ¬ 8192 < (l.length : Int) := by omega
  have HR := Lib.hid (ResS.start w)
  clear hs hx hx2 hps hsum
  go_enter Tryz.func19, Tryz.ntmps19
  go_wp2_with fail
  refine (HC.out _).mono ?_
  rintro e w1 ⟨v1, rfl, hp⟩
  obtain ⟨pcs, hpc⟩ : ∃ pcs, cutsP 124 0 l = pcs := ⟨_, rfl⟩
  rw [hpc] at hp
  have hpcs : pcs = (0, p) :: placed (p.length + 1) ps := by
    rw [← hpc]; unfold cutsP; rw [HX.out.2.1, placed, Nat.zero_add]
  have hpl : pcs.length = ps.length + 1 := by rw [hpcs, List.length_cons, placed_length]
  obtain ⟨gl, cap, rfl, hgl, hlies, -⟩ := hp.slice (by rw [hpcs]; simp)
  simp only [size_alloc] at hgl
  have hg2 : gl < w1.heap.size := by
    obtain ⟨b, off, e, hc⟩ := hlies 0 (.int .i64 0) (by rw [hpcs]; rfl)
    injection e with e
    injection e with e1 _
    subst e1
    exact cell_lt hc
  have hk1 := hp.kept
  have HI := Lib.hid (show PrI w (w1.alloc (.cells #[.string ⟨#[]⟩, .int .i64 0, .slice none 0 0, .int .i64 1000000, .slice none 0 0, .int .i64 0] 35)) w1.heap.size gl pcs from by
    have hr := (HR.out.alloc (.cells #[.string ⟨#[]⟩, .int .i64 0, .slice none 0 0, .int .i64 0, .slice none 0 0, .int .i64 0] 35)).next hk1
    have hn := Box.new ((w.alloc (.cells #[.string ⟨#[]⟩, .int .i64 0, .slice none 0 0, .int .i64 0, .slice none 0 0, .int .i64 0] 35)).alloc (.cells #[.int .i64 0, .int .i64 0] 42)) 35 [.string ⟨#[]⟩, .int .i64 0, .slice none 0 0, .int .i64 0, .slice none 0 0, .int .i64 0]
    rw [size_alloc, size_alloc] at hn
    have hn2 := hn.keep hk1
    exact ⟨hr.alloc _, hn2.alloc _, hlies.keep ((Below.refl _ _).alloc (Nat.le_refl _) _), ⟨by have := hn2.lt; omega, by omega⟩⟩)
  have HB := Lib.hid (Box.new w1 35 [.string ⟨#[]⟩, .int .i64 0, .slice none 0 0, .int .i64 1000000, .slice none 0 0, .int .i64 0])
  have hTs := Str.mk p
  obtain ⟨d0, d1⟩ := HI.out.pc (i := 0) (by rw [hpcs]; rfl)
  simp only [Nat.zero_mul, Nat.zero_add] at d0 d1
  generalize (⟨p.toArray⟩ : ByteArray) = T at hTs d1
  have hpz := HX.out.2.2
  have HF := Lib.hid (rfirst_calls hTs (by omega) HB.out)
  have HP := Lib.hid (And.intro hpcs hTs)
  have gps : (0 : Int) ≤ (ps.length : Int) ∧ (ps.length : Int) ≤ 8193 := by have := length_lenB ps; omega
  have gpl : (0 : Int) ≤ (p.length : Int) ∧ (p.length : Int) ≤ 8192 := by omega
  rw [hpl]
  have hne1 : gl ≠ w1.heap.size := by omega
  have hgl1 : gl ≠ w.heap.size := by omega
  have hgl2 : gl ≠ w.heap.size + 1 := by omega
  clear hp hpc hpcs hgl hlies hk1 HC HR hTs hpz hg2
  go_wp2_with fail
  refine HF.out.mono ?_
  rintro e w2 ⟨c, a, rfl, hbut, hfp⟩
  have HI2 := Lib.hid ((HI.out.but hbut).alloc (.cells #[.int .i64 c, .int .i64 a] 42))
  have e1 := Box.new w2 42 [.int .i64 c, .int .i64 a]
  have z0 := e1.cell 0
  have z1 := e1.cell 1
  simp only [List.getElem?_cons_zero, List.getElem?_cons_succ] at z0 z1
  have hg := fguard
  have gh : (0 : Int) ≤ (ps.length : Int) := by omega
  obtain ⟨n0, n1, n2, n3, n4, n5⟩ := HI2.out.nix
  obtain ⟨c0, c1, c2, c3, c4, c5, c6, c7⟩ := HI2.out.res.cells
  obtain ⟨f0, f1, f2, f3, f4, f5, f6, f7⟩ := HI2.out.res.frozen
  have hz2 : w.heap.size + 3 ≤ w2.heap.size := by have := (HI.out.but hbut).non.lt; omega
  have hz3 : w2.heap.size ≠ w.heap.size := by omega
  have hz4 : w2.heap.size ≠ w.heap.size + 1 := by omega
  clear hbut HI HF
  by_cases hc : c ≠ 0
  · have hff : firstF p = (c, a) := by
      rcases hfp with h | h
      · exact h.2
      · exact absurd h.1 hc
    have HE := Lib.hid (show x = (M0, c, a) by rw [← HX.out.1]; exact firstD_bad hff hc _ _)
    have kq1 := fne_run (x := c) (y := a) (u := 0) (v := 0) (decide_eq_false (fun e => hc (congrArg Prod.fst e)))
    have HPF := Lib.hid (HI2.out.res.fault c a).drewD
    clear hc hff hfp e1
    go_wp2_with fail
    go_region
    all_goals
      go_wp2_with fail
      refine ret_mf rfl rfl rfl rfl HPF.out.one HPF.out.two ?_
      exact HPF.out.faultD HE.out
  obtain ⟨rfl, rfl, nm, A, n, ca, name, ds, hok, hnm, hdl, hds, hbx⟩ : c = 0 ∧ a = 0 ∧ ∃ nm A n ca name ds, FirstOk p name ds ∧ Str nm name ∧ ds.length = n ∧ Decs w2 A ds ∧ Box w2 w1.heap.size 35 [.string nm, .int .i64 0, .slice A n ca, .int .i64 1000000, .slice none 0 0, .int .i64 0] := by
    rcases hfp with h | h
    · exact absurd h.1 hc
    · exact h
  have kq1 := fne_run (x := 0) (y := 0) (u := 0) (v := 0) (decide_eq_true rfl)
  have hkk := (Below.refl w2.heap.size w2).alloc (Nat.le_refl _) (.cells #[.int .i64 0, .int .i64 0] 42)
  have HM := Lib.hid (show Rd 35 (w2.alloc (.cells #[.int .i64 0, .int .i64 0] 42)) w1.heap.size ⟨name, 0, ds, 1000000, [], 0⟩ from ⟨nm, A, n, ca, none, 0, 0, hbx.keep hkk, hnm, hdl, hds.keep hkk, rfl, Tags.nil⟩)
  have HX2 := Lib.hid (show x = kindsD l.length (p.length + 1) name ds ps by rw [← HX.out.1]; exact firstD_ok hok _ _)
  clear hc hfp hok hnm hdl hds hbx hkk e1
  rcases ps with _ | ⟨wd, ps⟩
  · have HE := Lib.hid (show x = (M0, 11, (l.length : Int)) from HX2.out)
    have HPF := Lib.hid (HI2.out.res.fault 11 (l.length : Int))
    go_wp2_with fail
    refine ret_mf rfl rfl rfl rfl HPF.out.one HPF.out.two ?_
    exact HPF.out.faultD HE.out
  · have hl1 : (((ps.length : Int) + 1 + 1) == 1) = false := by simp; omega
    have gh2 : (0 : Int) ≤ (ps.length : Int) := by omega
    obtain ⟨q0, q1⟩ := HI2.out.pc (i := 1) (a := p.length + 1) (q := wd) (by rw [HP.out.1]; rfl)
    simp only [Nat.one_mul, Nat.reduceAdd] at q0 q1
    have hWs := Str.mk wd
    generalize (⟨wd.toArray⟩ : ByteArray) = T2 at hWs q1
    obtain ⟨k, hk⟩ : ∃ k, kindD wd = k := ⟨_, rfl⟩
    have HK := Lib.hid (fun W => okindr_calls hWs W)
    rw [hk] at HK
    have HX3 := Lib.hid (show (k = 0 → x = failS 16 (p.length + 1)) ∧ (k ≠ 0 → (∀ e, restD k (p.length + 1 + wd.length + 1) R0 ps = .inl e → x = failS e.1 e.2) ∧ (∀ y, restD k (p.length + 1 + wd.length + 1) R0 ps = .inr y → x = (⟨name, k, ds, y.rate, y.tags, y.time⟩, 0, 0))) from by
      have h := HX2.out
      rw [kindsD, hk] at h
      refine ⟨fun h0 => by rw [if_pos h0] at h; exact h, fun h0 => ⟨fun e he => ?_, fun y hy => ?_⟩⟩
      · rw [if_neg h0, he] at h; exact h
      · rw [if_neg h0, hy] at h; exact h)
    have HW := Lib.hid (And.intro hWs hk)
    rw [List.length_cons] at gps
    rw [List.length_cons]
    clear hk hWs HX2
    go_wp2_with fail
    refine (HK.out _).mono ?_
    rintro e w4 ⟨rfl, hb⟩
    have HI3 := Lib.hid (HI2.out.next hb)
    have HM3 := Lib.hid (HM.out.next hb)
    clear hb HK HI2 HM z0 z1 n0 n1 n2 n3 n4 n5 c0 c1 c2 c3 c4 c5 c6 c7 f0 f1 f2 f3 f4 f5 f6 f7 q0 q1 d0 d1
    obtain ⟨sn, A, na, ca, B, kk, cb, m0, m1, m2, m3, m4, m5, g1, g3, g4, g5⟩ := HM3.out.six
    have HM4 := Lib.hid (HM3.out.setKind k)
    have HI4 := Lib.hid (HI3.out.but ((But.refl _ _).set 1 (.int .i64 k)))
    simp only at HM4
    obtain ⟨n0, n1, n2, n3, n4, n5⟩ := HI4.out.nix
    obtain ⟨c0, c1, c2, c3, c4, c5, c6, c7⟩ := HI4.out.res.cells
    obtain ⟨f0, f1, f2, f3, f4, f5, f6, f7⟩ := HI4.out.res.frozen
    obtain ⟨q0, q1⟩ := HI4.out.pc (i := 1) (a := p.length + 1) (q := wd) (by rw [HP.out.1]; rfl)
    simp only [Nat.one_mul, Nat.reduceAdd] at q0 q1
    by_cases hk0 : k = 0
    · have HE := Lib.hid (show x = (M0, 16, ((p.length + 1 : Nat) : Int)) from HX3.out.1 hk0)
      have HPF := Lib.hid (HI4.out.res.fault 16 ((p.length + 1 : Nat) : Int)).drewD
      have hkb : (k == 0) = true := by simpa using hk0
      clear hk0
      go_wp2_with fail
      go_region
      all_goals
        go_wp2_with fail
        refine ret_mf rfl rfl rfl rfl HPF.out.one HPF.out.two ?_
        exact HPF.out.faultD HE.out
    · have HX4 := Lib.hid (HX3.out.2 hk0)
      have hkb : (k == 0) = false := by simpa using hk0
      obtain ⟨RS, hRS⟩ : ∃ RS, restD k (p.length + 1 + wd.length + 1) R0 ps = RS := ⟨_, rfl⟩
      rw [hRS] at HX4
      have HRS := Lib.hid hRS
      have HI5 := Lib.hid HI4.out
      clear hk0 HX3 hRS HI3 HM3
      go_wp2_with fail
      clear n0 n1 n2 n3 n4 n5 c0 c1 c2 c3 c4 c5 c6 c7 f0 f1 f2 f3 f4 f5 f6 f7 q0 q1 m0 m1 m2 m3 m4 m5 g1 g3 g4 g5 HI4 hkb
      go_loopw [8, 9] (fun v8 v9 wr => ∃ (j : Nat) (y : Rt), v8 = .int .i64 (y.last : Int) ∧ v9 = .int .i64 ((j : Int) + 2) ∧ j ≤ ps.length ∧ y.last ≤ 3 ∧ Hid (PrI w wr w1.heap.size gl pcs ∧ Rd 35 wr w1.heap.size ⟨name, k, ds, y.rate, y.tags, y.time⟩ ∧ restD k (p.length + 1 + wd.length + 1 + lenB (ps.take j)) y (ps.drop j) = RS)) (fun _ v9 _ => ps.length + 2 - (intOf v9).toNat)
      case atStart => exact ⟨0, R0, rfl, rfl, by omega, by decide, ⟨HI5.out, HM4.out, HRS.out⟩⟩
      case round =>
        obtain ⟨j, y, rfl, rfl, hjn, hy3, hrel⟩ := hrel
        clear HI5 HM4
        have g0 : (0 : Int) ≤ (j : Int) := by omega
        by_cases hlt : j < ps.length
        · have hlt' : (j : Int) + 2 < (ps.length : Int) + 1 + 1 := by omega
          have hpc : pcs[j + 2]? = some (p.length + 1 + wd.length + 1 + lenB (ps.take j), ps[j]) := by
            rw [HP.out.1, List.getElem?_cons_succ, placed_get (p.length + 1) (wd :: ps) (j := j + 1) (by simp; exact hlt)]
            simp only [List.take_succ_cons, lenB_cons, List.getElem_cons_succ]
            rw [show p.length + 1 + (wd.length + 1 + lenB (ps.take j)) = p.length + 1 + wd.length + 1 + lenB (ps.take j) by omega]
          obtain ⟨at_, hat⟩ : ∃ at_ : Nat, p.length + 1 + wd.length + 1 + lenB (ps.take j) = at_ := ⟨_, rfl⟩
          rw [hat] at hpc
          have hres := hrel.out.2.2
          rw [hat] at hres
          obtain ⟨d0, d1⟩ := hrel.out.1.pc hpc
          have hTs := Str.mk ps[j]
          generalize (⟨ps[j].toArray⟩ : ByteArray) = T3 at hTs d1
          have hjl := lenB_all ps hlt
          have hsum := HX.out.2.2
          rw [lenB_cons] at hsum
          have HMO := Lib.hid (rmore_calls hrel.out.2.1 hTs (by omega) (at_ : Int))
          obtain ⟨tt, te, hmt⟩ : ∃ tt te, moreT k ps[j] = (tt, te) := ⟨_, _, rfl⟩
          obtain ⟨M, hM⟩ : ∃ M, moreM ⟨name, k, ds, y.rate, y.tags, y.time⟩ ps[j] = M := ⟨_, rfl⟩
          simp only [hmt, hM] at HMO
          have hpm := pieceD_more name k ds y ps[j]
          rw [hmt, hM] at hpm
          simp only at hpm
          have HPM := Lib.hid (And.intro hpm (And.intro hres (And.intro hat hpc)))
          have HI6 := Lib.hid hrel.out.1
          have gtt : (0 : Int) ≤ (tt : Int) ∧ (0 : Int) ≤ (y.last : Int) := by omega
          clear hrel hres hat hpc hTs hjl hsum hmt hM hpm
          go_wp2_with fail
          refine HMO.out.mono ?_
          rintro e w6 ⟨rfl, hbut, hrd⟩
          have HI7 := Lib.hid (HI6.out.but hbut)
          have HM7 := Lib.hid hrd
          obtain ⟨n0, n1, n2, n3, n4, n5⟩ := HI7.out.nix
          obtain ⟨c0, c1, c2, c3, c4, c5, c6, c7⟩ := HI7.out.res.cells
          obtain ⟨f0, f1, f2, f3, f4, f5, f6, f7⟩ := HI7.out.res.frozen
          obtain ⟨q0, q1⟩ := HI7.out.pc HPM.out.2.2.2
          clear hbut hrd HMO HI6 d0 d1
          by_cases hle : tt ≤ y.last
          · have hle' : (tt : Int) ≤ (y.last : Int) := by omega
            have HE := Lib.hid (show x = (M0, 11, (at_ : Int)) by
              have h1 := HPM.out.1.1 (.inl hle)
              rw [if_pos hle] at h1
              have h2 := HPM.out.2.1
              rw [List.drop_eq_getElem_cons hlt, restD_bad h1] at h2
              exact HX4.out.1 _ h2.symm)
            have HPF := Lib.hid (HI7.out.res.fault 11 (at_ : Int)).drewD
            clear hle
            go_wp2_with fail
            go_region
            all_goals
              go_wp2_with fail
              refine ret_mf rfl rfl rfl rfl HPF.out.one HPF.out.two ?_
              exact HPF.out.faultD HE.out
          · have hle' : ¬ (tt : Int) ≤ (y.last : Int) := by omega
            by_cases hte : te = 0
            · obtain ⟨y', h1, h2, h3⟩ := HPM.out.1.2 hle hte
              have HN := Lib.hid (And.intro h2 (And.intro h3 (show restD k (at_ + ps[j].length + 1) y' (ps.drop (j + 1)) = RS by
                have h4 := HPM.out.2.1
                rw [List.drop_eq_getElem_cons hlt, restD_ok h1] at h4
                exact h4)))
              have hy' : y'.last ≤ 3 := pieceD_last h1
              have hteb : (te != 0) = false := by simp [hte]
              subst hte
              clear h1 h2 h3 hle
              go_wp2_with fail
              refine ⟨⟨j + 1, y', by rw [HN.out.1], by go_num, by omega, hy', ⟨HI7.out, ?_, ?_⟩⟩, by simp [intOf]; omega⟩
              · rw [← HN.out.2.1]; exact HM7.out
              · rw [lenB_take ps hlt, show p.length + 1 + wd.length + 1 + (lenB (ps.take j) + ps[j].length + 1) = at_ + ps[j].length + 1 by have := HPM.out.2.2.1; omega]
                exact HN.out.2.2
            · have hteb : (te != 0) = true := by simpa using hte
              have HE := Lib.hid (show x = (M0, te, (at_ : Int)) by
                have h1 := HPM.out.1.1 (.inr hte)
                rw [if_neg hle] at h1
                have h2 := HPM.out.2.1
                rw [List.drop_eq_getElem_cons hlt, restD_bad h1] at h2
                exact HX4.out.1 _ h2.symm)
              have HPF := Lib.hid (HI7.out.res.fault te (at_ : Int)).drewD
              clear hle hte
              go_wp2_with fail
              go_region
              all_goals
                go_wp2_with fail
                refine ret_mf rfl rfl rfl rfl HPF.out.one HPF.out.two ?_
                exact HPF.out.faultD HE.out
        · have hlt' : ¬ (j : Int) + 2 < (ps.length : Int) + 1 + 1 := by omega
          have HE := Lib.hid (show x = (⟨name, k, ds, y.rate, y.tags, y.time⟩, 0, 0) by
            have h := hrel.out.2.2
            rw [List.drop_eq_nil_of_le (by omega), restD_nil] at h
            exact HX4.out.2 _ h.symm)
          obtain ⟨sn, A, na, ca, B, kk, cb, hbx, hmi⟩ := hrel.out.2.1
          have HPF := Lib.hid (hrel.out.1.res.put hmi ca cb 0 0)
          have m0 := hbx.cell 0
          have m1 := hbx.cell 1
          have m2 := hbx.cell 2
          have m3 := hbx.cell 3
          have m4 := hbx.cell 4
          have m5 := hbx.cell 5
          simp only [List.getElem?_cons_zero, List.getElem?_cons_succ] at m0 m1 m2 m3 m4 m5
          obtain ⟨c0, c1, c2, c3, c4, c5, c6, c7⟩ := hrel.out.1.res.cells
          obtain ⟨f0, f1, f2, f3, f4, f5, f6, f7⟩ := hrel.out.1.res.frozen
          clear hrel hbx hmi
          go_wp2_with fail
          refine ret_mf rfl rfl rfl rfl HPF.out.one HPF.out.two ?_
          exact HPF.out.toldD HE.out
end Go.Proofs.YtbcmchkgamkceaaGreatDoor

/-
  The document's Parse of a line that is too long; and of any. No statement of the seat is proved here.
-/
namespace Go.Proofs.YtbcmchkgamkceaaGreatDoor
open Go.RowKit
open Dc (D D0)

set_option maxRecDepth 100000 in
set_option maxHeartbeats 4000000 in
theorem rdparse_long {s : ByteArray} {l : List UInt8} (hs : Str s l) (hl : 8192 < l.length) (hz : l.length ≤ 100000) (w : World) : Calls Tryz.prog 19 #[.string s] w (TellsM w (parseD l)) := by
  have hx : parseD l = (M0, 12, 0) := by unfold parseD; rw [if_pos hl]; rfl
  rw [hx]
  have hsz : (s.size : Int) = (l.length : Int) := by rw [hs.size]
  have HB := Lib.hid ((((Kb.start w).push 35 [.string ⟨#[]⟩, .int .i64 0, .slice none 0 0, .int .i64 0, .slice none 0 0, .int .i64 0]).pushAt (g := w.heap.size + 1) (by rw [size_alloc]) 42 [.int .i64 12, .int .i64 0]).pushAt (g := w.heap.size + 2) (by rw [size_alloc, size_alloc]) 35 [.string ⟨#[]⟩, .int .i64 0, .slice none 0 0, .int .i64 0, .slice none 0 0, .int .i64 0])
  have gl : 8192 < (l.length : Int) := by omega
  clear hs hx
  go_enter Tryz.func19, Tryz.ntmps19
  go_wp2_with fail
  refine ret_mf (g := w.heap.size) (g' := w.heap.size + 1) rfl rfl rfl rfl (HB.out.box (_, _, _) (.tail _ (.tail _ (.head _)))) (HB.out.box (_, _, _) (.tail _ (.head _))) ?_
  exact ⟨_, _, _, _, _, _, _, rfl, mis0 _ none none, HB.out.kept⟩
/-- The document's Parse, of whatever text. -/
theorem rdparse_any {s : ByteArray} {l : List UInt8} (hs : Str s l) (hz : l.length ≤ 100000) (w : World) : Calls Tryz.prog 19 #[.string s] w (TellsM w (parseD l)) := by
  rcases Nat.lt_or_ge 8192 l.length with h | h
  · exact rdparse_long hs h hz w
  · exact rdparse_calls hs h w
end Go.Proofs.YtbcmchkgamkceaaGreatDoor
