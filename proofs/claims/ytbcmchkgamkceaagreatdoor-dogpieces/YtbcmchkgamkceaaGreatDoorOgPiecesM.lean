/-
  What DogPieces asks, as plain data: a bare metric, its tags turned round; stores into kept blocks. No statement of the seat is proved here.
-/
import Derived.Test.YtbcmchkgamkceaaGreatDoorGrOgRefLine
import Derived.Test.YtbcmchkgamkceaaGreatDoorGrOgPieces
namespace Go.Proofs.YtbcmchkgamkceaaGreatDoor
open Go.RowKit
open Dc (D D0)

/-- A metric without a rate, tags and a time. -/
def bareM (m : Mt) : Mt := { m with rate := 1000000, tags := [], time := 0 }
theorem RightM.bare {m : Mt} (h : RightM m) : RightM (bareM m) :=
  ⟨h.name, h.kind, h.vals, h.many, ⟨show (1 : Int) ≤ 1000000 by decide, show (1000000 : Int) ≤ 1000000 by decide, fun _ => rfl⟩, ⟨Nat.zero_le _, fun t ht => by cases ht⟩, ⟨Int.le_refl 0, show (0 : Int) ≤ MaxT by decide⟩⟩
theorem RightM.tagged {m : Mt} (h : RightM m) {us : List Tg} (h1 : us.length ≤ 32) (h2 : ∀ t ∈ us, rightT t = true) : RightM { m with tags := us } :=
  ⟨h.name, h.kind, h.vals, h.many, h.rate, ⟨h1, h2⟩, h.time⟩
theorem norm_one (t : Tg) : norm [t] = [t] := (up_iff.1 (List.pairwise_singleton _ t)).symm
/-- Each tag's text, and a comma behind it. -/
def commaT (us : List Tg) : List UInt8 := (us.map fun u => txt u ++ [44]).flatten
theorem commaT_nil : commaT [] = [] := rfl
theorem commaT_snoc (us : List Tg) (u : Tg) : commaT (us ++ [u]) = commaT us ++ (txt u ++ [44]) := by unfold commaT; simp
theorem join_snoc (p : List UInt8) : ∀ ps : List (List UInt8), Lib.join (ps ++ [p]) [44] = (ps.map fun x => x ++ [44]).flatten ++ p
  | [] => by rw [List.nil_append, Lib.join_one]; simp
  | [q] => by rw [List.singleton_append, joinB_two, Lib.join_one]; simp
  | q :: r :: ps => by
    rw [List.cons_append, List.cons_append, joinB_two, ← List.cons_append, join_snoc p (r :: ps)]
    simp
theorem textT_comma (us : List Tg) (u : Tg) : textT (us ++ [u]) = commaT us ++ txt u := by
  unfold textT commaT
  rw [List.map_append, List.map_cons, List.map_nil, join_snoc, List.map_map]
  rfl
/-! A round of the loop over the tags, as texts. -/
section
variable {ls : List UInt8} {us ts : List Tg} {tg : Tg} {T t : ByteArray}
theorem round_one (hT : Str T (ls ++ 124 :: 35 :: commaT us)) (ht : Str t (txt tg)) : Str (T ++ t) (ls ++ 124 :: 35 :: textT (us ++ [tg])) := by
  have := Str.append hT ht
  rw [textT_comma]
  simpa using this
theorem round_comma (hT : Str T (ls ++ 124 :: 35 :: commaT us)) (ht : Str t (txt tg)) : Str (T ++ t ++ ⟨#[44]⟩) (ls ++ 124 :: 35 :: commaT (us ++ [tg])) := by
  have := Str.append (Str.append hT ht) (Str.mk [44])
  rw [commaT_snoc]
  simpa using this
theorem mem_more {i : Nat} (hg : ts[i]? = some tg) (h : ∀ x, x ∈ us ↔ x ∈ ts.drop (i + 1)) (x : Tg) : x ∈ us ++ [tg] ↔ x ∈ ts.drop i := by
  obtain ⟨hi, e⟩ := List.getElem?_eq_some_iff.1 hg
  rw [List.drop_eq_getElem_cons hi, e, List.mem_append, List.mem_singleton, List.mem_cons, h x]
  exact Or.comm
theorem mem_more2 {i : Nat} (hg : ts[i]? = some tg) (h : ∀ x, x ∈ us ↔ x ∈ ts.drop (i + 1)) (x : Tg) : x ∈ us ++ [tg] ++ [tg] ↔ x ∈ ts.drop i := by
  rw [← mem_more hg h x, List.mem_append, List.mem_singleton]
  exact ⟨fun h => h.elim id fun e => by rw [e]; simp, .inl⟩
end
theorem comma_len : ∀ (us : List Tg), (∀ t ∈ us, rightT t = true) → (commaT us).length ≤ 166 * us.length
  | [], _ => Nat.le_refl _
  | t :: us, h => by
    have h1 := txt_len (h t (by simp))
    have h2 := comma_len us (fun x hx => h x (List.mem_cons_of_mem _ hx))
    have e : commaT (t :: us) = txt t ++ [44] ++ commaT us := rfl
    rw [e]
    simp only [List.length_append, List.length_cons, List.length_nil]
    omega
theorem drop_txt (ls p : List UInt8) : (ls ++ 124 :: 35 :: p).drop (ls.length + 2) = p := by
  rw [List.drop_append]
  simp
theorem place_at (z : Int) {n : Nat} (hn : 0 < n) : ∃ a : Nat, a < n ∧ (z.tmod n + n).tmod n = a ∧ -(n : Int) < z.tmod n ∧ z.tmod n < n := by
  have h1 : z.tmod n < n := Int.tmod_lt_of_pos z (by omega)
  have h2 : -(n : Int) < z.tmod n := by
    have := Int.lt_tmod_of_pos z (by omega : (0 : Int) < n)
    omega
  have h3 : 0 ≤ (z.tmod n + n).tmod n := Int.tmod_nonneg _ (by omega)
  have h4 : (z.tmod n + n).tmod n < n := Int.tmod_lt_of_pos _ (by omega)
  exact ⟨((z.tmod n + n).tmod n).toNat, by omega, by omega, h2, h1⟩
theorem tags_one_at {w : World} {A : Option Addr} {ts : List Tg} {i : Nat} (h : Tags w A ts) (hi : i < ts.length) : ∃ b off, A = some ⟨b, off, none⟩ ∧ Tags w (some ⟨b, off + i * 2, none⟩) [ts[i]] := by
  obtain ⟨b, off, e, c0, c1⟩ := h.at_ hi
  refine ⟨b, off, e, fun j u hu => ⟨b, off + i * 2, rfl, ?_⟩⟩
  rcases j with _ | _ | j
  · injection hu with hu; subst hu; exact c0
  · injection hu with hu; subst hu; exact c1
  · cases hu

section
variable {w W : World} {L : List (Nat × TypeId × List Value)} {M : List (ByteArray × Option Addr × Nat × Option Addr × Nat × Mt)}
theorem Kb.dropM {x : ByteArray × Option Addr × Nat × Option Addr × Nat × Mt} (h : Kb w L (x :: M) W) : Kb w L M W := h.subs (fun _ hx => hx) (fun _ hx => .tail _ hx)
theorem Kb.drop2 {x y : Nat × TypeId × List Value} (h : Kb w (x :: y :: L) M W) : Kb w (x :: L) M W :=
  h.subs (fun z hz => by rcases List.mem_cons.1 hz with rfl | hz; exact .head _; exact .tail _ (.tail _ hz)) (fun _ hx => hx)
/-- A fault that Parse told, and nothing of its metric. -/
theorem Kb.olayF {x : ByteArray × Option Addr × Nat × Option Addr × Nat × Mt} (h : Kb w L (x :: M) W) (a b c d e f x y : Value) : Kb w ((W.heap.size + 1, 42, [x, y]) :: L) M ((W.alloc (.cells #[a, b, c, d, e, f] 35)).alloc (.cells #[x, y] 42)) := (h.dropM.olay2 a b c d e f x y).drop2
/-- A store into a metric's block. -/
theorem Kb.put {g i : Nat} {t : TypeId} {s : ByteArray} {kd rt tm : Int} {A0 B0 : Option Addr} {n0 ca0 k0 cb0 : Nat} (h : Kb w ((g, t, mC s kd A0 n0 ca0 rt B0 k0 cb0 tm) :: L) M W) (hg : w.heap.size ≤ g) (hL : ∀ x ∈ L, x.1 ≠ g) (u : Value) :
    Kb w ((g, t, (mC s kd A0 n0 ca0 rt B0 k0 cb0 tm).set i u) :: L) M (W.setCell ⟨g, i, none⟩ u) := by
  have hb := h.box _ (.head _)
  refine ⟨h.kept.setCell hg u, fun x hx => ?_, fun x hx => (h.met x hx).set_met hb i u⟩
  rcases List.mem_cons.1 hx with rfl | hx
  · exact hb.set i u
  · exact (h.box x (.tail _ hx)).far (fun e => hL x hx e) u
/-- What a call of Normal leaves; its tags have room. -/
def NRo (w : World) (L : List (Nat × TypeId × List Value)) (M : List (ByteArray × Option Addr × Nat × Option Addr × Nat × Mt)) (m' : Mt) (x : Int) (e : Ending) (w' : World) : Prop :=
  ∃ s1 A1 n1 ca1 B1 k1 cb1, e = .returned (.tuple #[.agg #[.string s1, .int .i64 m'.kind, .slice A1 n1 ca1, .int .i64 m'.rate, .slice B1 k1 cb1, .int .i64 m'.time], .int .i64 x]) ∧ Kb w L ((s1, A1, n1, B1, k1, m') :: M) w' ∧ k1 ≤ cb1
theorem Kb.nroom_ {x : Int} {m' : Mt} {s : ByteArray} {A B : Option Addr} {n k : Nat} {m : Mt} (h : Kb w L M W) (hm : (s, A, n, B, k, m) ∈ M) (z : Small m) (hx : codeM m = x) (hn : nM m = m') (ca cb : Nat) :
    Calls Tryz.prog 21 #[.agg #[.string s, .int .i64 m.kind, .slice A n ca, .int .i64 m.rate, .slice B k cb, .int .i64 m.time]] W (NRo w L M m' x) := by
  refine (mnormal_room (ca := ca) (cb := cb) (h.m hm) z).mono fun e w' ⟨⟨s1, A1, n1, ca1, B1, k1, cb1, he, hmi, hro⟩, hb⟩ => ⟨s1, A1, n1, ca1, B1, k1, cb1, ?_, (h.next hb).mAdd (by rw [hn] at hmi; exact hmi), hro⟩
  rw [hx, hn] at he; exact he
end
end Go.Proofs.YtbcmchkgamkceaaGreatDoor
