/-
  NPut, NTogether, NParse, NRateFault, NRefParse. No statement of the seat is proved here.
-/
import Derived.Test.YtbcmchkgamkceaaGreatDoorGrTMath
import Derived.Test.YtbcmchkgamkceaaGreatDoorGrKIs
import Derived.WalkMore
/-
  Package num: the closure that puts a digit to a number. No statement of the seat is proved here.
-/
namespace Go.Proofs.YtbcmchkgamkceaaGreatDoor
open Go.RowKit

def MaxI : Nat := 9223372036854775807
/-- What is known of a number whose digits make v. -/
structure Tog (v n : Nat) (fits : Bool) : Prop where
  small : n ≤ MaxI
  plain : fits = true → n = v
  great : fits = false → MaxI < v

/-- What the closure leaves. -/
structure PutSo (B gn gf v : Nat) (w w' : World) : Prop where
  kept : Below B w w'
  has : ∃ (n : Nat) (fits : Bool), Box w' gn 3 [.int .i64 n] ∧ Box w' gf 4 [.bool fits] ∧ Tog v n fits

set_option maxRecDepth 100000 in
set_option maxHeartbeats 2000000 in
theorem put_calls (w : World) (B gn gf v n d : Nat) (fits : Bool) (hd : d ≤ 9) (hn : Box w gn 3 [.int .i64 n]) (hf : Box w gf 4 [.bool fits]) (ht : Tog v n fits) (h1 : B ≤ gn) (h2 : B ≤ gf) (h3 : gn ≠ gf) :
    Calls Tryz.prog 148 #[.int .i64 d, .pointer (some ⟨gf, 0, none⟩), .pointer (some ⟨gn, 0, none⟩)] w fun e w' => e = .returned (.tuple #[]) ∧ PutSo B gn gf (10 * v + d) w w' := by
  have cn : w.cell? ⟨gn, 0, none⟩ = some (.int .i64 n) := hn.cell 0
  have cf : w.cell? ⟨gf, 0, none⟩ = some (.bool fits) := hf.cell 0
  have fn := hn.frozen 0
  have ff := hf.frozen 0
  have h3' : gf ≠ gn := fun h => h3 h.symm
  have hsm := ht.small
  obtain ⟨x, hx⟩ : ∃ x : Int, x = (n : Int) := ⟨_, rfl⟩
  obtain ⟨y, hy⟩ : ∃ y : Int, y = (d : Int) := ⟨_, rfl⟩
  have hx0 : 0 ≤ x := by omega
  have hxm : x ≤ 9223372036854775807 := by unfold MaxI at hsm; omega
  have hy0 : 0 ≤ y := by omega
  have hy9 : y ≤ 9 := by omega
  rw [← hx] at cn
  rw [← hy]
  rcases fits with _ | _
  · have HH := Lib.hid (And.intro (And.intro hn hf) (And.intro ht hx))
    clear hn hf ht hx hy hsm
    go_enter Tryz.func148, Tryz.ntmps148
    go_wp2_with fail
    refine bodyPost_end (v := .tuple #[]) (by simp [results, Tryz.results148, go_sem]) rfl ⟨rfl, ?_⟩
    refine ⟨below_set (Below.refl _ _) h2 _ _, n, false, HH.out.1.1.far (q := ⟨gf, 0, none⟩) h3 _, HH.out.1.2.set 0 _, ?_⟩
    have := HH.out.2.1
    exact ⟨this.small, fun h => (by cases h), fun _ => by have := this.great rfl; omega⟩
  · obtain ⟨q, hq⟩ : ∃ q : Int, q = (9223372036854775807 - y) / 10 := ⟨_, rfl⟩
    have hw1 : IntKind.i64.wrap (9223372036854775807 - y) = 9223372036854775807 - y := by rw [IntKind.wrap_i64]; omega
    have hw2 : IntKind.i64.wrap ((9223372036854775807 - y).tdiv 10) = q := by rw [Int.tdiv_eq_ediv_of_nonneg (by omega), IntKind.wrap_i64]; omega
    have HH := Lib.hid (And.intro (And.intro hn hf) (And.intro ht (And.intro hx hy)))
    by_cases hle : x ≤ q
    · have hz1 : 0 ≤ 10 * x := by omega
      have hz2 : 10 * x + y ≤ 9223372036854775807 := by omega
      have HE := Lib.hid (show 10 * v + d ≤ MaxI ∧ (10 * x + y = ((10 * v + d : Nat) : Int)) from by
        have := ht.plain rfl
        unfold MaxI
        constructor <;> omega)
      clear hn hf ht hx hy hsm hq
      go_enter Tryz.func148, Tryz.ntmps148
      go_wp2_with fail
      refine bodyPost_end (v := .tuple #[]) (by simp [results, Tryz.results148, go_sem]) rfl ⟨rfl, ?_⟩
      refine ⟨below_set (below_set (Below.refl _ _) h2 _ _) h1 _ _, 10 * v + d, true, ?_, ?_, ⟨HE.out.1, fun _ => rfl, fun h => (by cases h)⟩⟩
      · rw [← HE.out.2]
        exact (HH.out.1.1.far (q := ⟨gf, 0, none⟩) h3 _).set 0 _
      · exact (HH.out.1.2.set 0 _).far (q := ⟨gn, 0, none⟩) h3' _
    · have HE := Lib.hid (show MaxI < 10 * v + d from by
        have := ht.plain rfl
        unfold MaxI
        omega)
      clear hn hf ht hx hy hsm hq
      go_enter Tryz.func148, Tryz.ntmps148
      go_wp2_with fail
      refine bodyPost_end (v := .tuple #[]) (by simp [results, Tryz.results148, go_sem]) rfl ⟨rfl, ?_⟩
      refine ⟨below_set (Below.refl _ _) h2 _ _, n, false, HH.out.1.1.far (q := ⟨gf, 0, none⟩) h3 _, HH.out.1.2.set 0 _, ?_⟩
      exact ⟨HH.out.2.1.small, fun h => (by cases h), fun _ => HE.out⟩
end Go.Proofs.YtbcmchkgamkceaaGreatDoor

/-
  Package num: the number that digits are. No statement of the seat is proved here.
-/
namespace Go.Proofs.YtbcmchkgamkceaaGreatDoor
open Go.RowKit

/-- What holds while the digits are put together. -/
structure TogAt (w : World) (l : List UInt8) (k : Nat) (wr : World) : Prop where
  at_ : k ≤ l.length
  so : PutSo w.heap.size w.heap.size (w.heap.size + 1) (val (l.take k)) w wr

theorem TogAt.step {w wr w' : World} {l : List UInt8} {k : Nat} (h : TogAt w l k wr) (hk : k < l.length) (hp : PutSo w.heap.size w.heap.size (w.heap.size + 1) (10 * val (l.take k) + (l[k].toNat - 48)) wr w') : TogAt w l (k + 1) w' := by
  refine ⟨hk, h.so.kept.trans hp.kept, ?_⟩
  have e : val (l.take (k + 1)) = 10 * val (l.take k) + (l[k].toNat - 48) := by rw [List.take_succ_eq_append_getElem hk, val_snoc]
  rw [e]
  exact hp.has

set_option maxRecDepth 100000 in
set_option maxHeartbeats 2000000 in
theorem together_calls (s : ByteArray) (l : List UInt8) (h : Str s l) (hd : Digs l) (hz : (s.size : Int) ≤ 9000) (w : World) :
    Calls Tryz.prog 115 #[.string s] w fun e w' => (∃ (n : Nat) (fits : Bool), e = .returned (.tuple #[.int .i64 n, .bool fits]) ∧ Tog (val l) n fits) ∧ Below w.heap.size w w' := by
  have hmf : ∀ (fn : Fn) (first cap : Array Value) (w : World), (Instr.makeFunc fn first cap).run Tryz.prog w = .ok (.func fn first cap) w := fun _ _ _ _ => rfl
  have hn : s.size = l.length := h.size
  have HS := Lib.hid (And.intro h hd)
  clear h hd
  have b1 := (Box.new w 3 [.int .i64 0]).alloc (.cells #[.bool true] 4)
  have b2 := Box.new (w.alloc (.cells #[.int .i64 0] 3)) 4 [.bool true]
  rw [size_alloc] at b2
  have hk2 := ((Below.refl w.heap.size w).alloc (Nat.le_refl _) (.cells #[.int .i64 0] 3)).alloc (by rw [size_alloc]; omega) (.cells #[.bool true] 4)
  have HG := Lib.hid (show TogAt w l 0 ((w.alloc (.cells #[.int .i64 0] 3)).alloc (.cells #[.bool true] 4)) from ⟨by omega, hk2, 0, true, b1, b2, ⟨by decide, fun _ => rfl, fun h => (by cases h)⟩⟩)
  clear b1 b2 hk2
  go_enter Tryz.func115, Tryz.ntmps115
  go_wp2_with fail
  go_loopw [11] (fun v11 wr => ∃ k : Nat, v11 = .int .i64 k ∧ k ≤ l.length ∧ Hid (TogAt w l k wr)) (fun v11 _ => l.length - (intOf v11).toNat)
  case atStart => exact ⟨0, rfl, by omega, HG⟩
  case round =>
    obtain ⟨k, rfl, hkl, hrel⟩ := hrel
    clear HG
    by_cases hlt : k < l.length
    · have hidx := HS.out.1.index (i := (k : Int)) k rfl hlt
      have hlt' : (k : Int) < (s.size : Int) := by omega
      have hb : Dig l[k] := HS.out.2 _ (List.getElem_mem hlt)
      unfold Dig at hb
      obtain ⟨n, fits, hbn, hbf, htg⟩ := hrel.out.so.has
      have hpc := put_calls wr w.heap.size w.heap.size (w.heap.size + 1) (val (l.take k)) n (l[k].toNat - 48) fits (by omega) hbn hbf htg (Nat.le_refl _) (by omega) (by omega)
      obtain ⟨z, hzb⟩ : ∃ z : Int, z = (l[k].toNat : Int) := ⟨_, rfl⟩
      rw [← hzb] at hidx
      rw [show (((l[k].toNat - 48 : Nat)) : Int) = z - 48 by omega] at hpc
      have hz0 : 48 ≤ z ∧ z ≤ 57 := by omega
      have hsub : IntKind.u8.wrap (z - 48) = z - 48 := by rw [IntKind.wrap_u8']; omega
      have HP := Lib.hid hpc
      have HLT := Lib.hid hlt
      clear hpc hzb hb hbn hbf htg
      go_wp2_with fail
      refine HP.out.mono ?_
      rintro e w3 ⟨rfl, hso⟩
      have HX := Lib.hid (hrel.out.step HLT.out hso)
      clear hso HP
      go_wp2_with fail
      exact ⟨⟨k + 1, by go_num, HLT.out, HX⟩, by have := HLT.out; simp [intOf]; omega⟩
    · have hlt' : ¬ (k : Int) < (s.size : Int) := by omega
      have hke : l.take k = l := List.take_of_length_le (by omega)
      obtain ⟨n, fits, hbn, hbf, htg⟩ := hrel.out.so.has
      rw [hke] at htg
      have cn : wr.cell? ⟨w.heap.size, 0, none⟩ = some (.int .i64 n) := hbn.cell 0
      have cf : wr.cell? ⟨w.heap.size + 1, 0, none⟩ = some (.bool fits) := hbf.cell 0
      have HT := Lib.hid (And.intro htg hrel.out.so.kept)
      clear hbn hbf htg hke hrel
      go_wp2_with fail
      go_quiet (fail)
      go_wp2_with fail
      go_ret2
      exact ⟨⟨n, fits, rfl, HT.out.1⟩, HT.out.2.trans (Same.below (Same.drewN _ _))⟩
end Go.Proofs.YtbcmchkgamkceaaGreatDoor

/-
  Package num: Parse, Time. No statement of the seat is proved here.
-/
namespace Go.Proofs.YtbcmchkgamkceaaGreatDoor
open Go.RowKit

theorem results_tmp_cell {fn : Func} {p u : Tmp} {ty : TypeId} (h : fn.results = #[.tmp u, .cell p ty]) (tmps : Array Value) (w : World) :
    (results fn tmps).run Tryz.prog w = ((asAddr (tmps.getD p undef)).run Tryz.prog w).andThen fun a w1 => ((loadVar ty a).run Tryz.prog w1).andThen fun v w2 => .ok (.tuple #[tmps.getD u undef, v]) w2 := by
  simp only [results, h]
  simp [Sem.run_bind, Result.andThen]
/-- A number and a Fault are returned. -/
theorem ret_nf {fn : Func} {p u : Tmp} (hres : fn.results = #[.tmp u, .cell p 42]) {R : Ending → World → Prop} {a : Act} {w : World} {g : Nat} {x y v : Value} (hp : a.tmps.getD p undef = .pointer (some ⟨g, 0, none⟩)) (hu : a.tmps.getD u undef = v) (hd : a.defers = [])
    (hb : Box w g 42 [x, y]) (hR : R (.returned (.tuple #[v, .agg #[x, y]])) w) : bodyPost Tryz.prog fn R .ret a w := by
  refine bodyPost_ret ?_ hd hR
  rw [results_tmp_cell hres, hp, hu, addr_is]
  simp only [Result.andThen]
  rw [load_fault hb]

/-- What a number and a Fault are told as. -/
def Told3 (w : World) (r : Int × Int × Int) (e : Ending) (w' : World) : Prop := e = .returned (.tuple #[.int .i64 r.1, .agg #[.int .i64 r.2.1, .int .i64 r.2.2]]) ∧ Below w.heap.size w w'
theorem told3_of {w w' : World} {r : Int × Int × Int} {n a b : Int} (h : r = (n, a, b)) (hb : Below w.heap.size w w') : Told3 w r (.returned (.tuple #[.int .i64 n, .agg #[.int .i64 a, .int .i64 b]])) w' := by
  rw [h]; exact ⟨rfl, hb⟩

/-- Which number a text is, or how it is wrong. -/
def parsed (l : List UInt8) (lo hi : Int) : Int × Int × Int :=
  if l = [] then (0, 13, 0) else if 0 ≤ bad 4 l then (0, 14, bad 4 l) else if l.head? = some 48 ∧ 1 < l.length then (0, 11, 0)
  else if MaxI < val l ∨ (val l : Int) < lo ∨ hi < (val l : Int) then (0, 10, 0) else (val l, 0, 0)

theorem dig_is (b : UInt8) : isOf 4 (b.toNat : Int) = true ↔ Dig b := by
  unfold isOf Dig
  rw [decide_eq_true_eq]
  simp
  omega
theorem digs_of_bad {l : List UInt8} (h : ¬ 0 ≤ bad 4 l) : Digs l := by
  rcases bad_cases 4 l with ⟨k, hk, he, _⟩ | ⟨_, ha⟩
  · rw [he] at h; omega
  · intro b hb
    obtain ⟨i, hi, rfl⟩ := List.mem_iff_getElem.mp hb
    exact (dig_is _).1 (ha i hi)
theorem bad_of_digs {l : List UInt8} (h : Digs l) : bad 4 l = -1 := bad_none fun _ hi => (dig_is _).2 (h _ (List.getElem_mem hi))

theorem fault_digits {l : List UInt8} (hl : l.length ≤ 9000) : faultOf 4 l 1 9223372036854775807 = if l = [] then (13, 0) else if 0 ≤ bad 4 l then (14, bad 4 l) else (0, 0) := by
  unfold faultOf
  rw [if_neg (by decide)]
  cases l with
  | nil => rfl
  | cons b r =>
    simp only [List.length_cons] at hl ⊢
    rw [if_neg (by omega), if_neg (by omega), if_neg (by simp : ¬ b :: r = [])]

/-- The fault of a call beside the one that is to be told. -/
structure TwoF (w : World) (w2 : World) (x y : Int) : Prop where
  kept : Below w.heap.size w w2
  own : Box w2 w.heap.size 42 [.int .i64 0, .int .i64 0]
  far : w.heap.size < w2.heap.size

theorem TwoF.set {w w2 : World} {x y : Int} (h : TwoF w w2 x y) (o : Obj) (a b : Value) : Box (((w2.alloc o).setCell ⟨w.heap.size, 0, none⟩ a).setCell ⟨w.heap.size, 1, none⟩ b) w.heap.size 42 [a, b] ∧ Below w.heap.size w (((w2.alloc o).setCell ⟨w.heap.size, 0, none⟩ a).setCell ⟨w.heap.size, 1, none⟩ b) :=
  ⟨((h.own.alloc o).set 0 a).set 1 b, below_set (below_set (h.kept.alloc (Nat.le_of_lt h.far) o) (Nat.le_refl _) _ _) (Nat.le_refl _) _ _⟩

set_option maxRecDepth 100000 in
set_option maxHeartbeats 4000000 in
theorem parse_calls (s : ByteArray) (l : List UInt8) (h : Str s l) (hz : (s.size : Int) ≤ 9000) (lo hi : Int) (w : World) : Calls Tryz.prog 117 #[.string s, .int .i64 lo, .int .i64 hi] w (Told3 w (parsed l lo hi)) := by
  have hn : s.size = l.length := h.size
  have HT := Lib.hid (text_calls 4 s l h (by omega) 1 9223372036854775807)
  rw [fault_digits (by omega)] at HT
  have b0 := Box.new w 42 [.int .i64 0, .int .i64 0]
  have HK := Lib.hid h
  obtain ⟨r, hr⟩ : ∃ r, r = parsed l lo hi := ⟨_, rfl⟩
  rw [← hr]
  obtain ⟨f, hf⟩ : ∃ f : Int × Int, f = (if l = [] then (13, 0) else if 0 ≤ bad 4 l then (14, bad 4 l) else (0, 0)) := ⟨_, rfl⟩
  rw [← hf] at HT
  have hcase : (f.1 ≠ 0 ∧ r = (0, f.1, f.2)) ∨ (f = (0, 0) ∧ l ≠ [] ∧ Digs l ∧ r = if l.head? = some 48 ∧ 1 < l.length then (0, 11, 0) else if MaxI < val l ∨ (val l : Int) < lo ∨ hi < (val l : Int) then (0, 10, 0) else ((val l : Int), 0, 0)) := by
    rw [hr, hf]
    unfold parsed
    by_cases h1 : l = []
    · rw [if_pos h1, if_pos h1]; exact .inl ⟨by decide, rfl⟩
    · rw [if_neg h1, if_neg h1]
      by_cases h2 : 0 ≤ bad 4 l
      · rw [if_pos h2, if_pos h2]; exact .inl ⟨(by decide : (14 : Int) ≠ 0), rfl⟩
      · rw [if_neg h2, if_neg h2]
        exact .inr ⟨rfl, h1, digs_of_bad h2, rfl⟩
  clear hr hf h
  obtain ⟨x, y⟩ := f
  go_enter Tryz.func117, Tryz.ntmps117
  go_wp2_with fail
  refine (HT.out _).mono ?_
  rintro e w1 ⟨rfl, hb⟩
  have b1 := b0.keep hb
  have hb2 := (Below.refl w.heap.size w).alloc (Nat.le_refl _) (.cells #[.int .i64 0, .int .i64 0] 42)
  have HB := Lib.hid (show TwoF w w1 x y from ⟨hb2.trans (hb.mono (by simp)), b1, b1.lt⟩)
  clear hb hb2 HT b0
  have k1 := b1.alloc (.cells #[.int .i64 x, .int .i64 y] 42)
  have c0 : (w1.alloc (.cells #[.int .i64 x, .int .i64 y] 42)).cell? ⟨w.heap.size, 0, none⟩ = some (.int .i64 0) := k1.cell 0
  have c1 : (w1.alloc (.cells #[.int .i64 x, .int .i64 y] 42)).cell? ⟨w.heap.size, 1, none⟩ = some (.int .i64 0) := k1.cell 1
  have f0 := k1.frozen 0
  have f1 := k1.frozen 1
  clear k1 b1
  rcases hcase with ⟨hx, hr⟩ | ⟨hf, hne, hd, hr⟩
  · have hx' : (x == 0) = false := by simpa using hx
    have HR := Lib.hid hr
    clear hx hr
    go_wp2_with fail
    go_region
    all_goals
      go_wp2_with fail
      refine ret_nf rfl rfl rfl rfl ((HB.out.set _ _ _).1.same (Same.drewN _ 1)) ?_
      exact told3_of HR.out ((HB.out.set _ _ _).2.trans (Same.below (Same.drewN _ 1)))
  · injection hf with hx hy
    subst hx hy
    obtain ⟨b, t, rfl⟩ : ∃ b t, l = b :: t := by cases l with | nil => exact absurd rfl hne | cons b t => exact ⟨b, t, rfl⟩
    have hidx := HK.out.index (i := 0) 0 rfl (by simp)
    simp only [List.getElem_cons_zero] at hidx
    have hbb := b.toNat_lt
    have hlen : (s.size : Int) = (t.length : Int) + 1 := by rw [hn]; simp
    have htog := fun W => together_calls s (b :: t) HK.out hd hz W
    have HG := Lib.hid htog
    simp only [List.head?_cons, Option.some.injEq, List.length_cons] at hr
    generalize hv : val (b :: t) = v at hr
    rw [hv] at HG
    obtain ⟨z, hzz⟩ : ∃ z : Int, z = (b.toNat : Int) := ⟨_, rfl⟩
    rw [← hzz] at hidx
    have hz48 : z = 48 ↔ b = 48 := by
      constructor
      · intro h; exact UInt8.toNat_inj.1 (by show b.toNat = 48; omega)
      · rintro rfl; exact hzz
    have HR := Lib.hid hr
    have HZ := Lib.hid hz48
    clear hv hr hzz hz48 hbb hd hne htog hn
    by_cases h48 : z = 48 ∧ 1 < (s.size : Int)
    · obtain ⟨e1, e2⟩ := h48
      have HR2 := Lib.hid (show r = (0, 11, 0) by rw [HR.out, if_pos ⟨HZ.out.1 e1, by omega⟩])
      subst e1
      clear HR
      go_wp2_with fail
      refine ret_nf rfl rfl rfl rfl (HB.out.set _ _ _).1 ?_
      exact told3_of HR2.out (HB.out.set _ _ _).2
    · have HR2 := Lib.hid (show r = if MaxI < v ∨ (v : Int) < lo ∨ hi < (v : Int) then (0, 10, 0) else ((v : Int), 0, 0) by rw [HR.out, if_neg]; rintro ⟨e1, e2⟩; exact h48 ⟨HZ.out.2 e1, by omega⟩)
      have hand : (z == 48) = false ∨ ((z == 48) = true ∧ ¬ 1 < (s.size : Int)) := by
        by_cases e : z = 48
        · right; exact ⟨by simp [e], fun h => h48 ⟨e, h⟩⟩
        · left; simp [e]
      clear HR h48 hlen c0 c1 f0 f1
      rcases hand with e1 | ⟨e1, e2⟩
      all_goals
        go_wp2_with fail
        refine (HG.out _).mono ?_
        rintro e w2 ⟨⟨n, fits, rfl, htg⟩, hb⟩
        have b2 := (HB.out.own.alloc (.cells #[.int .i64 0, .int .i64 0] 42)).keep hb
        have kk := below_then (HB.out.kept.alloc (Nat.le_of_lt HB.out.far) (.cells #[.int .i64 0, .int .i64 0] 42)) hb
        have c0 : w2.cell? ⟨w.heap.size, 0, none⟩ = some (.int .i64 0) := b2.cell 0
        have c1 : w2.cell? ⟨w.heap.size, 1, none⟩ = some (.int .i64 0) := b2.cell 1
        have f0 := b2.frozen 0
        have f1 := b2.frozen 1
        have HF := Lib.hid (fun x y => laidF_is b2 kk x y)
        clear b2 kk hb HG HB
        obtain ⟨u, hu⟩ : ∃ u : Int, u = (n : Int) := ⟨_, rfl⟩
        rw [← hu]
        have hcs : (fits = false ∧ r = (0, 10, 0)) ∨ (fits = true ∧ u < lo ∧ r = (0, 10, 0)) ∨ (fits = true ∧ ¬ u < lo ∧ hi < u ∧ r = (0, 10, 0)) ∨ (fits = true ∧ ¬ u < lo ∧ ¬ hi < u ∧ r = (u, 0, 0)) := by
          cases fits with
          | false => exact .inl ⟨rfl, by rw [HR2.out, if_pos (.inl (htg.great rfl))]⟩
          | true =>
            have hv := htg.plain rfl
            subst hv
            have := htg.small
            by_cases k1 : u < lo
            · exact .inr (.inl ⟨rfl, k1, by rw [HR2.out, if_pos (.inr (.inl (by omega)))]⟩)
            · by_cases k2 : hi < u
              · exact .inr (.inr (.inl ⟨rfl, k1, k2, by rw [HR2.out, if_pos (.inr (.inr (by omega)))]⟩))
              · exact .inr (.inr (.inr ⟨rfl, k1, k2, by rw [HR2.out, if_neg (by omega), hu]⟩))
        clear HR2 htg hu
        rcases hcs with ⟨rfl, hr⟩ | ⟨rfl, k1, hr⟩ | ⟨rfl, k1, k2, hr⟩ | ⟨rfl, k1, k2, hr⟩
        all_goals
          have HR := Lib.hid hr
          clear hr
          go_wp2_with fail
          refine ret_nf rfl rfl rfl rfl (HF.out _ _).1 ?_
          exact told3_of HR.out (HF.out _ _).2

theorem ntime_calls (s : ByteArray) (l : List UInt8) (h : Str s l) (hz : (s.size : Int) ≤ 9000) (w : World) : Calls Tryz.prog 74 #[.string s] w (Told3 w (parsed l 1 1099511627776)) := by
  have HT := Lib.hid (parse_calls s l h hz 1 1099511627776)
  clear h hz
  have b0 := Box.new w 42 [.int .i64 0, .int .i64 0]
  generalize parsed l 1 1099511627776 = r at HT
  obtain ⟨n, x, y⟩ := r
  go_enter Tryz.func74, Tryz.ntmps74
  go_wp2_with fail
  refine (HT.out _).mono ?_
  rintro e w1 ⟨rfl, hb⟩
  have b1 := b0.keep hb
  have kk := below_then ((Below.refl w.heap.size w).alloc (Nat.le_refl _) (.cells #[.int .i64 0, .int .i64 0] 42)) (hb.mono (by simp))
  have c0 : w1.cell? ⟨w.heap.size, 0, none⟩ = some (.int .i64 0) := b1.cell 0
  have c1 : w1.cell? ⟨w.heap.size, 1, none⟩ = some (.int .i64 0) := b1.cell 1
  have f0 := b1.frozen 0
  have f1 := b1.frozen 1
  have HF := Lib.hid (fun x y => laidF_is b1 kk x y)
  clear b1 kk hb HT b0
  go_wp2_with fail
  refine ret_nf rfl rfl rfl rfl (HF.out _ _).1 ?_
  exact told3_of rfl (HF.out _ _).2
end Go.Proofs.YtbcmchkgamkceaaGreatDoor

/-
  Package num: how a rate's text is wrong. No statement of the seat is proved here.
-/
namespace Go.Proofs.YtbcmchkgamkceaaGreatDoor
open Go.RowKit

/-- How a rate's text is wrong (that of 1 is not asked). -/
def rfault : List UInt8 → Int × Int
  | [] => (13, 0)
  | [a] => if a = 48 then (11, 1) else (11, 0)
  | a :: b :: d => if a ≠ 48 then (11, 0) else if b ≠ 46 then (11, 1) else if d = [] then (13, 2) else if 0 ≤ bad 4 d then (14, 2 + bad 4 d) else if 6 < d.length then (12, 8) else (0, 0)

theorem rf_eq1 (a : UInt8) : rfault [a] = if a = 48 then (11, 1) else (11, 0) := rfl
theorem rf_eq2 (a b : UInt8) (d : List UInt8) : rfault (a :: b :: d) = if a ≠ 48 then (11, 0) else if b ≠ 46 then (11, 1) else if d = [] then (13, 2) else if 0 ≤ bad 4 d then (14, 2 + bad 4 d) else if 6 < d.length then (12, 8) else (0, 0) := rfl
theorem rf_dots (d : List UInt8) : rfault (48 :: 46 :: d) = if d = [] then (13, 2) else if 0 ≤ bad 4 d then (14, 2 + bad 4 d) else if 6 < d.length then (12, 8) else (0, 0) := rfl

/-- The first k bytes are right. -/
structure OkTo (l : List UInt8) (k : Nat) : Prop where
  le : k ≤ l.length
  zero : ∀ h : 0 < l.length, 0 < k → l[0] = 48
  point : ∀ h : 1 < l.length, 1 < k → l[1] = 46
  digs : ∀ i (h : i < l.length), 2 ≤ i → i < k → isOf 4 l[i].toNat = true

theorem OkTo.more0 {l : List UInt8} (hl : 0 < l.length) (e : l[0] = 48) : OkTo l 1 := ⟨hl, fun _ _ => e, fun _ h => absurd h (by omega), fun i _ _ h => absurd h (by omega)⟩
theorem OkTo.more1 {l : List UInt8} (h : OkTo l 1) (hl : 1 < l.length) (e : l[1] = 46) : OkTo l 2 := ⟨hl, fun h0 _ => h.zero h0 (by omega), fun _ _ => e, fun i _ _ h => absurd h (by omega)⟩
theorem OkTo.more2 {l : List UInt8} {k : Nat} (h : OkTo l k) (hk : 2 ≤ k) (hl : k < l.length) (e : isOf 4 l[k].toNat = true) : OkTo l (k + 1) :=
  ⟨hl, fun h0 _ => h.zero h0 (by omega), fun h1 _ => h.point h1 (by omega), fun i hi h2 hik => by
    rcases Nat.lt_or_ge i k with h' | h'
    · exact h.digs i hi h2 h'
    · obtain rfl : k = i := by omega
      exact e⟩

theorem rf_short {l : List UInt8} (h : OkTo l l.length) (h1 : l.length ≠ 1) (h3 : l.length < 3) : rfault l = (13, (l.length : Int)) := by
  match l, h, h1, h3 with
  | [], _, _, _ => rfl
  | [a], _, h1, _ => exact absurd rfl h1
  | [a, b], h, _, _ =>
    have e0 := h.zero (by simp) (by simp)
    have e1 := h.point (by simp) (by simp)
    simp only [List.getElem_cons_zero, List.getElem_cons_succ] at e0 e1
    subst e0 e1
    rfl
  | _ :: _ :: _ :: _, _, _, h3 => simp at h3; omega
theorem rf_form1 {l : List UInt8} (h : OkTo l 1) (h1 : l.length = 1) : rfault l = (11, 1) := by
  match l, h, h1 with
  | [a], h, _ =>
    have e0 := h.zero (by simp) (by simp)
    simp only [List.getElem_cons_zero] at e0
    subst e0
    rfl
theorem rf_zero {l : List UInt8} (hl : 0 < l.length) (e : l[0] ≠ 48) : rfault l = (11, 0) := by
  match l, hl, e with
  | [a], _, e => simp only [List.getElem_cons_zero] at e; rw [rf_eq1, if_neg e]
  | a :: b :: d, _, e => simp only [List.getElem_cons_zero] at e; rw [rf_eq2, if_pos e]
theorem rf_point {l : List UInt8} (h : OkTo l 1) (hl : 1 < l.length) (e : l[1] ≠ 46) : rfault l = (11, 1) := by
  match l, h, hl, e with
  | a :: b :: d, h, _, e =>
    have e0 := h.zero (by simp) (by simp)
    simp only [List.getElem_cons_zero, List.getElem_cons_succ] at e0 e
    rw [rf_eq2, if_neg (by simp [e0]), if_pos e]
theorem rf_char {l : List UInt8} {k : Nat} (h : OkTo l k) (hk : 2 ≤ k) (hl : k < l.length) (e : isOf 4 l[k].toNat = false) : rfault l = (14, (k : Int)) := by
  match l, h, hl, e with
  | [], _, hl, _ => simp at hl
  | [a], _, hl, _ => simp at hl; omega
  | a :: b :: d, h, hl, e =>
    have e0 := h.zero (by simp) (by omega)
    have e1 := h.point (by simp) (by omega)
    simp only [List.getElem_cons_zero, List.getElem_cons_succ] at e0 e1
    obtain ⟨j, rfl⟩ : ∃ j, k = j + 2 := ⟨k - 2, by omega⟩
    simp only [List.getElem_cons_succ] at e
    simp only [List.length_cons] at hl
    have hb : bad 4 d = (j : Int) := bad_at (by omega) (fun i hi hij => by
      have := h.digs (i + 2) (by simp; omega) (by omega) (by omega)
      simpa using this) e
    subst e0 e1
    rw [rf_dots, if_neg (by rintro rfl; simp at hl; omega), hb, if_pos (by omega)]
    simp only [Prod.mk.injEq, true_and]
    omega
theorem rf_end {l : List UInt8} (h : OkTo l l.length) (h3 : 3 ≤ l.length) : rfault l = if 8 < l.length then (12, 8) else (0, 0) := by
  match l, h, h3 with
  | a :: b :: d, h, h3 =>
    have e0 := h.zero (by simp) (by omega)
    have e1 := h.point (by simp) (by omega)
    simp only [List.getElem_cons_zero, List.getElem_cons_succ] at e0 e1
    simp only [List.length_cons] at h3
    have hb : bad 4 d = -1 := bad_none (fun i hi => by
      have := h.digs (i + 2) (by simp; omega) (by omega) (by simp; omega)
      simpa using this)
    subst e0 e1
    rw [rf_dots, if_neg (by rintro rfl; simp at h3), hb, if_neg (by omega)]
    simp only [List.length_cons]
    by_cases hc : 6 < d.length
    · rw [if_pos hc, if_pos (by omega)]
    · rw [if_neg hc, if_neg (by omega)]

theorem begin_str : Str ⟨#[48, 46]⟩ [48, 46] := rfl

set_option maxRecDepth 100000 in
set_option maxHeartbeats 4000000 in
theorem rfault_calls (s : ByteArray) (l : List UInt8) (h : Str s l) (hz : (s.size : Int) ≤ 9000) (w : World) : Calls Tryz.prog 114 #[.string s] w (Faults w (rfault l)) := by
  have hn : s.size = l.length := h.size
  have HS := Lib.hid h
  clear h
  obtain ⟨r, hr⟩ : ∃ r, r = rfault l := ⟨_, rfl⟩
  rw [← hr]
  have HR := Lib.hid hr
  clear hr
  have b0 := Box.new w 42 [.int .i64 0, .int .i64 0]
  have HB := Lib.hid (And.intro b0 ((Below.refl w.heap.size w).alloc (Nat.le_refl _) (.cells #[.int .i64 0, .int .i64 0] 42)))
  clear b0
  have HN := Lib.hid hn
  clear hn
  go_enter Tryz.func114, Tryz.ntmps114
  go_wp2_with fail
  go_step3
  go_wp2_with fail
  go_step3
  go_wp2_with fail
  go_loopw [3, 4] (fun v3 v4 wr => ∃ k : Nat, v3 = .int .i64 0 ∧ v4 = .int .i64 k ∧ k ≤ l.length ∧ Hid (Box wr w.heap.size 42 [.int .i64 0, .int .i64 0] ∧ Below w.heap.size w wr) ∧ Hid (OkTo l k)) (fun _ v4 _ => l.length + 3 - (intOf v4).toNat)
  case atStart => exact ⟨0, rfl, rfl, by omega, HB, ⟨by omega, fun _ h => absurd h (by omega), fun _ h => absurd h (by omega), fun i _ _ h => absurd h (by omega)⟩⟩
  case round =>
    obtain ⟨k, rfl, rfl, hkl, hbx, hok⟩ := hrel
    clear HB
    have c0 : wr.cell? ⟨w.heap.size, 0, none⟩ = some (.int .i64 0) := hbx.out.1.cell 0
    have c1 : wr.cell? ⟨w.heap.size, 1, none⟩ = some (.int .i64 0) := hbx.out.1.cell 1
    have f0 := hbx.out.1.frozen 0
    have f1 := hbx.out.1.frozen 1
    have HF := Lib.hid (fun x y => laidF_is hbx.out.1 hbx.out.2 x y)
    by_cases hend : k = l.length
    · have hsk : (s.size : Int) = (k : Int) := by have := HN.out; omega
      have HK := Lib.hid hend
      clear hend
      by_cases hk1 : k = 1
      · have HX := Lib.hid (show r = (11, 1) by rw [HR.out]; subst hk1; exact rf_form1 hok.out (by have := HK.out; omega))
        subst hk1
        have hmx : max (s.size : Int) 3 = 3 := by omega
        go_wp2_with fail
        try rw [Exit.noGoto_ret]
        exact ret_fault rfl rfl rfl (HF.out _ _).1 (faults_of HX.out (HF.out _ _).2)
      · have hk1' : ((k : Int) == 1) = false := by simp; omega
        by_cases hk3 : k < 3
        · have HX := Lib.hid (show r = (13, (k : Int)) by rw [HR.out, HK.out]; exact rf_short (by rw [← HK.out]; exact hok.out) (by rw [← HK.out]; exact hk1) (by rw [← HK.out]; exact hk3))
          have hmx : max (s.size : Int) 3 = 3 := by omega
          have hk3' : (k : Int) < 3 := by omega
          clear hk1
          go_wp2_with fail
          try rw [Exit.noGoto_ret]
          exact ret_fault rfl rfl rfl (HF.out _ _).1 (faults_of HX.out (HF.out _ _).2)
        · have hx : r = if 8 < k then (12, 8) else (0, 0) := by
            rw [HR.out, rf_end (by rw [← HK.out]; exact hok.out) (by rw [← HK.out]; omega), ← HK.out]
          have hmx : max (s.size : Int) 3 = (k : Int) := by omega
          clear hk1
          by_cases h8 : 8 < k
          · have HX := Lib.hid (show r = (12, 8) by rw [hx, if_pos h8])
            have h8' : 8 < (k : Int) := by omega
            clear hx
            go_wp2_with fail
            try rw [Exit.noGoto_ret]
            exact ret_fault rfl rfl rfl (HF.out _ _).1 (faults_of HX.out (HF.out _ _).2)
          · have HX := Lib.hid (show r = (0, 0) by rw [hx, if_neg h8])
            have h8' : ¬ 8 < (k : Int) := by omega
            clear hx
            go_wp2_with fail
            try rw [Exit.noGoto_ret]
            exact ret_fault rfl rfl rfl (HF.out _ _).1 (faults_of HX.out (HF.out _ _).2)
    · have hlt : k < l.length := by omega
      have hsk : ((k : Int) == (s.size : Int)) = false := by have := HN.out; simp; omega
      have hlt' : (k : Int) < (s.size : Int) := by have := HN.out; omega
      obtain ⟨mx, hmx⟩ : ∃ mx : Int, (if (s.size : Int) < 3 then (3 : Int) else (s.size : Int)) = mx := ⟨_, rfl⟩
      have hkm : (k : Int) < mx := by rw [← hmx]; split <;> omega
      have HL := Lib.hid hlt
      have hb256 := l[k].toNat_lt
      have key : ∀ x : UInt8, (l[k].toNat : Int) = (x.toNat : Int) ↔ l[k] = x := fun x => ⟨fun h => UInt8.toNat_inj.1 (by omega), fun h => by rw [h]⟩
      have HKEY := Lib.hid key
      obtain ⟨z, hzz⟩ : ∃ z : Int, z = (l[k].toNat : Int) := ⟨_, rfl⟩
      have hisc := fun W => is_calls 4 z W
      have hidx : ∀ W, (Instr.index 9 (.string s) (.int .i64 (k : Int))).run Tryz.prog W = .ok (.int .u8 z) W := fun W => by rw [hzz]; exact HS.out.index (i := (k : Int)) k rfl hlt W
      have HZ := Lib.hid hzz
      have HIS := Lib.hid hisc
      clear hend key hzz hisc hb256 hlt
      rcases (by omega : k = 0 ∨ k = 1 ∨ 2 ≤ k) with hk | hk | hk
      · have hbg := begin_str.index (i := (k : Int)) k rfl (by rw [hk]; decide)
        have hbz : ((([48, 46] : List UInt8)[k]'(by rw [hk]; decide)).toNat : Int) = 48 := by subst hk; rfl
        rw [hbz] at hbg
        have hk2 : (k : Int) < 2 := by omega
        have hk2' : ¬ 2 ≤ (k : Int) := by omega
        by_cases h48 : z = 48
        · have HO := Lib.hid (show OkTo l (k + 1) by
            have h2 := HL.out
            have e := (HKEY.out 48).1 (by rw [← HZ.out]; exact h48)
            subst hk
            exact OkTo.more0 h2 e)
          have h48' : (z == 48) = true := by simp [h48]
          have hz48 : (z != 48) = false := by simp [h48]
          clear h48 hbz hk
          go_wp2_with fail
          go_quiet (fail)
          go_wp2_with fail
          exact ⟨⟨k + 1, rfl, by go_num, by have := HL.out; omega, ⟨hbx.out.1.same (Same.drewN _ _), hbx.out.2.trans (Same.below (Same.drewN _ _))⟩, HO⟩, by have := HL.out; simp [intOf]; omega⟩
        · have HX := Lib.hid (show r = (11, (k : Int)) by
            rw [HR.out]
            have h2 := HL.out
            have e : l[k] ≠ 48 := fun e => h48 (by rw [HZ.out]; exact (HKEY.out 48).2 e)
            subst hk
            exact rf_zero h2 e)
          have h48' : (z == 48) = false := by simp [h48]
          have hz48 : (z != 48) = true := by simp [h48]
          clear h48 hbz hk c0 c1 f0 f1
          go_wp2_with fail
          go_quiet (fail)
          have b2 := hbx.out.1.same (Same.drewN wr nq)
          have k2 := hbx.out.2.trans (Same.below (Same.drewN wr nq))
          generalize wr.drewN nq = w2 at b2 k2 ⊢
          have c0 : w2.cell? ⟨w.heap.size, 0, none⟩ = some (.int .i64 0) := b2.cell 0
          have c1 : w2.cell? ⟨w.heap.size, 1, none⟩ = some (.int .i64 0) := b2.cell 1
          have f0 := b2.frozen 0
          have f1 := b2.frozen 1
          have HF2 := Lib.hid (fun x y => laidF_is b2 k2 x y)
          clear b2 k2
          go_wp2_with fail
          try rw [Exit.noGoto_ret]
          exact ret_fault rfl rfl rfl (HF2.out _ _).1 (faults_of HX.out (HF2.out _ _).2)
      · have hbg := begin_str.index (i := (k : Int)) k rfl (by rw [hk]; decide)
        have hbz : ((([48, 46] : List UInt8)[k]'(by rw [hk]; decide)).toNat : Int) = 46 := by subst hk; rfl
        rw [hbz] at hbg
        have hk2 : (k : Int) < 2 := by omega
        have hk2' : ¬ 2 ≤ (k : Int) := by omega
        by_cases h48 : z = 46
        · have HO := Lib.hid (show OkTo l (k + 1) by
            have h2 := HL.out
            have e := (HKEY.out 46).1 (by rw [← HZ.out]; exact h48)
            have h3 := hok.out
            subst hk
            exact h3.more1 h2 e)
          have h48' : (z == 46) = true := by simp [h48]
          have hz48 : (z != 46) = false := by simp [h48]
          clear h48 hbz hk
          go_wp2_with fail
          go_quiet (fail)
          go_wp2_with fail
          exact ⟨⟨k + 1, rfl, by go_num, by have := HL.out; omega, ⟨hbx.out.1.same (Same.drewN _ _), hbx.out.2.trans (Same.below (Same.drewN _ _))⟩, HO⟩, by have := HL.out; simp [intOf]; omega⟩
        · have HX := Lib.hid (show r = (11, (k : Int)) by
            rw [HR.out]
            have h2 := HL.out
            have e : l[k] ≠ 46 := fun e => h48 (by rw [HZ.out]; exact (HKEY.out 46).2 e)
            have h3 := hok.out
            subst hk
            exact rf_point h3 h2 e)
          have h48' : (z == 46) = false := by simp [h48]
          have hz48 : (z != 46) = true := by simp [h48]
          clear h48 hbz hk c0 c1 f0 f1
          go_wp2_with fail
          go_quiet (fail)
          have b2 := hbx.out.1.same (Same.drewN wr nq)
          have k2 := hbx.out.2.trans (Same.below (Same.drewN wr nq))
          generalize wr.drewN nq = w2 at b2 k2 ⊢
          have c0 : w2.cell? ⟨w.heap.size, 0, none⟩ = some (.int .i64 0) := b2.cell 0
          have c1 : w2.cell? ⟨w.heap.size, 1, none⟩ = some (.int .i64 0) := b2.cell 1
          have f0 := b2.frozen 0
          have f1 := b2.frozen 1
          have HF2 := Lib.hid (fun x y => laidF_is b2 k2 x y)
          clear b2 k2
          go_wp2_with fail
          try rw [Exit.noGoto_ret]
          exact ret_fault rfl rfl rfl (HF2.out _ _).1 (faults_of HX.out (HF2.out _ _).2)
      · have hk2 : decide ((k : Int) < 2) = false := by rw [decide_eq_false_iff_not]; omega
        have hk2' : 2 ≤ (k : Int) := by omega
        obtain ⟨o, ho⟩ : ∃ o, o = isOf 4 z := ⟨_, rfl⟩
        rw [← ho] at HIS
        have HO := Lib.hid (And.intro ho hk)
        clear ho hk c0 c1 f0 f1 HF
        go_wp2_with fail
        go_quiet (fail)
        have b2 := hbx.out.1.same (Same.drewN wr nq)
        have k2 := hbx.out.2.trans (Same.below (Same.drewN wr nq))
        generalize wr.drewN nq = w2 at b2 k2 ⊢
        have HB2 := Lib.hid (And.intro b2 k2)
        clear b2 k2
        go_wp2_with fail
        refine (HIS.out _).mono ?_
        rintro e w3 ⟨rfl, hb⟩
        have b3 := HB2.out.1.keep hb
        have k3 := below_then HB2.out.2 hb
        have c0 : w3.cell? ⟨w.heap.size, 0, none⟩ = some (.int .i64 0) := b3.cell 0
        have c1 : w3.cell? ⟨w.heap.size, 1, none⟩ = some (.int .i64 0) := b3.cell 1
        have f0 := b3.frozen 0
        have f1 := b3.frozen 1
        have HF2 := Lib.hid (And.intro (And.intro b3 k3) (fun x y => laidF_is b3 k3 x y))
        clear b3 k3 hb HB2 HIS
        cases o
        · have HX := Lib.hid (show r = (14, (k : Int)) by
            rw [HR.out]
            exact rf_char hok.out HO.out.2 HL.out (by have := HO.out.1; rw [HZ.out] at this; exact this.symm))
          go_wp2_with fail
          try rw [Exit.noGoto_ret]
          exact ret_fault rfl rfl rfl (HF2.out.2 _ _).1 (faults_of HX.out (HF2.out.2 _ _).2)
        · have HX := Lib.hid (hok.out.more2 HO.out.2 HL.out (by have := HO.out.1; rw [HZ.out] at this; exact this.symm))
          go_wp2_with fail
          exact ⟨⟨k + 1, rfl, by go_num, by have := HL.out; omega, ⟨HF2.out.1.1, HF2.out.1.2⟩, HX⟩, by have := HL.out; simp [intOf]; omega⟩
end Go.Proofs.YtbcmchkgamkceaaGreatDoor

/-
  Layer 5: the document's Value and Parse. No statement of the seat is proved here.
-/
namespace Go.Proofs.YtbcmchkgamkceaaGreatDoor
open Go.RowKit

def valued (v : Nat) : Int × Bool := if v ≤ MaxI then ((v : Int), true) else (0, false)

theorem valF_ge (v : Nat) (l : List UInt8) : v ≤ valF v l := by
  rw [valF_eq]
  have : v * 1 ≤ v * 10 ^ l.length := Nat.mul_le_mul_left _ (Nat.pos_of_ne_zero (by simp))
  omega
theorem val_take_le (l : List UInt8) (k : Nat) : val (l.take k) ≤ val l := by
  have h : val l = valF (val (l.take k)) (l.drop k) := by unfold val; rw [← valF_append, List.take_append_drop]
  rw [h]; exact valF_ge _ _

set_option maxRecDepth 100000 in
set_option maxHeartbeats 2000000 in
theorem value_calls (s : ByteArray) (l : List UInt8) (h : Str s l) (hd : Digs l) (hz : (s.size : Int) ≤ 9000) (w : World) :
    Calls Tryz.prog 123 #[.string s] w fun e w' => e = .returned (.tuple #[.int .i64 (valued (val l)).1, .bool (valued (val l)).2]) ∧ w' = w := by
  have hn : s.size = l.length := h.size
  have HS := Lib.hid (And.intro h hd)
  clear h hd
  obtain ⟨r, hr⟩ : ∃ r, r = valued (val l) := ⟨_, rfl⟩
  rw [← hr]
  have HR := Lib.hid hr
  clear hr
  go_enter Tryz.func123, Tryz.ntmps123
  go_wp2_with fail
  go_loopw [4, 5] (fun v4 v5 wr => ∃ k n : Nat, v4 = .int .i64 n ∧ v5 = .int .i64 k ∧ k ≤ l.length ∧ w = wr ∧ Hid (n = val (l.take k) ∧ n ≤ MaxI)) (fun _ v5 _ => l.length - (intOf v5).toNat)
  case atStart => exact ⟨0, 0, rfl, rfl, by omega, rfl, ⟨rfl, by decide⟩⟩
  case round =>
    obtain ⟨k, n, rfl, rfl, hkl, rfl, hrel⟩ := hrel
    by_cases hlt : k < l.length
    · have hidx := HS.out.1.index (i := (k : Int)) k rfl hlt
      have hlt' : (k : Int) < (s.size : Int) := by omega
      have hb : Dig l[k] := HS.out.2 _ (List.getElem_mem hlt)
      unfold Dig at hb
      have e : val (l.take (k + 1)) = 10 * val (l.take k) + (l[k].toNat - 48) := by rw [List.take_succ_eq_append_getElem hlt, val_snoc]
      obtain ⟨z, hzb⟩ : ∃ z : Int, z = (l[k].toNat : Int) := ⟨_, rfl⟩
      rw [← hzb] at hidx
      obtain ⟨x, hx⟩ : ∃ x : Int, x = (n : Int) := ⟨_, rfl⟩
      rw [← hx]
      have hz0 : 48 ≤ z ∧ z ≤ 57 := by omega
      obtain ⟨y, hy⟩ : ∃ y : Int, y = z - 48 := ⟨_, rfl⟩
      have hsub : IntKind.u8.wrap (z - 48) = y := by rw [IntKind.wrap_u8']; omega
      have hy0 : 0 ≤ y ∧ y ≤ 9 := by omega
      obtain ⟨q, hq⟩ : ∃ q : Int, q = (9223372036854775807 - y) / 10 := ⟨_, rfl⟩
      have hw1 : IntKind.i64.wrap (9223372036854775807 - y) = 9223372036854775807 - y := by rw [IntKind.wrap_i64]; omega
      have hw2 : IntKind.i64.wrap ((9223372036854775807 - y).tdiv 10) = q := by rw [Int.tdiv_eq_ediv_of_nonneg (by omega), IntKind.wrap_i64]; omega
      have hsm := hrel.out.2
      have hxx : 0 ≤ x ∧ x ≤ 9223372036854775807 := by unfold MaxI at hsm; omega
      by_cases hle : q < x
      · have HX := Lib.hid (show r = (0, false) by
          rw [HR.out]
          unfold valued
          have := val_take_le l (k + 1)
          rw [e, ← hrel.out.1] at this
          rw [if_neg (by unfold MaxI; omega)])
        clear hz0 hzb hx hq hb e hy hsm
        go_wp2_with fail
        go_ret2
        exact ⟨by rw [HX.out]; rfl, rfl⟩
      · have HX := Lib.hid (show ((10 * n + (l[k].toNat - 48) : Nat) : Int) = 10 * x + y ∧ 10 * n + (l[k].toNat - 48) = val (l.take (k + 1)) ∧ 10 * n + (l[k].toNat - 48) ≤ MaxI by
          refine ⟨by omega, by rw [e, ← hrel.out.1], by unfold MaxI; omega⟩)
        have h10 : 0 ≤ 10 * x ∧ 10 * x + y ≤ 9223372036854775807 := by omega
        have HL := Lib.hid hlt
        clear hz0 hzb hx hq hb e hy hsm
        go_wp2_with fail
        refine ⟨⟨k + 1, 10 * n + (l[k].toNat - 48), ?_, by go_num, HL.out, trivial, HX.out.2⟩, by have := HL.out; simp [intOf]; omega⟩
        exact congrArg (Value.int .i64) HX.out.1.symm
    · have hlt' : ¬ (k : Int) < (s.size : Int) := by omega
      have hke : l.take k = l := List.take_of_length_le (by omega)
      have HX := Lib.hid (show r = ((n : Int), true) by
        rw [HR.out]
        have := hrel.out
        rw [hke] at this
        unfold valued
        rw [← this.1, if_pos this.2])
      clear hke
      go_wp2_with fail
      go_ret2
      exact ⟨by rw [HX.out]; rfl, rfl⟩

theorem nstr_empty {s : ByteArray} {l : List UInt8} (h : Str s l) : (s.toList = []) ↔ l = [] := by rw [h.toList]

set_option maxRecDepth 100000 in
set_option maxHeartbeats 4000000 in
theorem rparse_calls (s : ByteArray) (l : List UInt8) (h : Str s l) (hz : (s.size : Int) ≤ 9000) (lo hi : Int) (w : World) : Calls Tryz.prog 124 #[.string s, .int .i64 lo, .int .i64 hi] w (Told3 w (parsed l lo hi)) := by
  have hn : s.size = l.length := h.size
  have HK := Lib.hid h
  have HBD := Lib.hid (rbad_calls 4 (by decide) s l h (by omega))
  obtain ⟨r, hr⟩ : ∃ r, r = parsed l lo hi := ⟨_, rfl⟩
  rw [← hr]
  have b0 := Box.new w 42 [.int .i64 0, .int .i64 0]
  have HNEW := Lib.hid (fun x y : Value => And.intro (Box.new w 42 [x, y]) ((Below.refl w.heap.size w).alloc (Nat.le_refl _) (.cells #[x, y] 42)))
  unfold parsed at hr
  rcases l with _ | ⟨b, t⟩
  · have hs0 : s = ⟨#[]⟩ := h.eq
    subst hs0
    have HR := Lib.hid (show r = (0, 13, 0) by rw [hr]; rfl)
    clear hr h b0 hn HBD HK
    go_enter Tryz.func124, Tryz.ntmps124
    go_wp2_with fail
    refine ret_nf rfl rfl rfl rfl (HNEW.out _ _).1 ?_
    exact told3_of HR.out (HNEW.out _ _).2
  · have hse : s.toList = b :: t := h.toList
    have hs0 : (s.toList == []) = false := by rw [hse]; rfl
    rw [if_neg (by simp)] at hr
    obtain ⟨m, hm⟩ : ∃ m, m = bad 4 (b :: t) := ⟨_, rfl⟩
    rw [← hm] at HBD hr
    have HM := Lib.hid hm
    clear hm h
    have hidx := HK.out.index (i := 0) 0 rfl (by simp)
    simp only [List.getElem_cons_zero] at hidx
    have hbb := b.toNat_lt
    have hlen : (s.size : Int) = (t.length : Int) + 1 := by rw [hn]; simp
    simp only [List.head?_cons, Option.some.injEq, List.length_cons] at hr
    obtain ⟨z, hzz⟩ : ∃ z : Int, z = (b.toNat : Int) := ⟨_, rfl⟩
    rw [← hzz] at hidx
    have hz48 : z = 48 ↔ b = 48 := by
      constructor
      · intro h; exact UInt8.toNat_inj.1 (by show b.toNat = 48; omega)
      · rintro rfl; exact hzz
    have HZ := Lib.hid (And.intro hz48 hlen)
    have HR := Lib.hid hr
    clear hr hz48 hzz hbb hn hlen hse
    go_enter Tryz.func124, Tryz.ntmps124
    go_wp2_with fail
    refine (HBD.out _).mono ?_
    rintro e w1 ⟨rfl, hb⟩
    have b1 := b0.keep hb
    have kk := below_then ((Below.refl w.heap.size w).alloc (Nat.le_refl _) (.cells #[.int .i64 0, .int .i64 0] 42)) (hb.mono (by simp))
    have c0 : w1.cell? ⟨w.heap.size, 0, none⟩ = some (.int .i64 0) := b1.cell 0
    have c1 : w1.cell? ⟨w.heap.size, 1, none⟩ = some (.int .i64 0) := b1.cell 1
    have f0 := b1.frozen 0
    have f1 := b1.frozen 1
    have HF := Lib.hid (And.intro (And.intro b1 kk) (fun x y => laidF_is b1 kk x y))
    clear b1 kk hb HBD b0 HNEW
    by_cases hm0 : 0 ≤ m
    · have HR2 := Lib.hid (show r = (0, 14, m) by rw [HR.out, if_pos hm0])
      clear HR
      go_wp2_with fail
      refine ret_nf rfl rfl rfl rfl (HF.out.2 _ _).1 ?_
      exact told3_of HR2.out (HF.out.2 _ _).2
    · have hd : Digs (b :: t) := digs_of_bad (by rw [← HM.out]; exact hm0)
      have HG := Lib.hid (fun W => value_calls s (b :: t) HK.out hd hz W)
      obtain ⟨v, hv⟩ : ∃ v, v = val (b :: t) := ⟨_, rfl⟩
      rw [← hv] at HG
      have HR2 := Lib.hid (show r = if b = 48 ∧ 1 < t.length + 1 then (0, 11, 0) else if MaxI < v ∨ (v : Int) < lo ∨ hi < (v : Int) then (0, 10, 0) else ((v : Int), 0, 0) by rw [HR.out, if_neg hm0, hv])
      clear HR hd hv
      by_cases h48 : z = 48 ∧ 1 < (s.size : Int)
      · obtain ⟨e1, e2⟩ := h48
        have HR3 := Lib.hid (show r = (0, 11, 0) by rw [HR2.out, if_pos ⟨HZ.out.1.1 e1, by have := HZ.out.2; omega⟩])
        subst e1
        clear HR2
        go_wp2_with fail
        refine ret_nf rfl rfl rfl rfl (HF.out.2 _ _).1 ?_
        exact told3_of HR3.out (HF.out.2 _ _).2
      · have HR3 := Lib.hid (show r = if MaxI < v ∨ (v : Int) < lo ∨ hi < (v : Int) then (0, 10, 0) else ((v : Int), 0, 0) by rw [HR2.out, if_neg]; rintro ⟨e1, e2⟩; exact h48 ⟨HZ.out.1.2 e1, by have := HZ.out.2; omega⟩)
        have hand : (z == 48) = false ∨ ((z == 48) = true ∧ ¬ 1 < (s.size : Int)) := by
          by_cases e : z = 48
          · right; exact ⟨by simp [e], fun h => h48 ⟨e, h⟩⟩
          · left; simp [e]
        obtain ⟨u, q, huq⟩ : ∃ u q, valued v = (u, q) := ⟨_, _, rfl⟩
        rw [huq] at HG
        have hcs : (q = false ∧ r = (0, 10, 0)) ∨ (q = true ∧ u < lo ∧ r = (0, 10, 0)) ∨ (q = true ∧ ¬ u < lo ∧ hi < u ∧ r = (0, 10, 0)) ∨ (q = true ∧ ¬ u < lo ∧ ¬ hi < u ∧ r = (u, 0, 0)) := by
          unfold valued at huq
          split at huq
          · rename_i hle
            injection huq with h1 h2
            subst h1 h2
            by_cases k1 : (v : Int) < lo
            · exact .inr (.inl ⟨rfl, k1, by rw [HR3.out, if_pos (.inr (.inl k1))]⟩)
            · by_cases k2 : hi < (v : Int)
              · exact .inr (.inr (.inl ⟨rfl, k1, k2, by rw [HR3.out, if_pos (.inr (.inr k2))]⟩))
              · exact .inr (.inr (.inr ⟨rfl, k1, k2, by rw [HR3.out, if_neg (by omega)]⟩))
          · rename_i hle
            injection huq with h1 h2
            subst h1 h2
            exact .inl ⟨rfl, by rw [HR3.out, if_pos (.inl (by omega))]⟩
        clear HR2 HR3 h48 huq
        rcases hcs with ⟨rfl, hr⟩ | ⟨rfl, k1, hr⟩ | ⟨rfl, k1, k2, hr⟩ | ⟨rfl, k1, k2, hr⟩
        all_goals
          have HR := Lib.hid hr
          clear hr
          rcases hand with e1 | ⟨e1, e2⟩
          all_goals
            go_wp2_with fail
            refine (HG.out _).mono ?_
            rintro e w2 ⟨rfl, rfl⟩
            clear HG
            go_wp2_with fail
            refine ret_nf rfl rfl rfl rfl (HF.out.2 _ _).1 ?_
            exact told3_of HR.out (HF.out.2 _ _).2
end Go.Proofs.YtbcmchkgamkceaaGreatDoor
