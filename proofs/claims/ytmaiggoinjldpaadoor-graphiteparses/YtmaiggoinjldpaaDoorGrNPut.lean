/-
  NPut, NTogether, NParse, NRateFault. No statement of the seat is proved here.
-/
import Derived.Test.YtmaiggoinjldpaaDoorGrDigs
import Derived.Test.YtmaiggoinjldpaaDoorGrKIs
import Derived.WalkMore
/-
  Package num: the closure that puts a digit to a number. No statement of the seat is proved here.
-/
namespace Go.Proofs.YtmaiggoinjldpaaDoor
open Go.RowKit

def MaxI : Nat := 9223372036854775807
/-- What is known of a number whose digits make v. -/
structure Tog (v n : Nat) (fits : Bool) : Prop where
  small : n ≤ MaxI
  plain : fits = true → n = v
  great : fits = false → MaxI < v

/-- What the closure leaves. -/
structure PutSo (B gn gf v : Nat) (w w' : World) : Prop where
  kept : Below B w w'
  has : ∃ (n : Nat) (fits : Bool), Box w' gn 3 [.int .i64 n] ∧ Box w' gf 4 [.bool fits] ∧ Tog v n fits

set_option maxRecDepth 100000 in
set_option maxHeartbeats 2000000 in
theorem put_calls (w : World) (B gn gf v n d : Nat) (fits : Bool) (hd : d ≤ 9) (hn : Box w gn 3 [.int .i64 n]) (hf : Box w gf 4 [.bool fits]) (ht : Tog v n fits) (h1 : B ≤ gn) (h2 : B ≤ gf) (h3 : gn ≠ gf) :
    Calls Tryd.prog 83 #[.int .i64 d, .pointer (some ⟨gf, 0, none⟩), .pointer (some ⟨gn, 0, none⟩)] w fun e w' => e = .returned (.tuple #[]) ∧ PutSo B gn gf (10 * v + d) w w' := by
  have cn : w.cell? ⟨gn, 0, none⟩ = some (.int .i64 n) := hn.cell 0
  have cf : w.cell? ⟨gf, 0, none⟩ = some (.bool fits) := hf.cell 0
  have fn := hn.frozen 0
  have ff := hf.frozen 0
  have h3' : gf ≠ gn := fun h => h3 h.symm
  have hsm := ht.small
  obtain ⟨x, hx⟩ : ∃ x : Int, x = (n : Int) := ⟨_, rfl⟩
  obtain ⟨y, hy⟩ : ∃ y : Int, y = (d : Int) := ⟨_, rfl⟩
  have hx0 : 0 ≤ x := by omega
  have hxm : x ≤ 9223372036854775807 := by unfold MaxI at hsm; omega
  have hy0 : 0 ≤ y := by omega
  have hy9 : y ≤ 9 := by omega
  rw [← hx] at cn
  rw [← hy]
  rcases fits with _ | _
  · have HH := Lib.hid (And.intro (And.intro hn hf) (And.intro ht hx))
    clear hn hf ht hx hy hsm
    go_enter Tryd.func83, Tryd.ntmps83
    go_wp2_with fail
    refine bodyPost_end (v := .tuple #[]) (by simp [results, Tryd.results83, go_sem]) rfl ⟨rfl, ?_⟩
    refine ⟨below_set (Below.refl _ _) h2 _ _, n, false, HH.out.1.1.far (q := ⟨gf, 0, none⟩) h3 _, HH.out.1.2.set 0 _, ?_⟩
    have := HH.out.2.1
    exact ⟨this.small, fun h => (by cases h), fun _ => by have := this.great rfl; omega⟩
  · obtain ⟨q, hq⟩ : ∃ q : Int, q = (9223372036854775807 - y) / 10 := ⟨_, rfl⟩
    have hw1 : IntKind.i64.wrap (9223372036854775807 - y) = 9223372036854775807 - y := by rw [IntKind.wrap_i64]; omega
    have hw2 : IntKind.i64.wrap ((9223372036854775807 - y).tdiv 10) = q := by rw [Int.tdiv_eq_ediv_of_nonneg (by omega), IntKind.wrap_i64]; omega
    have HH := Lib.hid (And.intro (And.intro hn hf) (And.intro ht (And.intro hx hy)))
    by_cases hle : x ≤ q
    · have hz1 : 0 ≤ 10 * x := by omega
      have hz2 : 10 * x + y ≤ 9223372036854775807 := by omega
      have HE := Lib.hid (show 10 * v + d ≤ MaxI ∧ (10 * x + y = ((10 * v + d : Nat) : Int)) from by
        have := ht.plain rfl
        unfold MaxI
        constructor <;> omega)
      clear hn hf ht hx hy hsm hq
      go_enter Tryd.func83, Tryd.ntmps83
      go_wp2_with fail
      refine bodyPost_end (v := .tuple #[]) (by simp [results, Tryd.results83, go_sem]) rfl ⟨rfl, ?_⟩
      refine ⟨below_set (below_set (Below.refl _ _) h2 _ _) h1 _ _, 10 * v + d, true, ?_, ?_, ⟨HE.out.1, fun _ => rfl, fun h => (by cases h)⟩⟩
      · rw [← HE.out.2]
        exact (HH.out.1.1.far (q := ⟨gf, 0, none⟩) h3 _).set 0 _
      · exact (HH.out.1.2.set 0 _).far (q := ⟨gn, 0, none⟩) h3' _
    · have HE := Lib.hid (show MaxI < 10 * v + d from by
        have := ht.plain rfl
        unfold MaxI
        omega)
      clear hn hf ht hx hy hsm hq
      go_enter Tryd.func83, Tryd.ntmps83
      go_wp2_with fail
      refine bodyPost_end (v := .tuple #[]) (by simp [results, Tryd.results83, go_sem]) rfl ⟨rfl, ?_⟩
      refine ⟨below_set (Below.refl _ _) h2 _ _, n, false, HH.out.1.1.far (q := ⟨gf, 0, none⟩) h3 _, HH.out.1.2.set 0 _, ?_⟩
      exact ⟨HH.out.2.1.small, fun h => (by cases h), fun _ => HE.out⟩
end Go.Proofs.YtmaiggoinjldpaaDoor

/-
  Package num: the number that digits are. No statement of the seat is proved here.
-/
namespace Go.Proofs.YtmaiggoinjldpaaDoor
open Go.RowKit

/-- What holds while the digits are put together. -/
structure TogAt (w : World) (l : List UInt8) (k : Nat) (wr : World) : Prop where
  at_ : k ≤ l.length
  so : PutSo w.heap.size w.heap.size (w.heap.size + 1) (val (l.take k)) w wr

theorem TogAt.step {w wr w' : World} {l : List UInt8} {k : Nat} (h : TogAt w l k wr) (hk : k < l.length) (hp : PutSo w.heap.size w.heap.size (w.heap.size + 1) (10 * val (l.take k) + (l[k].toNat - 48)) wr w') : TogAt w l (k + 1) w' := by
  refine ⟨hk, h.so.kept.trans hp.kept, ?_⟩
  have e : val (l.take (k + 1)) = 10 * val (l.take k) + (l[k].toNat - 48) := by rw [List.take_succ_eq_append_getElem hk, val_snoc]
  rw [e]
  exact hp.has

set_option maxRecDepth 100000 in
set_option maxHeartbeats 2000000 in
theorem together_calls (s : ByteArray) (l : List UInt8) (h : Str s l) (hd : Digs l) (hz : (s.size : Int) ≤ 9000) (w : World) :
    Calls Tryd.prog 62 #[.string s] w fun e w' => (∃ (n : Nat) (fits : Bool), e = .returned (.tuple #[.int .i64 n, .bool fits]) ∧ Tog (val l) n fits) ∧ Below w.heap.size w w' := by
  have hmf : ∀ (fn : Fn) (first cap : Array Value) (w : World), (Instr.makeFunc fn first cap).run Tryd.prog w = .ok (.func fn first cap) w := fun _ _ _ _ => rfl
  have hn : s.size = l.length := h.size
  have HS := Lib.hid (And.intro h hd)
  clear h hd
  have b1 := (Box.new w 3 [.int .i64 0]).alloc (.cells #[.bool true] 4)
  have b2 := Box.new (w.alloc (.cells #[.int .i64 0] 3)) 4 [.bool true]
  rw [size_alloc] at b2
  have hk2 := ((Below.refl w.heap.size w).alloc (Nat.le_refl _) (.cells #[.int .i64 0] 3)).alloc (by rw [size_alloc]; omega) (.cells #[.bool true] 4)
  have HG := Lib.hid (show TogAt w l 0 ((w.alloc (.cells #[.int .i64 0] 3)).alloc (.cells #[.bool true] 4)) from ⟨by omega, hk2, 0, true, b1, b2, ⟨by decide, fun _ => rfl, fun h => (by cases h)⟩⟩)
  clear b1 b2 hk2
  go_enter Tryd.func62, Tryd.ntmps62
  go_wp2_with fail
  go_loopw [11] (fun v11 wr => ∃ k : Nat, v11 = .int .i64 k ∧ k ≤ l.length ∧ Hid (TogAt w l k wr)) (fun v11 _ => l.length - (intOf v11).toNat)
  case atStart => exact ⟨0, rfl, by omega, HG⟩
  case round =>
    obtain ⟨k, rfl, hkl, hrel⟩ := hrel
    clear HG
    by_cases hlt : k < l.length
    · have hidx := HS.out.1.index (i := (k : Int)) k rfl hlt
      have hlt' : (k : Int) < (s.size : Int) := by omega
      have hb : Dig l[k] := HS.out.2 _ (List.getElem_mem hlt)
      unfold Dig at hb
      obtain ⟨n, fits, hbn, hbf, htg⟩ := hrel.out.so.has
      have hpc := put_calls wr w.heap.size w.heap.size (w.heap.size + 1) (val (l.take k)) n (l[k].toNat - 48) fits (by omega) hbn hbf htg (Nat.le_refl _) (by omega) (by omega)
      obtain ⟨z, hzb⟩ : ∃ z : Int, z = (l[k].toNat : Int) := ⟨_, rfl⟩
      rw [← hzb] at hidx
      rw [show (((l[k].toNat - 48 : Nat)) : Int) = z - 48 by omega] at hpc
      have hz0 : 48 ≤ z ∧ z ≤ 57 := by omega
      have hsub : IntKind.u8.wrap (z - 48) = z - 48 := by rw [IntKind.wrap_u8']; omega
      have HP := Lib.hid hpc
      have HLT := Lib.hid hlt
      clear hpc hzb hb hbn hbf htg
      go_wp2_with fail
      refine HP.out.mono ?_
      rintro e w3 ⟨rfl, hso⟩
      have HX := Lib.hid (hrel.out.step HLT.out hso)
      clear hso HP
      go_wp2_with fail
      exact ⟨⟨k + 1, by go_num, HLT.out, HX⟩, by have := HLT.out; simp [intOf]; omega⟩
    · have hlt' : ¬ (k : Int) < (s.size : Int) := by omega
      have hke : l.take k = l := List.take_of_length_le (by omega)
      obtain ⟨n, fits, hbn, hbf, htg⟩ := hrel.out.so.has
      rw [hke] at htg
      have cn : wr.cell? ⟨w.heap.size, 0, none⟩ = some (.int .i64 n) := hbn.cell 0
      have cf : wr.cell? ⟨w.heap.size + 1, 0, none⟩ = some (.bool fits) := hbf.cell 0
      have HT := Lib.hid (And.intro htg hrel.out.so.kept)
      clear hbn hbf htg hke hrel
      go_wp2_with fail
      go_quiet (fail)
      go_wp2_with fail
      go_ret2
      exact ⟨⟨n, fits, rfl, HT.out.1⟩, HT.out.2.trans (Same.below (Same.drewN _ _))⟩
end Go.Proofs.YtmaiggoinjldpaaDoor

/-
  Package num: Parse, Time. No statement of the seat is proved here.
-/
namespace Go.Proofs.YtmaiggoinjldpaaDoor
open Go.RowKit

theorem results_tmp_cell {fn : Func} {p u : Tmp} {ty : TypeId} (h : fn.results = #[.tmp u, .cell p ty]) (tmps : Array Value) (w : World) :
    (results fn tmps).run Tryd.prog w = ((asAddr (tmps.getD p undef)).run Tryd.prog w).andThen fun a w1 => ((loadVar ty a).run Tryd.prog w1).andThen fun v w2 => .ok (.tuple #[tmps.getD u undef, v]) w2 := by
  simp only [results, h]
  simp [Sem.run_bind, Result.andThen]
/-- A number and a Fault are returned. -/
theorem ret_nf {fn : Func} {p u : Tmp} (hres : fn.results = #[.tmp u, .cell p 29]) {R : Ending → World → Prop} {a : Act} {w : World} {g : Nat} {x y v : Value} (hp : a.tmps.getD p undef = .pointer (some ⟨g, 0, none⟩)) (hu : a.tmps.getD u undef = v) (hd : a.defers = [])
    (hb : Box w g 29 [x, y]) (hR : R (.returned (.tuple #[v, .agg #[x, y]])) w) : bodyPost Tryd.prog fn R .ret a w := by
  refine bodyPost_ret ?_ hd hR
  rw [results_tmp_cell hres, hp, hu, addr_is]
  simp only [Result.andThen]
  rw [load_fault hb]

/-- What a number and a Fault are told as. -/
def Told3 (w : World) (r : Int × Int × Int) (e : Ending) (w' : World) : Prop := e = .returned (.tuple #[.int .i64 r.1, .agg #[.int .i64 r.2.1, .int .i64 r.2.2]]) ∧ Below w.heap.size w w'
theorem told3_of {w w' : World} {r : Int × Int × Int} {n a b : Int} (h : r = (n, a, b)) (hb : Below w.heap.size w w') : Told3 w r (.returned (.tuple #[.int .i64 n, .agg #[.int .i64 a, .int .i64 b]])) w' := by
  rw [h]; exact ⟨rfl, hb⟩

/-- Which number a text is, or how it is wrong. -/
def parsed (l : List UInt8) (lo hi : Int) : Int × Int × Int :=
  if l = [] then (0, 13, 0) else if 0 ≤ bad 4 l then (0, 14, bad 4 l) else if l.head? = some 48 ∧ 1 < l.length then (0, 11, 0)
  else if MaxI < val l ∨ (val l : Int) < lo ∨ hi < (val l : Int) then (0, 10, 0) else (val l, 0, 0)

theorem dig_is (b : UInt8) : isOf 4 (b.toNat : Int) = true ↔ Dig b := by
  unfold isOf Dig
  rw [decide_eq_true_eq]
  simp
  omega
theorem digs_of_bad {l : List UInt8} (h : ¬ 0 ≤ bad 4 l) : Digs l := by
  rcases bad_cases 4 l with ⟨k, hk, he, _⟩ | ⟨_, ha⟩
  · rw [he] at h; omega
  · intro b hb
    obtain ⟨i, hi, rfl⟩ := List.mem_iff_getElem.mp hb
    exact (dig_is _).1 (ha i hi)
theorem bad_of_digs {l : List UInt8} (h : Digs l) : bad 4 l = -1 := bad_none fun _ hi => (dig_is _).2 (h _ (List.getElem_mem hi))

theorem fault_digits {l : List UInt8} (hl : l.length ≤ 9000) : faultOf 4 l 1 9223372036854775807 = if l = [] then (13, 0) else if 0 ≤ bad 4 l then (14, bad 4 l) else (0, 0) := by
  unfold faultOf
  rw [if_neg (by decide)]
  cases l with
  | nil => rfl
  | cons b r =>
    simp only [List.length_cons] at hl ⊢
    rw [if_neg (by omega), if_neg (by omega), if_neg (by simp : ¬ b :: r = [])]

/-- The fault of a call beside the one that is to be told. -/
structure TwoF (w : World) (w2 : World) (x y : Int) : Prop where
  kept : Below w.heap.size w w2
  own : Box w2 w.heap.size 29 [.int .i64 0, .int .i64 0]
  far : w.heap.size < w2.heap.size

theorem TwoF.set {w w2 : World} {x y : Int} (h : TwoF w w2 x y) (o : Obj) (a b : Value) : Box (((w2.alloc o).setCell ⟨w.heap.size, 0, none⟩ a).setCell ⟨w.heap.size, 1, none⟩ b) w.heap.size 29 [a, b] ∧ Below w.heap.size w (((w2.alloc o).setCell ⟨w.heap.size, 0, none⟩ a).setCell ⟨w.heap.size, 1, none⟩ b) :=
  ⟨((h.own.alloc o).set 0 a).set 1 b, below_set (below_set (h.kept.alloc (Nat.le_of_lt h.far) o) (Nat.le_refl _) _ _) (Nat.le_refl _) _ _⟩

set_option maxRecDepth 100000 in
set_option maxHeartbeats 4000000 in
theorem parse_calls (s : ByteArray) (l : List UInt8) (h : Str s l) (hz : (s.size : Int) ≤ 9000) (lo hi : Int) (w : World) : Calls Tryd.prog 34 #[.string s, .int .i64 lo, .int .i64 hi] w (Told3 w (parsed l lo hi)) := by
  have hn : s.size = l.length := h.size
  have HT := Lib.hid (text_calls 4 s l h (by omega) 1 9223372036854775807)
  rw [fault_digits (by omega)] at HT
  have b0 := Box.new w 29 [.int .i64 0, .int .i64 0]
  have HK := Lib.hid h
  obtain ⟨r, hr⟩ : ∃ r, r = parsed l lo hi := ⟨_, rfl⟩
  rw [← hr]
  obtain ⟨f, hf⟩ : ∃ f : Int × Int, f = (if l = [] then (13, 0) else if 0 ≤ bad 4 l then (14, bad 4 l) else (0, 0)) := ⟨_, rfl⟩
  rw [← hf] at HT
  have hcase : (f.1 ≠ 0 ∧ r = (0, f.1, f.2)) ∨ (f = (0, 0) ∧ l ≠ [] ∧ Digs l ∧ r = if l.head? = some 48 ∧ 1 < l.length then (0, 11, 0) else if MaxI < val l ∨ (val l : Int) < lo ∨ hi < (val l : Int) then (0, 10, 0) else ((val l : Int), 0, 0)) := by
    rw [hr, hf]
    unfold parsed
    by_cases h1 : l = []
    · rw [if_pos h1, if_pos h1]; exact .inl ⟨by decide, rfl⟩
    · rw [if_neg h1, if_neg h1]
      by_cases h2 : 0 ≤ bad 4 l
      · rw [if_pos h2, if_pos h2]; exact .inl ⟨(by decide : (14 : Int) ≠ 0), rfl⟩
      · rw [if_neg h2, if_neg h2]
        exact .inr ⟨rfl, h1, digs_of_bad h2, rfl⟩
  clear hr hf h
  obtain ⟨x, y⟩ := f
  go_enter Tryd.func34, Tryd.ntmps34
  go_wp2_with fail
  refine (HT.out _).mono ?_
  rintro e w1 ⟨rfl, hb⟩
  have b1 := b0.keep hb
  have hb2 := (Below.refl w.heap.size w).alloc (Nat.le_refl _) (.cells #[.int .i64 0, .int .i64 0] 29)
  have HB := Lib.hid (show TwoF w w1 x y from ⟨hb2.trans (hb.mono (by simp)), b1, b1.lt⟩)
  clear hb hb2 HT b0
  have k1 := b1.alloc (.cells #[.int .i64 x, .int .i64 y] 29)
  have c0 : (w1.alloc (.cells #[.int .i64 x, .int .i64 y] 29)).cell? ⟨w.heap.size, 0, none⟩ = some (.int .i64 0) := k1.cell 0
  have c1 : (w1.alloc (.cells #[.int .i64 x, .int .i64 y] 29)).cell? ⟨w.heap.size, 1, none⟩ = some (.int .i64 0) := k1.cell 1
  have f0 := k1.frozen 0
  have f1 := k1.frozen 1
  clear k1 b1
  rcases hcase with ⟨hx, hr⟩ | ⟨hf, hne, hd, hr⟩
  · have hx' : (x == 0) = false := by simpa using hx
    have HR := Lib.hid hr
    clear hx hr
    go_wp2_with fail
    go_region
    all_goals
      go_wp2_with fail
      refine ret_nf rfl rfl rfl rfl ((HB.out.set _ _ _).1.same (Same.drewN _ 1)) ?_
      exact told3_of HR.out ((HB.out.set _ _ _).2.trans (Same.below (Same.drewN _ 1)))
  · injection hf with hx hy
    subst hx hy
    obtain ⟨b, t, rfl⟩ : ∃ b t, l = b :: t := by cases l with | nil => exact absurd rfl hne | cons b t => exact ⟨b, t, rfl⟩
    have hidx := HK.out.index (i := 0) 0 rfl (by simp)
    simp only [List.getElem_cons_zero] at hidx
    have hbb := b.toNat_lt
    have hlen : (s.size : Int) = (t.length : Int) + 1 := by rw [hn]; simp
    have htog := fun W => together_calls s (b :: t) HK.out hd hz W
    have HG := Lib.hid htog
    simp only [List.head?_cons, Option.some.injEq, List.length_cons] at hr
    generalize hv : val (b :: t) = v at hr
    rw [hv] at HG
    obtain ⟨z, hzz⟩ : ∃ z : Int, z = (b.toNat : Int) := ⟨_, rfl⟩
    rw [← hzz] at hidx
    have hz48 : z = 48 ↔ b = 48 := by
      constructor
      · intro h; exact UInt8.toNat_inj.1 (by show b.toNat = 48; omega)
      · rintro rfl; exact hzz
    have HR := Lib.hid hr
    have HZ := Lib.hid hz48
    clear hv hr hzz hz48 hbb hd hne htog hn
    by_cases h48 : z = 48 ∧ 1 < (s.size : Int)
    · obtain ⟨e1, e2⟩ := h48
      have HR2 := Lib.hid (show r = (0, 11, 0) by rw [HR.out, if_pos ⟨HZ.out.1 e1, by omega⟩])
      subst e1
      clear HR
      go_wp2_with fail
      refine ret_nf rfl rfl rfl rfl (HB.out.set _ _ _).1 ?_
      exact told3_of HR2.out (HB.out.set _ _ _).2
    · have HR2 := Lib.hid (show r = if MaxI < v ∨ (v : Int) < lo ∨ hi < (v : Int) then (0, 10, 0) else ((v : Int), 0, 0) by rw [HR.out, if_neg]; rintro ⟨e1, e2⟩; exact h48 ⟨HZ.out.2 e1, by omega⟩)
      have hand : (z == 48) = false ∨ ((z == 48) = true ∧ ¬ 1 < (s.size : Int)) := by
        by_cases e : z = 48
        · right; exact ⟨by simp [e], fun h => h48 ⟨e, h⟩⟩
        · left; simp [e]
      clear HR h48 hlen c0 c1 f0 f1
      rcases hand with e1 | ⟨e1, e2⟩
      all_goals
        go_wp2_with fail
        refine (HG.out _).mono ?_
        rintro e w2 ⟨⟨n, fits, rfl, htg⟩, hb⟩
        have b2 := (HB.out.own.alloc (.cells #[.int .i64 0, .int .i64 0] 29)).keep hb
        have kk := below_then (HB.out.kept.alloc (Nat.le_of_lt HB.out.far) (.cells #[.int .i64 0, .int .i64 0] 29)) hb
        have c0 : w2.cell? ⟨w.heap.size, 0, none⟩ = some (.int .i64 0) := b2.cell 0
        have c1 : w2.cell? ⟨w.heap.size, 1, none⟩ = some (.int .i64 0) := b2.cell 1
        have f0 := b2.frozen 0
        have f1 := b2.frozen 1
        have HF := Lib.hid (fun x y => laidF_is b2 kk x y)
        clear b2 kk hb HG HB
        obtain ⟨u, hu⟩ : ∃ u : Int, u = (n : Int) := ⟨_, rfl⟩
        rw [← hu]
        have hcs : (fits = false ∧ r = (0, 10, 0)) ∨ (fits = true ∧ u < lo ∧ r = (0, 10, 0)) ∨ (fits = true ∧ ¬ u < lo ∧ hi < u ∧ r = (0, 10, 0)) ∨ (fits = true ∧ ¬ u < lo ∧ ¬ hi < u ∧ r = (u, 0, 0)) := by
          cases fits with
          | false => exact .inl ⟨rfl, by rw [HR2.out, if_pos (.inl (htg.great rfl))]⟩
          | true =>
            have hv := htg.plain rfl
            subst hv
            have := htg.small
            by_cases k1 : u < lo
            · exact .inr (.inl ⟨rfl, k1, by rw [HR2.out, if_pos (.inr (.inl (by omega)))]⟩)
            · by_cases k2 : hi < u
              · exact .inr (.inr (.inl ⟨rfl, k1, k2, by rw [HR2.out, if_pos (.inr (.inr (by omega)))]⟩))
              · exact .inr (.inr (.inr ⟨rfl, k1, k2, by rw [HR2.out, if_neg (by omega), hu]⟩))
        clear HR2 htg hu
        rcases hcs with ⟨rfl, hr⟩ | ⟨rfl, k1, hr⟩ | ⟨rfl, k1, k2, hr⟩ | ⟨rfl, k1, k2, hr⟩
        all_goals
          have HR := Lib.hid hr
          clear hr
          go_wp2_with fail
          refine ret_nf rfl rfl rfl rfl (HF.out _ _).1 ?_
          exact told3_of HR.out (HF.out _ _).2

theorem ntime_calls (s : ByteArray) (l : List UInt8) (h : Str s l) (hz : (s.size : Int) ≤ 9000) (w : World) : Calls Tryd.prog 17 #[.string s] w (Told3 w (parsed l 1 1099511627776)) := by
  have HT := Lib.hid (parse_calls s l h hz 1 1099511627776)
  clear h hz
  have b0 := Box.new w 29 [.int .i64 0, .int .i64 0]
  generalize parsed l 1 1099511627776 = r at HT
  obtain ⟨n, x, y⟩ := r
  go_enter Tryd.func17, Tryd.ntmps17
  go_wp2_with fail
  refine (HT.out _).mono ?_
  rintro e w1 ⟨rfl, hb⟩
  have b1 := b0.keep hb
  have kk := below_then ((Below.refl w.heap.size w).alloc (Nat.le_refl _) (.cells #[.int .i64 0, .int .i64 0] 29)) (hb.mono (by simp))
  have c0 : w1.cell? ⟨w.heap.size, 0, none⟩ = some (.int .i64 0) := b1.cell 0
  have c1 : w1.cell? ⟨w.heap.size, 1, none⟩ = some (.int .i64 0) := b1.cell 1
  have f0 := b1.frozen 0
  have f1 := b1.frozen 1
  have HF := Lib.hid (fun x y => laidF_is b1 kk x y)
  clear b1 kk hb HT b0
  go_wp2_with fail
  refine ret_nf rfl rfl rfl rfl (HF.out _ _).1 ?_
  exact told3_of rfl (HF.out _ _).2
end Go.Proofs.YtmaiggoinjldpaaDoor

/-
  Package num: how a rate's text is wrong. No statement of the seat is proved here.
-/
namespace Go.Proofs.YtmaiggoinjldpaaDoor
open Go.RowKit

/-- How a rate's text is wrong (that of 1 is not asked). -/
def rfault : List UInt8 → Int × Int
  | [] => (13, 0)
  | [a] => if a = 48 then (11, 1) else (11, 0)
  | a :: b :: d => if a ≠ 48 then (11, 0) else if b ≠ 46 then (11, 1) else if d = [] then (13, 2) else if 0 ≤ bad 4 d then (14, 2 + bad 4 d) else if 6 < d.length then (12, 8) else (0, 0)

theorem rf_eq1 (a : UInt8) : rfault [a] = if a = 48 then (11, 1) else (11, 0) := rfl
theorem rf_eq2 (a b : UInt8) (d : List UInt8) : rfault (a :: b :: d) = if a ≠ 48 then (11, 0) else if b ≠ 46 then (11, 1) else if d = [] then (13, 2) else if 0 ≤ bad 4 d then (14, 2 + bad 4 d) else if 6 < d.length then (12, 8) else (0, 0) := rfl
theorem rf_dots (d : List UInt8) : rfault (48 :: 46 :: d) = if d = [] then (13, 2) else if 0 ≤ bad 4 d then (14, 2 + bad 4 d) else if 6 < d.length then (12, 8) else (0, 0) := rfl

/-- The first k bytes are right. -/
structure OkTo (l : List UInt8) (k : Nat) : Prop where
  le : k ≤ l.length
  zero : ∀ h : 0 < l.length, 0 < k → l[0] = 48
  point : ∀ h : 1 < l.length, 1 < k → l[1] = 46
  digs : ∀ i (h : i < l.length), 2 ≤ i → i < k → isOf 4 l[i].toNat = true

theorem OkTo.more0 {l : List UInt8} (hl : 0 < l.length) (e : l[0] = 48) : OkTo l 1 := ⟨hl, fun _ _ => e, fun _ h => absurd h (by omega), fun i _ _ h => absurd h (by omega)⟩
theorem OkTo.more1 {l : List UInt8} (h : OkTo l 1) (hl : 1 < l.length) (e : l[1] = 46) : OkTo l 2 := ⟨hl, fun h0 _ => h.zero h0 (by omega), fun _ _ => e, fun i _ _ h => absurd h (by omega)⟩
theorem OkTo.more2 {l : List UInt8} {k : Nat} (h : OkTo l k) (hk : 2 ≤ k) (hl : k < l.length) (e : isOf 4 l[k].toNat = true) : OkTo l (k + 1) :=
  ⟨hl, fun h0 _ => h.zero h0 (by omega), fun h1 _ => h.point h1 (by omega), fun i hi h2 hik => by
    rcases Nat.lt_or_ge i k with h' | h'
    · exact h.digs i hi h2 h'
    · obtain rfl : k = i := by omega
      exact e⟩

theorem rf_short {l : List UInt8} (h : OkTo l l.length) (h1 : l.length ≠ 1) (h3 : l.length < 3) : rfault l = (13, (l.length : Int)) := by
  match l, h, h1, h3 with
  | [], _, _, _ => rfl
  | [a], _, h1, _ => exact absurd rfl h1
  | [a, b], h, _, _ =>
    have e0 := h.zero (by simp) (by simp)
    have e1 := h.point (by simp) (by simp)
    simp only [List.getElem_cons_zero, List.getElem_cons_succ] at e0 e1
    subst e0 e1
    rfl
  | _ :: _ :: _ :: _, _, _, h3 => simp at h3; omega
theorem rf_form1 {l : List UInt8} (h : OkTo l 1) (h1 : l.length = 1) : rfault l = (11, 1) := by
  match l, h, h1 with
  | [a], h, _ =>
    have e0 := h.zero (by simp) (by simp)
    simp only [List.getElem_cons_zero] at e0
    subst e0
    rfl
theorem rf_zero {l : List UInt8} (hl : 0 < l.length) (e : l[0] ≠ 48) : rfault l = (11, 0) := by
  match l, hl, e with
  | [a], _, e => simp only [List.getElem_cons_zero] at e; rw [rf_eq1, if_neg e]
  | a :: b :: d, _, e => simp only [List.getElem_cons_zero] at e; rw [rf_eq2, if_pos e]
theorem rf_point {l : List UInt8} (h : OkTo l 1) (hl : 1 < l.length) (e : l[1] ≠ 46) : rfault l = (11, 1) := by
  match l, h, hl, e with
  | a :: b :: d, h, _, e =>
    have e0 := h.zero (by simp) (by simp)
    simp only [List.getElem_cons_zero, List.getElem_cons_succ] at e0 e
    rw [rf_eq2, if_neg (by simp [e0]), if_pos e]
theorem rf_char {l : List UInt8} {k : Nat} (h : OkTo l k) (hk : 2 ≤ k) (hl : k < l.length) (e : isOf 4 l[k].toNat = false) : rfault l = (14, (k : Int)) := by
  match l, h, hl, e with
  | [], _, hl, _ => simp at hl
  | [a], _, hl, _ => simp at hl; omega
  | a :: b :: d, h, hl, e =>
    have e0 := h.zero (by simp) (by omega)
    have e1 := h.point (by simp) (by omega)
    simp only [List.getElem_cons_zero, List.getElem_cons_succ] at e0 e1
    obtain ⟨j, rfl⟩ : ∃ j, k = j + 2 := ⟨k - 2, by omega⟩
    simp only [List.getElem_cons_succ] at e
    simp only [List.length_cons] at hl
    have hb : bad 4 d = (j : Int) := bad_at (by omega) (fun i hi hij => by
      have := h.digs (i + 2) (by simp; omega) (by omega) (by omega)
      simpa using this) e
    subst e0 e1
    rw [rf_dots, if_neg (by rintro rfl; simp at hl; omega), hb, if_pos (by omega)]
    simp only [Prod.mk.injEq, true_and]
    omega
theorem rf_end {l : List UInt8} (h : OkTo l l.length) (h3 : 3 ≤ l.length) : rfault l = if 8 < l.length then (12, 8) else (0, 0) := by
  match l, h, h3 with
  | a :: b :: d, h, h3 =>
    have e0 := h.zero (by simp) (by omega)
    have e1 := h.point (by simp) (by omega)
    simp only [List.getElem_cons_zero, List.getElem_cons_succ] at e0 e1
    simp only [List.length_cons] at h3
    have hb : bad 4 d = -1 := bad_none (fun i hi => by
      have := h.digs (i + 2) (by simp; omega) (by omega) (by simp; omega)
      simpa using this)
    subst e0 e1
    rw [rf_dots, if_neg (by rintro rfl; simp at h3), hb, if_neg (by omega)]
    simp only [List.length_cons]
    by_cases hc : 6 < d.length
    · rw [if_pos hc, if_pos (by omega)]
    · rw [if_neg hc, if_neg (by omega)]

theorem begin_str : Str ⟨#[48, 46]⟩ [48, 46] := rfl

end Go.Proofs.YtmaiggoinjldpaaDoor
