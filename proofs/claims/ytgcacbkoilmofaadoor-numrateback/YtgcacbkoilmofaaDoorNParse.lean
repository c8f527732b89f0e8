/-
  Package num: Parse, Time. No statement of the seat is proved here.
-/
import Derived.Test.YtgcacbkoilmofaaDoorNTogether
import Derived.Test.YtgcacbkoilmofaaDoorKText
namespace Go.Proofs.YtgcacbkoilmofaaDoor
open Go.RowKit

theorem results_tmp_cell {fn : Func} {p u : Tmp} {ty : TypeId} (h : fn.results = #[.tmp u, .cell p ty]) (tmps : Array Value) (w : World) :
    (results fn tmps).run Tryd.prog w = ((asAddr (tmps.getD p undef)).run Tryd.prog w).andThen fun a w1 => ((loadVar ty a).run Tryd.prog w1).andThen fun v w2 => .ok (.tuple #[tmps.getD u undef, v]) w2 := by
  simp only [results, h]
  simp [Sem.run_bind, Result.andThen]
/-- A number and a Fault are returned. -/
theorem ret_nf {fn : Func} {p u : Tmp} (hres : fn.results = #[.tmp u, .cell p 25]) {R : Ending → World → Prop} {a : Act} {w : World} {g : Nat} {x y v : Value} (hp : a.tmps.getD p undef = .pointer (some ⟨g, 0, none⟩)) (hu : a.tmps.getD u undef = v) (hd : a.defers = [])
    (hb : Box w g 25 [x, y]) (hR : R (.returned (.tuple #[v, .agg #[x, y]])) w) : bodyPost Tryd.prog fn R .ret a w := by
  refine bodyPost_ret ?_ hd hR
  rw [results_tmp_cell hres, hp, hu, addr_is]
  simp only [Result.andThen]
  rw [load_fault hb]

/-- What a number and a Fault are told as. -/
def Told3 (w : World) (r : Int × Int × Int) (e : Ending) (w' : World) : Prop := e = .returned (.tuple #[.int .i64 r.1, .agg #[.int .i64 r.2.1, .int .i64 r.2.2]]) ∧ Below w.heap.size w w'
theorem told3_of {w w' : World} {r : Int × Int × Int} {n a b : Int} (h : r = (n, a, b)) (hb : Below w.heap.size w w') : Told3 w r (.returned (.tuple #[.int .i64 n, .agg #[.int .i64 a, .int .i64 b]])) w' := by
  rw [h]; exact ⟨rfl, hb⟩

/-- Which number a text is, or how it is wrong. -/
def parsed (l : List UInt8) (lo hi : Int) : Int × Int × Int :=
  if l = [] then (0, 13, 0) else if 0 ≤ bad 4 l then (0, 14, bad 4 l) else if l.head? = some 48 ∧ 1 < l.length then (0, 11, 0)
  else if MaxI < val l ∨ (val l : Int) < lo ∨ hi < (val l : Int) then (0, 10, 0) else (val l, 0, 0)

theorem dig_is (b : UInt8) : isOf 4 (b.toNat : Int) = true ↔ Dig b := by
  unfold isOf Dig
  rw [decide_eq_true_eq]
  simp
  omega
theorem digs_of_bad {l : List UInt8} (h : ¬ 0 ≤ bad 4 l) : Digs l := by
  rcases bad_cases 4 l with ⟨k, hk, he, _⟩ | ⟨_, ha⟩
  · rw [he] at h; omega
  · intro b hb
    obtain ⟨i, hi, rfl⟩ := List.mem_iff_getElem.mp hb
    exact (dig_is _).1 (ha i hi)
theorem bad_of_digs {l : List UInt8} (h : Digs l) : bad 4 l = -1 := bad_none fun _ hi => (dig_is _).2 (h _ (List.getElem_mem hi))

theorem fault_digits {l : List UInt8} (hl : l.length ≤ 1000) : faultOf 4 l 1 9223372036854775807 = if l = [] then (13, 0) else if 0 ≤ bad 4 l then (14, bad 4 l) else (0, 0) := by
  unfold faultOf
  rw [if_neg (by decide)]
  cases l with
  | nil => rfl
  | cons b r =>
    simp only [List.length_cons] at hl ⊢
    rw [if_neg (by omega), if_neg (by omega), if_neg (by simp : ¬ b :: r = [])]

/-- The fault of a call beside the one that is to be told. -/
structure TwoF (w : World) (w2 : World) (x y : Int) : Prop where
  kept : Below w.heap.size w w2
  own : Box w2 w.heap.size 25 [.int .i64 0, .int .i64 0]
  far : w.heap.size < w2.heap.size

theorem TwoF.set {w w2 : World} {x y : Int} (h : TwoF w w2 x y) (o : Obj) (a b : Value) : Box (((w2.alloc o).setCell ⟨w.heap.size, 0, none⟩ a).setCell ⟨w.heap.size, 1, none⟩ b) w.heap.size 25 [a, b] ∧ Below w.heap.size w (((w2.alloc o).setCell ⟨w.heap.size, 0, none⟩ a).setCell ⟨w.heap.size, 1, none⟩ b) :=
  ⟨((h.own.alloc o).set 0 a).set 1 b, below_set (below_set (h.kept.alloc (Nat.le_of_lt h.far) o) (Nat.le_refl _) _ _) (Nat.le_refl _) _ _⟩

set_option maxRecDepth 100000 in
set_option maxHeartbeats 4000000 in
theorem parse_calls (s : ByteArray) (l : List UInt8) (h : Str s l) (hz : (s.size : Int) ≤ 1000) (lo hi : Int) (w : World) : Calls Tryd.prog 9 #[.string s, .int .i64 lo, .int .i64 hi] w (Told3 w (parsed l lo hi)) := by
  have hn : s.size = l.length := h.size
  have HT := Lib.hid (text_calls 4 s l h hz 1 9223372036854775807)
  rw [fault_digits (by omega)] at HT
  have b0 := Box.new w 25 [.int .i64 0, .int .i64 0]
  have HK := Lib.hid h
  obtain ⟨r, hr⟩ : ∃ r, r = parsed l lo hi := ⟨_, rfl⟩
  rw [← hr]
  obtain ⟨f, hf⟩ : ∃ f : Int × Int, f = (if l = [] then (13, 0) else if 0 ≤ bad 4 l then (14, bad 4 l) else (0, 0)) := ⟨_, rfl⟩
  rw [← hf] at HT
  have hcase : (f.1 ≠ 0 ∧ r = (0, f.1, f.2)) ∨ (f = (0, 0) ∧ l ≠ [] ∧ Digs l ∧ r = if l.head? = some 48 ∧ 1 < l.length then (0, 11, 0) else if MaxI < val l ∨ (val l : Int) < lo ∨ hi < (val l : Int) then (0, 10, 0) else ((val l : Int), 0, 0)) := by
    rw [hr, hf]
    unfold parsed
    by_cases h1 : l = []
    · rw [if_pos h1, if_pos h1]; exact .inl ⟨by decide, rfl⟩
    · rw [if_neg h1, if_neg h1]
      by_cases h2 : 0 ≤ bad 4 l
      · rw [if_pos h2, if_pos h2]; exact .inl ⟨(by decide : (14 : Int) ≠ 0), rfl⟩
      · rw [if_neg h2, if_neg h2]
        exact .inr ⟨rfl, h1, digs_of_bad h2, rfl⟩
  clear hr hf h
  obtain ⟨x, y⟩ := f
  go_enter Tryd.func9, Tryd.ntmps9
  go_wp2_with fail
  refine (HT.out _).mono ?_
  rintro e w1 ⟨rfl, hb⟩
  have b1 := b0.keep hb
  have hb2 := (Below.refl w.heap.size w).alloc (Nat.le_refl _) (.cells #[.int .i64 0, .int .i64 0] 25)
  have HB := Lib.hid (show TwoF w w1 x y from ⟨hb2.trans (hb.mono (by simp)), b1, b1.lt⟩)
  clear hb hb2 HT b0
  have k1 := b1.alloc (.cells #[.int .i64 x, .int .i64 y] 25)
  have c0 : (w1.alloc (.cells #[.int .i64 x, .int .i64 y] 25)).cell? ⟨w.heap.size, 0, none⟩ = some (.int .i64 0) := k1.cell 0
  have c1 : (w1.alloc (.cells #[.int .i64 x, .int .i64 y] 25)).cell? ⟨w.heap.size, 1, none⟩ = some (.int .i64 0) := k1.cell 1
  have f0 := k1.frozen 0
  have f1 := k1.frozen 1
  clear k1 b1
  rcases hcase with ⟨hx, hr⟩ | ⟨hf, hne, hd, hr⟩
  · have hx' : (x == 0) = false := by simpa using hx
    have HR := Lib.hid hr
    clear hx hr
    go_wp2_with fail
    go_region
    all_goals
      go_wp2_with fail
      refine ret_nf rfl rfl rfl rfl ((HB.out.set _ _ _).1.same (Same.drewN _ 1)) ?_
      exact told3_of HR.out ((HB.out.set _ _ _).2.trans (Same.below (Same.drewN _ 1)))
  · injection hf with hx hy
    subst hx hy
    obtain ⟨b, t, rfl⟩ : ∃ b t, l = b :: t := by cases l with | nil => exact absurd rfl hne | cons b t => exact ⟨b, t, rfl⟩
    have hidx := HK.out.index (i := 0) 0 rfl (by simp)
    simp only [List.getElem_cons_zero] at hidx
    have hbb := b.toNat_lt
    have hlen : (s.size : Int) = (t.length : Int) + 1 := by rw [hn]; simp
    have htog := fun W => together_calls s (b :: t) HK.out hd hz W
    have HG := Lib.hid htog
    simp only [List.head?_cons, Option.some.injEq, List.length_cons] at hr
    generalize hv : val (b :: t) = v at hr
    rw [hv] at HG
    obtain ⟨z, hzz⟩ : ∃ z : Int, z = (b.toNat : Int) := ⟨_, rfl⟩
    rw [← hzz] at hidx
    have hz48 : z = 48 ↔ b = 48 := by
      constructor
      · intro h; exact UInt8.toNat_inj.1 (by show b.toNat = 48; omega)
      · rintro rfl; exact hzz
    have HR := Lib.hid hr
    have HZ := Lib.hid hz48
    clear hv hr hzz hz48 hbb hd hne htog hn
    by_cases h48 : z = 48 ∧ 1 < (s.size : Int)
    · obtain ⟨e1, e2⟩ := h48
      have HR2 := Lib.hid (show r = (0, 11, 0) by rw [HR.out, if_pos ⟨HZ.out.1 e1, by omega⟩])
      subst e1
      clear HR
      go_wp2_with fail
      refine ret_nf rfl rfl rfl rfl (HB.out.set _ _ _).1 ?_
      exact told3_of HR2.out (HB.out.set _ _ _).2
    · have HR2 := Lib.hid (show r = if MaxI < v ∨ (v : Int) < lo ∨ hi < (v : Int) then (0, 10, 0) else ((v : Int), 0, 0) by rw [HR.out, if_neg]; rintro ⟨e1, e2⟩; exact h48 ⟨HZ.out.2 e1, by omega⟩)
      have hand : (z == 48) = false ∨ ((z == 48) = true ∧ ¬ 1 < (s.size : Int)) := by
        by_cases e : z = 48
        · right; exact ⟨by simp [e], fun h => h48 ⟨e, h⟩⟩
        · left; simp [e]
      clear HR h48 hlen c0 c1 f0 f1
      rcases hand with e1 | ⟨e1, e2⟩
      all_goals
        go_wp2_with fail
        refine (HG.out _).mono ?_
        rintro e w2 ⟨⟨n, fits, rfl, htg⟩, hb⟩
        have b2 := (HB.out.own.alloc (.cells #[.int .i64 0, .int .i64 0] 25)).keep hb
        have kk := below_then (HB.out.kept.alloc (Nat.le_of_lt HB.out.far) (.cells #[.int .i64 0, .int .i64 0] 25)) hb
        have c0 : w2.cell? ⟨w.heap.size, 0, none⟩ = some (.int .i64 0) := b2.cell 0
        have c1 : w2.cell? ⟨w.heap.size, 1, none⟩ = some (.int .i64 0) := b2.cell 1
        have f0 := b2.frozen 0
        have f1 := b2.frozen 1
        have HF := Lib.hid (fun x y => laidF_is b2 kk x y)
        clear b2 kk hb HG HB
        obtain ⟨u, hu⟩ : ∃ u : Int, u = (n : Int) := ⟨_, rfl⟩
        rw [← hu]
        have hcs : (fits = false ∧ r = (0, 10, 0)) ∨ (fits = true ∧ u < lo ∧ r = (0, 10, 0)) ∨ (fits = true ∧ ¬ u < lo ∧ hi < u ∧ r = (0, 10, 0)) ∨ (fits = true ∧ ¬ u < lo ∧ ¬ hi < u ∧ r = (u, 0, 0)) := by
          cases fits with
          | false => exact .inl ⟨rfl, by rw [HR2.out, if_pos (.inl (htg.great rfl))]⟩
          | true =>
            have hv := htg.plain rfl
            subst hv
            have := htg.small
            by_cases k1 : u < lo
            · exact .inr (.inl ⟨rfl, k1, by rw [HR2.out, if_pos (.inr (.inl (by omega)))]⟩)
            · by_cases k2 : hi < u
              · exact .inr (.inr (.inl ⟨rfl, k1, k2, by rw [HR2.out, if_pos (.inr (.inr (by omega)))]⟩))
              · exact .inr (.inr (.inr ⟨rfl, k1, k2, by rw [HR2.out, if_neg (by omega), hu]⟩))
        clear HR2 htg hu
        rcases hcs with ⟨rfl, hr⟩ | ⟨rfl, k1, hr⟩ | ⟨rfl, k1, k2, hr⟩ | ⟨rfl, k1, k2, hr⟩
        all_goals
          have HR := Lib.hid hr
          clear hr
          go_wp2_with fail
          refine ret_nf rfl rfl rfl rfl (HF.out _ _).1 ?_
          exact told3_of HR.out (HF.out _ _).2

theorem time_calls (s : ByteArray) (l : List UInt8) (h : Str s l) (hz : (s.size : Int) ≤ 1000) (w : World) : Calls Tryd.prog 11 #[.string s] w (Told3 w (parsed l 1 1099511627776)) := by
  have HT := Lib.hid (parse_calls s l h hz 1 1099511627776)
  clear h hz
  have b0 := Box.new w 25 [.int .i64 0, .int .i64 0]
  generalize parsed l 1 1099511627776 = r at HT
  obtain ⟨n, x, y⟩ := r
  go_enter Tryd.func11, Tryd.ntmps11
  go_wp2_with fail
  refine (HT.out _).mono ?_
  rintro e w1 ⟨rfl, hb⟩
  have b1 := b0.keep hb
  have kk := below_then ((Below.refl w.heap.size w).alloc (Nat.le_refl _) (.cells #[.int .i64 0, .int .i64 0] 25)) (hb.mono (by simp))
  have c0 : w1.cell? ⟨w.heap.size, 0, none⟩ = some (.int .i64 0) := b1.cell 0
  have c1 : w1.cell? ⟨w.heap.size, 1, none⟩ = some (.int .i64 0) := b1.cell 1
  have f0 := b1.frozen 0
  have f1 := b1.frozen 1
  have HF := Lib.hid (fun x y => laidF_is b1 kk x y)
  clear b1 kk hb HT b0
  go_wp2_with fail
  refine ret_nf rfl rfl rfl rfl (HF.out _ _).1 ?_
  exact told3_of rfl (HF.out _ _).2
end Go.Proofs.YtgcacbkoilmofaaDoor
