/-
  Package statsd: Parse. No statement of the seat is proved here.
-/
import Derived.Test.YtdliookdmgilgaaGreatDoorGrSdCut
import Derived.Test.YtdliookdmgilgaaGreatDoorGrEMap
import Derived.RegionTactic
import Derived.ChangeAlike
import Derived.BigRegion
import Derived.Deep.DeepCutAuto
import Derived.Deep.CutBlock
namespace Go.Proofs.YtdliookdmgilgaaGreatDoor
open Go.RowKit
open Dc (D D0)

theorem name_code {l : List UInt8} {x y : Int} (h : faultOf 1 l 1 200 = (x, y)) : nameR l = decide (x = 0) := by
  unfold nameR
  rw [h]
  by_cases hx : x = 0
  · subst hx
    have hy : y = 0 := by
      unfold faultOf at h
      split at h
      · injection h with h _; omega
      · split at h
        · injection h with h _; omega
        · split at h
          · injection h with h _; omega
          · split at h
            · injection h with h _; omega
            · injection h with _ h; omega
    subst hy
    rfl
  · rw [decide_eq_false hx]
    exact decide_eq_false fun e => hx (congrArg Prod.fst e)
theorem codeK_zero {l : List UInt8} : codeK l = 0 ↔ kindOf l ≠ 0 := by
  unfold codeK
  split <;> omega
theorem codeK_none {l : List UInt8} (h : codeK l ≠ 0) : codeK l = 16 ∧ kindOf l = 0 := by
  unfold codeK at *
  split at h
  · rename_i h1; exact ⟨by rw [if_pos h1], h1⟩
  · exact absurd rfl h

/-- The two blocks of what is told, and those of the closure that cuts, while a line is parsed. -/
structure CutR (w W : World) (s : ByteArray) (n : Nat) : Prop where
  res : ResS w W
  cw : CutW W (w.heap.size + 2) (w.heap.size + 3) s n
section
variable {w W W' : World} {s : ByteArray} {n n' : Nat}
theorem CutR.start (w : World) (s : ByteArray) : CutR w ((((w.alloc (.cells #[.string ⟨#[]⟩, .int .i64 0, .slice none 0 0, .int .i64 0, .slice none 0 0, .int .i64 0] 25)).alloc (.cells #[.int .i64 0, .int .i64 0] 34)).alloc (.cells #[.string s] 9)).alloc (.cells #[.int .i64 0] 3)) s 0 := by
  have h0 := ResS.start w
  have hz : ((w.alloc (.cells #[.string ⟨#[]⟩, .int .i64 0, .slice none 0 0, .int .i64 0, .slice none 0 0, .int .i64 0] 25)).alloc (.cells #[.int .i64 0, .int .i64 0] 34)).heap.size = w.heap.size + 2 := by rw [size_alloc, size_alloc]
  generalize ((w.alloc (.cells #[.string ⟨#[]⟩, .int .i64 0, .slice none 0 0, .int .i64 0, .slice none 0 0, .int .i64 0] 25)).alloc (.cells #[.int .i64 0, .int .i64 0] 34)) = W at h0 hz
  have b1 := Box.new W 9 [.string s]
  have b2 := Box.new (W.alloc (.cells #[.string s] 9)) 3 [.int .i64 ((0 : Nat) : Int)]
  rw [size_alloc, hz] at b2
  rw [hz] at b1
  exact ⟨(h0.alloc _).alloc _, ⟨b1.alloc _, b2, by omega⟩⟩
theorem CutR.next (h : CutR w W s n) (b : Below W.heap.size W W') : CutR w W' s n := ⟨h.res.next b, h.cw.next b⟩
theorem CutR.alloc (h : CutR w W s n) (o : Obj) : CutR w (W.alloc o) s n := h.next ((Below.refl _ _).alloc (Nat.le_refl _) o)
theorem CutR.lo (h : CutR w W s n) : w.heap.size + 4 ≤ W.heap.size := h.cw.pos.lt
theorem CutR.step (h : CutR w W s n) (b : But (w.heap.size + 3) W W') (c : CutW W' (w.heap.size + 2) (w.heap.size + 3) s n') : CutR w W' s n' := by
  have l := h.lo
  exact ⟨⟨h.res.one.but b (by omega), h.res.two.but b (by omega), h.res.kept.trans (b.below (by omega) (by omega))⟩, c⟩
end
theorem cutR_calls {w W : World} {s : ByteArray} {l : List UInt8} {n b : Nat} {c : UInt8} (h : CutR w W s n) (hs : Str s l) (hl : l.length ≤ 1000) (hn : n ≤ l.length) (hb : findB l n c = b) :
    Calls Tryz.prog 58 #[.string ⟨#[c]⟩, .pointer (some ⟨w.heap.size + 2, 0, none⟩), .pointer (some ⟨w.heap.size + 3, 0, none⟩)] W fun e W' => ∃ t, e = .returned (.agg #[.string t, .int .i64 n, .bool (decide (b < l.length))]) ∧ Str t (btw l n b) ∧ CutR w W' s (if b < l.length then b + 1 else b) ∧ But (w.heap.size + 3) W W' :=
  (cut1_calls h.cw hs hl hn hb).mono fun _ _ ⟨⟨t, e1, ht⟩, hc, hb⟩ => ⟨t, e1, ht, h.step hb hc, hb⟩

/-- All that lies while a line's parts are looked at. -/
structure ParS (w W : World) (s T1 T2 T3 : ByteArray) (n1 n2 n3 : Nat) (be1 be2 be3 : Bool) (g gd : Nat) (d : D) (c a : Int) : Prop where
  cut : CutR w W s n3
  b1 : Box W g 61 [.string T1, .int .i64 0, .bool be1]
  b2 : Box W (g + 1) 61 [.string T2, .int .i64 n1, .bool be2]
  b3 : Box W (g + 2) 61 [.string T3, .int .i64 n2, .bool be3]
  bd : Box W gd 50 [.bool d.neg, .int .u64 d.c, .int .i64 d.e]
  bf : Box W (gd + 1) 34 [.int .i64 c, .int .i64 a]
  lo : w.heap.size + 4 ≤ g ∧ w.heap.size + 4 ≤ gd
section
variable {w W W' : World} {s T1 T2 T3 : ByteArray} {n1 n2 n3 n4 : Nat} {be1 be2 be3 : Bool} {g gd : Nat} {d : D} {c a : Int}
theorem ParS.start (h : CutR w W s n3) (T1 T2 T3 : ByteArray) (n1 n2 : Nat) (be1 be2 be3 : Bool) (d : D) (c a : Int)
    (b : Below (((W.alloc (.cells #[.string T1, .int .i64 0, .bool be1] 61)).alloc (.cells #[.string T2, .int .i64 n1, .bool be2] 61)).alloc (.cells #[.string T3, .int .i64 n2, .bool be3] 61)).heap.size (((W.alloc (.cells #[.string T1, .int .i64 0, .bool be1] 61)).alloc (.cells #[.string T2, .int .i64 n1, .bool be2] 61)).alloc (.cells #[.string T3, .int .i64 n2, .bool be3] 61)) W') :
    ParS w ((W'.alloc (.cells #[.bool d.neg, .int .u64 d.c, .int .i64 d.e] 50)).alloc (.cells #[.int .i64 c, .int .i64 a] 34)) s T1 T2 T3 n1 n2 n3 be1 be2 be3 W.heap.size W'.heap.size d c a := by
  have l := h.lo
  have p1 := Box.new W 61 [.string T1, .int .i64 0, .bool be1]
  have p2 := Box.new (W.alloc (.cells #[.string T1, .int .i64 0, .bool be1] 61)) 61 [.string T2, .int .i64 n1, .bool be2]
  have p3 := Box.new ((W.alloc (.cells #[.string T1, .int .i64 0, .bool be1] 61)).alloc (.cells #[.string T2, .int .i64 n1, .bool be2] 61)) 61 [.string T3, .int .i64 n2, .bool be3]
  rw [size_alloc] at p2
  rw [size_alloc, size_alloc] at p3
  have q1 := Box.new W' 50 [.bool d.neg, .int .u64 d.c, .int .i64 d.e]
  have q2 := Box.new (W'.alloc (.cells #[.bool d.neg, .int .u64 d.c, .int .i64 d.e] 50)) 34 [.int .i64 c, .int .i64 a]
  rw [size_alloc] at q2
  have hz := b.size
  rw [size_alloc, size_alloc, size_alloc] at hz
  exact ⟨((((((h.alloc _).alloc _).alloc _).next b).alloc _).alloc _), ((((p1.alloc _).alloc _).keep b).alloc _).alloc _, (((p2.alloc _).keep b).alloc _).alloc _, ((p3.keep b).alloc _).alloc _, q1.alloc _, q2, ⟨by omega, by omega⟩⟩
theorem ParS.next (h : ParS w W s T1 T2 T3 n1 n2 n3 be1 be2 be3 g gd d c a) (b : Below W.heap.size W W') : ParS w W' s T1 T2 T3 n1 n2 n3 be1 be2 be3 g gd d c a :=
  ⟨h.cut.next b, h.b1.keep b, h.b2.keep b, h.b3.keep b, h.bd.keep b, h.bf.keep b, h.lo⟩
theorem ParS.alloc (h : ParS w W s T1 T2 T3 n1 n2 n3 be1 be2 be3 g gd d c a) (o : Obj) : ParS w (W.alloc o) s T1 T2 T3 n1 n2 n3 be1 be2 be3 g gd d c a := h.next ((Below.refl _ _).alloc (Nat.le_refl _) o)
theorem ParS.step (h : ParS w W s T1 T2 T3 n1 n2 n3 be1 be2 be3 g gd d c a) (b : But (w.heap.size + 3) W W') (k : CutR w W' s n4) : ParS w W' s T1 T2 T3 n1 n2 n4 be1 be2 be3 g gd d c a := by
  have l := h.lo
  exact ⟨k, h.b1.but b (by omega), h.b2.but b (by omega), h.b3.but b (by omega), h.bd.but b (by omega), h.bf.but b (by omega), h.lo⟩
theorem ParS.cells (h : ParS w W s T1 T2 T3 n1 n2 n3 be1 be2 be3 g gd d c a) :
    W.cell? ⟨g, 0, none⟩ = some (.string T1) ∧ W.cell? ⟨g, 1, none⟩ = some (.int .i64 0) ∧ W.cell? ⟨g, 2, none⟩ = some (.bool be1) ∧
    W.cell? ⟨g + 1, 0, none⟩ = some (.string T2) ∧ W.cell? ⟨g + 1, 1, none⟩ = some (.int .i64 n1) ∧ W.cell? ⟨g + 1, 2, none⟩ = some (.bool be2) ∧
    W.cell? ⟨g + 2, 0, none⟩ = some (.string T3) ∧ W.cell? ⟨g + 2, 1, none⟩ = some (.int .i64 n2) ∧ W.cell? ⟨g + 2, 2, none⟩ = some (.bool be3) ∧ W.cell? ⟨gd + 1, 0, none⟩ = some (.int .i64 c) :=
  ⟨h.b1.cell 0, h.b1.cell 1, h.b1.cell 2, h.b2.cell 0, h.b2.cell 1, h.b2.cell 2, h.b3.cell 0, h.b3.cell 1, h.b3.cell 2, h.bf.cell 0⟩
theorem ParS.dec (h : ParS w W s T1 T2 T3 n1 n2 n3 be1 be2 be3 g gd d c a) : W.cell? ⟨gd, 0, none⟩ = some (.bool d.neg) ∧ W.cell? ⟨gd, 1, none⟩ = some (.int .u64 d.c) ∧ W.cell? ⟨gd, 2, none⟩ = some (.int .i64 d.e) :=
  ⟨h.bd.cell 0, h.bd.cell 1, h.bd.cell 2⟩
end
theorem ParS.put {w W : World} {s T1 T2 T3 : ByteArray} {n1 n2 n3 : Nat} {be1 be2 be3 : Bool} {g gd : Nat} {d : D} {c a : Int} (h : ParS w W s T1 T2 T3 n1 n2 n3 be1 be2 be3 g gd d c a) {name : List UInt8} (hT : Str T1 name) (k r : Int) :
    PutMF w (putMF (W.alloc (.cells #[.bool d.neg, .int .u64 d.c, .int .i64 d.e] 50)) w.heap.size (w.heap.size + 1) T1 k (some ⟨W.heap.size, 0, none⟩) 1 1 r none 0 0 0 0 0) w.heap.size (w.heap.size + 1) T1 (some ⟨W.heap.size, 0, none⟩) 1 1 none 0 0 (oneS name k d r) 0 0 :=
  (h.cut.res.alloc _).put (m := oneS name k d r) ⟨hT, rfl, decs_at rfl (Dl.mk_ d), rfl, Tags.nil⟩ 1 0 0 0
theorem PutMF.faultI {w W : World} {g g' : Nat} {c a : Int} (h : PutMF w W g g' ⟨#[]⟩ none 0 0 none 0 0 M0 c a) {x : Mt × Int × Int} (hx : x = (M0, c, a)) :
    TellsM w x (.returned (.tuple #[.agg #[.string ⟨#[]⟩, .int .i64 0, .slice none 0 0, .int .i64 0, .slice none 0 0, .int .i64 0], .agg #[.int .i64 c, .int .i64 a]])) W := by
  subst hx
  exact ⟨_, _, _, _, _, _, _, rfl, h.met, h.kept⟩
theorem PutMF.drew {w W : World} {g g' : Nat} {s : ByteArray} {A B : Option Addr} {n ca k cb : Nat} {m : Mt} {c a : Int} (h : PutMF w W g g' s A n ca B k cb m c a) : PutMF w W.drew g g' s A n ca B k cb m c a :=
  ⟨h.one.keep (Same.below (Same.drewN _ 1)), h.two.keep (Same.below (Same.drewN _ 1)), h.met.keep (Same.below (Same.drewN _ 1)), h.kept.trans ((Same.below (Same.drewN _ 1)).mono h.kept.size)⟩
theorem sd_code (x y : Value) (w : World) : (Instr.field 34 (.agg #[x, y]) 0).run Tryz.prog w = .ok x w := by kernel_rfl
set_option maxRecDepth 100000 in
set_option maxHeartbeats 4000000 in
theorem sparse_calls {s : ByteArray} {l : List UInt8} (hs : Str s l) (hl : l.length ≤ 900) (w : World) : Calls Tryz.prog 14 #[.string s] w (TellsM w (parseS l)) := by
  obtain ⟨x, hx⟩ : ∃ x, parseS l = x := ⟨_, rfl⟩
  rw [hx]
  obtain ⟨a, ha⟩ : ∃ a, findB l 0 58 = a := ⟨_, rfl⟩
  have hla := findB_le l (Nat.zero_le _) 58
  rw [ha] at hla
  obtain ⟨n1, hn1⟩ : ∃ n1, (if a < l.length then a + 1 else a) = n1 := ⟨_, rfl⟩
  have hl1 : n1 ≤ l.length := by rw [← hn1]; split <;> omega
  obtain ⟨b, hb⟩ : ∃ b, findB l n1 124 = b := ⟨_, rfl⟩
  have hlb := findB_le l hl1 124
  rw [hb] at hlb
  obtain ⟨n2, hn2⟩ : ∃ n2, (if b < l.length then b + 1 else b) = n2 := ⟨_, rfl⟩
  have hl2 : n2 ≤ l.length := by rw [← hn2]; split <;> omega
  obtain ⟨c, hc⟩ : ∃ c, findB l n2 124 = c := ⟨_, rfl⟩
  have hlc := findB_le l hl2 124
  rw [hc] at hlc
  obtain ⟨n3, hn3⟩ : ∃ n3, (if c < l.length then c + 1 else c) = n3 := ⟨_, rfl⟩
  have hl3 : n3 ≤ l.length := by rw [← hn3]; split <;> omega
  have hC1 := fun W (h : CutR w W s 0) => cutR_calls h hs (by omega) (Nat.zero_le _) ha
  have hC2 := fun W (h : CutR w W s n1) => cutR_calls h hs (by omega) hl1 hb
  have hC3 := fun W (h : CutR w W s n2) => cutR_calls h hs (by omega) hl2 hc
  simp only [hn1] at hC1
  simp only [hn2] at hC2
  simp only [hn3] at hC3
  obtain ⟨be1, hbe1⟩ : ∃ be : Bool, be = decide (a < l.length) := ⟨_, rfl⟩
  obtain ⟨be2, hbe2⟩ : ∃ be : Bool, be = decide (b < l.length) := ⟨_, rfl⟩
  obtain ⟨be3, hbe3⟩ : ∃ be : Bool, be = decide (c < l.length) := ⟨_, rfl⟩
  rw [← hbe1] at hC1
  rw [← hbe2] at hC2
  rw [← hbe3] at hC3
  obtain ⟨d, c', a', hd⟩ : ∃ d c' a', Dc.parse (btw l n1 b) = (d, c', a') := ⟨_, _, _, rfl⟩
  have hP := fun W T (hT : Str T (btw l n1 b)) => (Dc.parse_calls T _ hT (by rw [btw_len hlb.1 hlb.2]; omega) W).mono fun _ _ k => parses_says hd k
  obtain ⟨fx, fy, hf⟩ : ∃ fx fy, faultOf 1 (btw l 0 a) 1 200 = (fx, fy) := ⟨_, _, rfl⟩
  have hN := fun W T (hT : Str T (btw l 0 a)) => ctext_says hT (by rw [hT.size, btw_len hla.1 hla.2]; omega) hf W
  obtain ⟨k, hk⟩ : ∃ k, kindOf (btw l n2 c) = k := ⟨_, rfl⟩
  obtain ⟨ck, hck⟩ : ∃ ck, codeK (btw l n2 c) = ck := ⟨_, rfl⟩
  have hK := fun W T (hT : Str T (btw l n2 c)) => skind_calls hT W
  simp only [hk, hck] at hK
  have hsz : (s.size : Int) = (l.length : Int) := by rw [hs.size]
  have gs : (0 : Int) ≤ (n1 : Int) ∧ (0 : Int) ≤ (n2 : Int) := by omega
  have HC1 := Lib.hid hC1
  have HC2 := Lib.hid hC2
  have HC3 := Lib.hid hC3
  have HP := Lib.hid hP
  have HN := Lib.hid hN
  have HK := Lib.hid hK
  have HA := Lib.hid (And.intro ha (And.intro hla (And.intro hn1 (And.intro hl1 hbe1))))
  have HBn := Lib.hid (And.intro hb (And.intro hlb (And.intro hn2 (And.intro hl2 hbe2))))
  have HCn := Lib.hid (And.intro hc (And.intro hlc (And.intro hn3 (And.intro hl3 hbe3))))
  have HV := Lib.hid (And.intro hd (And.intro (name_code hf) (And.intro hk hck)))
  have HS := Lib.hid hs
  have HX := Lib.hid hx
  have HF := Lib.hid (show ∀ args w, (callFunc 58 args).run Tryz.prog w = .ok (.enter 58 args) w from fun _ _ => by kernel_rfl)
  have HR := Lib.hid (CutR.start w s)
  clear hC1 hC2 hC3 hP hN hK ha hla hn1 hl1 hbe1 hb hlb hn2 hl2 hbe2 hc hlc hn3 hl3 hbe3 hd hf hk hck hs hx
  go_enter Tryz.func14, Tryz.ntmps14
  go_wp2_with fail
  refine (cutting_calls _ _).mono ?_
  rintro e w1 ⟨rfl, rfl⟩
  simp only [size_alloc, Nat.add_assoc, Nat.reduceAdd]
  generalize World.alloc _ (.cells #[.int .i64 0] 3) = W1 at HR ⊢
  go_wp2_with fail
  refine (HC1.out _ HR.out).mono ?_
  rintro e w2 ⟨T1, rfl, hT1, hR2, _⟩
  have HT1 := Lib.hid hT1
  have HR2 := Lib.hid hR2
  clear hT1 hR2 HC1 HR
  go_wp2_with fail
  refine (HC2.out _ HR2.out).mono ?_
  rintro e w3 ⟨T2, rfl, hT2, hR3, _⟩
  have HT2 := Lib.hid hT2
  have HR3 := Lib.hid hR3
  clear hT2 hR3 HC2 HR2
  go_wp2_with fail
  refine (HC3.out _ HR3.out).mono ?_
  rintro e w4 ⟨T3, rfl, hT3, hR4, _⟩
  have HT3 := Lib.hid hT3
  have HR4 := Lib.hid hR4
  clear hT3 hR4 HC3 HR3
  go_wp2_with fail
  refine (HP.out _ T2 HT2.out).mono ?_
  rintro e w5 ⟨rfl, hb⟩
  have HS5 := Lib.hid (ParS.start HR4.out T1 T2 T3 n1 n2 be1 be2 be3 d c' a' hb)
  clear hb HP HR4
  simp only [Nat.add_assoc, Nat.reduceAdd]
  go_upto_region 4 with fail
  go_cut [10, 11] from 15 (fun s10 s11 wx => s10 = .int .i64 k ∧ s11 = .int .i64 ck ∧ Hid (ParS w wx s T1 T2 T3 n1 n2 n3 be1 be2 be3 w4.heap.size w5.heap.size d c' a'))
  case first =>
    obtain ⟨p0, p1, p2, p3, p4, p5, p6, p7, p8, p9⟩ := HS5.out.cells
    go_wp2_with fail
    refine (HK.out _ T3 HT3.out).mono ?_
    rintro e w6 ⟨rfl, hb⟩
    have HS6 := Lib.hid (HS5.out.next hb)
    clear hb
    go_wp2_with fail
    go_meet
    exact ⟨rfl, rfl, HS6⟩
  case rest =>
  obtain ⟨rfl, rfl, hs6⟩ := hcut
  have HS6 := Lib.hid hs6.out
  obtain ⟨W6, hW6⟩ : ∃ W, W = wc := ⟨_, rfl⟩
  subst hW6
  clear HS5 hs6 HK HT3
  generalize w4.heap.size = g at HS6 ⊢
  generalize w5.heap.size = gd at HS6 ⊢
  obtain ⟨p0, p1, p2, p3, p4, p5, p6, p7, p8, p9⟩ := HS6.out.cells
  go_wp2_with fail
  refine (HN.out _ T1 HT1.out).mono ?_
  rintro e w7 ⟨rfl, hb⟩
  have HS7 := Lib.hid (HS6.out.next hb)
  clear hb HN HS6 p0 p1 p2 p3 p4 p5 p6 p7 p8 p9
  obtain ⟨p0, p1, p2, p3, p4, p5, p6, p7, p8, p9⟩ := HS7.out.cells
  have hfc := sd_code (.int .i64 fx) (.int .i64 fy)
  have HR7 := Lib.hid HS7.out.cut.res
  have HX1 := Lib.hid (show x = if fx ≠ 0 then failS 15 0 else if a = l.length then failS 11 l.length else valueS (a + 1) l.length (btw l 0 a) (l.drop (a + 1)) by
    rw [← HX.out, parseS_num HA.out.1, HV.out.2.1]
    by_cases h : fx = 0 <;> simp [h])
  clear HX
  by_cases hfx : fx = 0
  rotate_left
  · have HE := Lib.hid (show x = failS 15 0 by rw [HX1.out, if_pos hfx])
    have hfb : (fx != 0) = true := by simpa using hfx
    clear HX1
    go_wp2_with fail
    refine (sfail_calls 15 0 _).mono ?_
    rintro e wF ⟨rfl, hbF⟩
    have HRF := Lib.hid (HR7.out.next hbF)
    have HP := Lib.hid (HRF.out.fault 15 0)
    obtain ⟨c0, c1, c2, c3, c4, c5, c6, c7⟩ := HRF.out.cells
    obtain ⟨f0, f1, f2, f3, f4, f5, f6, f7⟩ := HRF.out.frozen
    clear hbF HRF HR7
    go_wp2_with fail
    refine ret_mf rfl rfl rfl rfl HP.out.one HP.out.two ?_
    exact HP.out.fault HE.out
  subst hfx
  have HX2 := Lib.hid (show x = if a = l.length then failS 11 l.length else valueS (a + 1) l.length (btw l 0 a) (l.drop (a + 1)) by rw [HX1.out, if_neg (by simp)])
  clear HX1
  cases be1
  · have hal : a = l.length := by have h1 := of_decide_eq_false HA.out.2.2.2.2.symm; have h2 := HA.out.2.1.2; omega
    have HE := Lib.hid (show x = failS 11 l.length by rw [HX2.out, if_pos hal])
    clear HX2 hal
    go_wp2_with fail
    refine (sfail_calls 11 (l.length : Int) _).mono ?_
    rintro e wF ⟨rfl, hbF⟩
    have HRF := Lib.hid (HR7.out.next hbF)
    have HP := Lib.hid (HRF.out.fault 11 (l.length : Int))
    obtain ⟨c0, c1, c2, c3, c4, c5, c6, c7⟩ := HRF.out.cells
    obtain ⟨f0, f1, f2, f3, f4, f5, f6, f7⟩ := HRF.out.frozen
    clear hbF HRF HR7
    go_wp2_with fail
    refine ret_mf rfl rfl rfl rfl HP.out.one HP.out.two ?_
    exact HP.out.fault HE.out
  have hal : a < l.length := of_decide_eq_true HA.out.2.2.2.2.symm
  obtain rfl : a + 1 = n1 := by rw [← HA.out.2.2.1, if_pos hal]
  have HX3 := Lib.hid (show x = if c' ≠ 0 then failS 17 (a + 1) else if b = l.length then failS 11 l.length else wordS (a + 1) (b + 1) (btw l 0 a) (btw l (a + 1) b) d (l.drop (b + 1)) by
    rw [HX2.out, if_neg (by omega), valueS_num (by omega) HBn.out.1, HV.out.1])
  clear HX2
  by_cases hc0 : c' = 0
  rotate_left
  · have HE := Lib.hid (show x = failS 17 (a + 1) by rw [HX3.out, if_pos hc0])
    have hcb : (c' != 0) = true := by simpa using hc0
    clear HX3
    go_wp2_with fail
    refine (sfail_calls 17 ((a + 1 : Nat) : Int) _).mono ?_
    rintro e wF ⟨rfl, hbF⟩
    have HRF := Lib.hid (HR7.out.next hbF)
    have HP := Lib.hid (HRF.out.fault 17 ((a + 1 : Nat) : Int))
    obtain ⟨c0, c1, c2, c3, c4, c5, c6, c7⟩ := HRF.out.cells
    obtain ⟨f0, f1, f2, f3, f4, f5, f6, f7⟩ := HRF.out.frozen
    clear hbF HRF HR7
    go_wp2_with fail
    refine ret_mf rfl rfl rfl rfl HP.out.one HP.out.two ?_
    exact HP.out.fault HE.out
  subst hc0
  have HX4 := Lib.hid (show x = if b = l.length then failS 11 l.length else wordS (a + 1) (b + 1) (btw l 0 a) (btw l (a + 1) b) d (l.drop (b + 1)) by rw [HX3.out, if_neg (by simp)])
  clear HX3
  cases be2
  · have hbl : b = l.length := by have h1 := of_decide_eq_false HBn.out.2.2.2.2.symm; have h2 := HBn.out.2.1.2; omega
    have HE := Lib.hid (show x = failS 11 l.length by rw [HX4.out, if_pos hbl])
    clear HX4 hbl
    go_wp2_with fail
    refine (sfail_calls 11 (l.length : Int) _).mono ?_
    rintro e wF ⟨rfl, hbF⟩
    have HRF := Lib.hid (HR7.out.next hbF)
    have HP := Lib.hid (HRF.out.fault 11 (l.length : Int))
    obtain ⟨c0, c1, c2, c3, c4, c5, c6, c7⟩ := HRF.out.cells
    obtain ⟨f0, f1, f2, f3, f4, f5, f6, f7⟩ := HRF.out.frozen
    clear hbF HRF HR7
    go_wp2_with fail
    refine ret_mf rfl rfl rfl rfl HP.out.one HP.out.two ?_
    exact HP.out.fault HE.out
  have hbl : b < l.length := of_decide_eq_true HBn.out.2.2.2.2.symm
  obtain rfl : b + 1 = n2 := by rw [← HBn.out.2.2.1, if_pos hbl]
  have HX5 := Lib.hid (show x = if k = 0 then failS 16 (b + 1) else if k = 2 ∧ (btw l (a + 1) b).head? = some 45 then failS 26 (a + 1) else if c = l.length then (oneS (btw l 0 a) k d 1000000, 0, 0) else restS (c + 1) (btw l 0 a) k d (l.drop (c + 1)) by
    rw [HX4.out, if_neg (by omega), wordS_num (by omega) HCn.out.1, HV.out.2.2.1])
  clear HX4
  by_cases hck : ck = 0
  rotate_left
  · have h2 := codeK_none (l := btw l (b + 1) c) (by rw [HV.out.2.2.2]; exact hck)
    rw [HV.out.2.2.1, HV.out.2.2.2] at h2
    have HE := Lib.hid (show x = failS 16 (b + 1) by rw [HX5.out, if_pos h2.2])
    obtain ⟨rfl, _⟩ := h2
    clear HX5 hck
    go_wp2_with fail
    refine (sfail_calls 16 ((b + 1 : Nat) : Int) _).mono ?_
    rintro e wF ⟨rfl, hbF⟩
    have HRF := Lib.hid (HR7.out.next hbF)
    have HP := Lib.hid (HRF.out.fault 16 ((b + 1 : Nat) : Int))
    obtain ⟨c0, c1, c2, c3, c4, c5, c6, c7⟩ := HRF.out.cells
    obtain ⟨f0, f1, f2, f3, f4, f5, f6, f7⟩ := HRF.out.frozen
    clear hbF HRF HR7
    go_wp2_with fail
    refine ret_mf rfl rfl rfl rfl HP.out.one HP.out.two ?_
    exact HP.out.fault HE.out
  subst hck
  have hk0 : k ≠ 0 := by have := codeK_zero.1 HV.out.2.2.2; rwa [HV.out.2.2.1] at this
  have HX6 := Lib.hid (HX5.out.trans (if_neg hk0))
  clear HX5 hk0
  obtain ⟨hd, hhd⟩ : ∃ hd : Bool, decide ((btw l (a + 1) b).head? = some 45) = hd := ⟨_, rfl⟩
  have hH := fun W => hasprefix_calls HT2.out 45 W
  simp only [hhd] at hH
  have HH := Lib.hid hH
  obtain ⟨gg, hgd⟩ : ∃ gg : Bool, gg = decide (k = 2 ∧ (btw l (a + 1) b).head? = some 45) := ⟨_, rfl⟩
  have HG := Lib.hid (And.intro hgd hhd)
  clear hgd hH hhd
  go_upto_region 15 with fail
  go_cut [82] from 15 (fun s82 wx => s82 = .bool gg ∧ w7 = wx)
  case first =>
    by_cases hk2 : k = 2
    · subst hk2
      have HE := Lib.hid (show gg = hd by rw [HG.out.1, ← HG.out.2]; simp)
      go_wp2_with fail
      refine (HH.out _).mono ?_
      rintro e w8 ⟨rfl, rfl⟩
      go_wp2_with fail
      go_meet
      exact ⟨by rw [HE.out], rfl⟩
    · have HE := Lib.hid (show gg = false by rw [HG.out.1]; exact decide_eq_false fun h => hk2 h.1)
      have hkb : (k == 2) = false := by simpa using hk2
      go_wp2_with fail
      go_meet
      exact ⟨by rw [HE.out], rfl⟩
  case rest =>
  obtain ⟨rfl, hwc⟩ := hcut
  subst hwc
  clear HH
  cases gg
  rotate_left
  · have HE := Lib.hid (show x = failS 26 (a + 1) by rw [HX6.out, if_pos (of_decide_eq_true HG.out.1.symm)])
    clear HX6
    go_wp2_with fail
    refine (sfail_calls 26 ((a + 1 : Nat) : Int) _).mono ?_
    rintro e wF ⟨rfl, hbF⟩
    have HRF := Lib.hid (HR7.out.next hbF)
    have HP := Lib.hid (HRF.out.fault 26 ((a + 1 : Nat) : Int))
    obtain ⟨c0, c1, c2, c3, c4, c5, c6, c7⟩ := HRF.out.cells
    obtain ⟨f0, f1, f2, f3, f4, f5, f6, f7⟩ := HRF.out.frozen
    clear hbF HRF HR7
    go_wp2_with fail
    refine ret_mf rfl rfl rfl rfl HP.out.one HP.out.two ?_
    exact HP.out.fault HE.out
  have HX7 := Lib.hid (HX6.out.trans (if_neg (of_decide_eq_false HG.out.1.symm)))
  clear HX6 HG HT2 HR7 hfc
  cases be3
  · have hcl : c = l.length := by have h1 := of_decide_eq_false HCn.out.2.2.2.2.symm; have h2 := HCn.out.2.1.2; omega
    have HE := Lib.hid (show x = (oneS (btw l 0 a) k d 1000000, 0, 0) by rw [HX7.out, if_pos hcl])
    clear HX7 hcl p0 p1 p2 p3 p4 p5 p6 p7 p8 p9
    obtain ⟨p0, p1, p2, p3, p4, p5, p6, p7, p8, p9⟩ := HS7.out.cells
    obtain ⟨d0, d1, d2⟩ := HS7.out.dec
    obtain ⟨c0, c1, c2, c3, c4, c5, c6, c7⟩ := HS7.out.cut.res.cells
    obtain ⟨f0, f1, f2, f3, f4, f5, f6, f7⟩ := HS7.out.cut.res.frozen
    obtain ⟨m0, m1, m2, m3, m4, m5, m6, m7⟩ := (HS7.out.cut.res.alloc (.cells #[.bool d.neg, .int .u64 d.c, .int .i64 d.e] 50)).cells
    obtain ⟨q0, q1, q2, q3, q4, q5, q6, q7⟩ := (HS7.out.cut.res.alloc (.cells #[.bool d.neg, .int .u64 d.c, .int .i64 d.e] 50)).frozen
    have HP := Lib.hid (HS7.out.put HT1.out k 1000000)
    clear HS7
    go_wp2_with fail
    refine ret_mf rfl rfl rfl rfl HP.out.one HP.out.two ?_
    exact HP.out.told HE.out
  have hcl : c < l.length := of_decide_eq_true HCn.out.2.2.2.2.symm
  obtain rfl : c + 1 = n3 := by rw [← HCn.out.2.2.1, if_pos hcl]
  obtain ⟨e, he⟩ : ∃ e, findB l (c + 1) 124 = e := ⟨_, rfl⟩
  have hle := findB_le l (n := c + 1) (by omega) 124
  rw [he] at hle
  obtain ⟨n4, hn4⟩ : ∃ n4, (if e < l.length then e + 1 else e) = n4 := ⟨_, rfl⟩
  obtain ⟨be4, hbe4⟩ : ∃ be : Bool, decide (e < l.length) = be := ⟨_, rfl⟩
  have hC4 := fun W (h : CutR w W s (c + 1)) => cutR_calls h HS.out (by omega) (by omega) he
  simp only [hn4, hbe4] at hC4
  have HC4 := Lib.hid hC4
  obtain ⟨r, c2, a2, hr⟩ : ∃ r c2 a2, rateP (btw l (c + 1) e) (c + 1) be4 k = (r, c2, a2) := ⟨_, _, _, rfl⟩
  have hQ := fun W T (hT : Str T (btw l (c + 1) e)) => (rateof_calls hT (by rw [btw_len hle.1 hle.2]; omega) (c + 1) (by omega) be4 k W).mono fun _ _ k => told3_says hr k
  have HQ := Lib.hid hQ
  have HX8 := Lib.hid (show x = if c2 ≠ 0 then (M0, c2, a2) else (oneS (btw l 0 a) k d r, 0, 0) by
    rw [HX7.out, if_neg (by omega), restS_part]
    obtain ⟨_, _, h3, h4⟩ := cut_find (n := c + 1) (by omega) he
    have h5 : (cutB 124 (l.drop (c + 1))).2.1 = be4 := by
      rw [← hbe4]
      rcases h4 with ⟨h4, h5, _⟩ | ⟨h4, h5, _⟩
      · rw [h5, decide_eq_false (by omega)]
      · rw [h5, decide_eq_true h4]
    rw [h3, h5]
    show (if (rateP (btw l (c + 1) e) (c + 1) be4 k).2.1 ≠ 0 then (M0, (rateP (btw l (c + 1) e) (c + 1) be4 k).2) else (oneS (btw l 0 a) k d (rateP (btw l (c + 1) e) (c + 1) be4 k).1, 0, 0)) = _
    rw [hr])
  clear hC4 hQ hr hbe4 hn4 he HX7 hcl p0 p1 p2 p3 p4 p5 p6 p7 p9
  go_wp2_with fail
  refine (HC4.out _ HS7.out.cut).mono ?_
  rintro e' w8 ⟨T4, rfl, hT4, hR8, hb8⟩
  have HT4 := Lib.hid hT4
  have HS8 := Lib.hid (HS7.out.step hb8 hR8)
  clear hT4 hR8 hb8 HS7 HC4 p8
  go_wp2_with fail
  refine (HQ.out _ T4 HT4.out).mono ?_
  rintro e' w9 ⟨rfl, hb⟩
  have HS9 := Lib.hid ((HS8.out.next hb).alloc (.cells #[.int .i64 c2, .int .i64 a2] 34))
  have hbf := Box.new w9 34 [.int .i64 c2, .int .i64 a2]
  have hne : w9.heap.size ≠ w.heap.size := by have := (HS8.out.next hb).cut.lo; omega
  clear hb HS8 HQ HT4
  go_upto_region 20 with fail
  generalize World.alloc w9 _ = W9 at HS9 hbf ⊢
  generalize w9.heap.size = gf at hne hbf ⊢
  have x0 : W9.cell? ⟨gf, 0, none⟩ = some (.int .i64 c2) := hbf.cell 0
  have x1 : W9.cell? ⟨gf, 1, none⟩ = some (.int .i64 a2) := hbf.cell 1
  clear hbf
  by_cases hc2 : c2 = 0
  rotate_left
  · have HE := Lib.hid (show x = (M0, c2, a2) by rw [HX8.out, if_pos hc2])
    have hcb : (c2 != 0) = true := by simpa using hc2
    have HR9 := Lib.hid HS9.out.cut.res
    have HP := Lib.hid (HR9.out.fault c2 a2)
    have HPD := Lib.hid HP.out.drew
    obtain ⟨c0, c1, c2', c3, c4, c5, c6, c7⟩ := HR9.out.cells
    obtain ⟨f0, f1, f2, f3, f4, f5, f6, f7⟩ := HR9.out.frozen
    clear HS9 HX8 hc2
    go_wp2_with fail
    go_region
    all_goals
      go_wp2_with fail
      refine ret_mf rfl rfl rfl rfl HPD.out.one HPD.out.two ?_
      exact HPD.out.faultI HE.out
  subst hc2
  have HE := Lib.hid (show x = (oneS (btw l 0 a) k d r, 0, 0) by rw [HX8.out, if_neg (by simp)])
  clear HX8
  obtain ⟨p0, p1, p2, p3, p4, p5, p6, p7, p8, p9⟩ := HS9.out.cells
  obtain ⟨d0, d1, d2⟩ := HS9.out.dec
  obtain ⟨c0, c1, c2, c3, c4, c5, c6, c7⟩ := HS9.out.cut.res.cells
  obtain ⟨f0, f1, f2, f3, f4, f5, f6, f7⟩ := HS9.out.cut.res.frozen
  obtain ⟨m0, m1, m2, m3, m4, m5, m6, m7⟩ := (HS9.out.cut.res.alloc (.cells #[.bool d.neg, .int .u64 d.c, .int .i64 d.e] 50)).cells
  obtain ⟨q0, q1, q2, q3, q4, q5, q6, q7⟩ := (HS9.out.cut.res.alloc (.cells #[.bool d.neg, .int .u64 d.c, .int .i64 d.e] 50)).frozen
  have HP := Lib.hid (HS9.out.put HT1.out k r)
  clear HS9
  go_wp2_with fail
  refine ret_mf rfl rfl rfl rfl HP.out.one HP.out.two ?_
  exact HP.out.told HE.out
end Go.Proofs.YtdliookdmgilgaaGreatDoor
