/-
  TAwake, TRefParse, TTxt. No statement of the seat is proved here.
-/
import Derived.Test.YtbcmchkgamkceaaGreatDoorGrTNormal
import Derived.Test.YtbcmchkgamkceaaGreatDoorGrTParse1
import Derived.RegionTactic
import Derived.ChangeAlike
import Derived.Laws.MakeOwn
/-
  Layer 6's awake. No statement of the seat is proved here.
-/
namespace Go.Proofs.YtbcmchkgamkceaaGreatDoor
open Go.RowKit

def envK : List UInt8 := [101, 110, 118]
def envV : List UInt8 := [112, 114, 111, 100]
def hostK : List UInt8 := [104, 111, 115, 116]
theorem aw1 : parseT [101, 110, 118, 58, 112, 114, 111, 100, 44, 104, 111, 115, 116] = .inr [(envK, envV), (hostK, [])] := by decide +kernel
theorem aw2 : parseT [97, 58, 49, 44, 98, 58] = .inl 4 := by decide +kernel
theorem aw3 : parseT [] = .inl 0 := by decide +kernel
theorem aw4 : norm [(hostK, []), (envK, envV), (hostK, [])] = [(envK, envV), (hostK, [])] := by decide +kernel

section
variable {s : ByteArray} {l : List UInt8}
theorem parse_bad {k : Nat} (hs : Str s l) (hz : (s.size : Int) ≤ 100000) (hp : parseT l = .inl k) (w : World) : Calls Tryz.prog 73 #[.string s] w fun e w' => e = .returned (.tuple #[.slice none 0 0, .agg #[.int .i64 19, .int .i64 k]]) ∧ Below w.heap.size w w' := by
  have := tparse_calls hs hz w
  rw [hp] at this
  exact this.mono fun _ _ ⟨h1, h2⟩ => ⟨h2, h1⟩
theorem parse_good {ts : List Tg} (hs : Str s l) (hz : (s.size : Int) ≤ 100000) (hp : parseT l = .inr ts) (w : World) : Calls Tryz.prog 73 #[.string s] w fun e w' => (∃ A cap, e = .returned (.tuple #[.slice A ts.length cap, .agg #[.int .i64 0, .int .i64 0]]) ∧ Tags w' A ts ∧ ts.length ≤ cap ∧ cap ≤ maxLen) ∧ Below w.heap.size w w' := by
  have := tparse_calls hs hz w
  rw [hp] at this
  exact this.mono fun _ _ ⟨h1, h2⟩ => ⟨h2, h1⟩
end

/-- Where awake stands. -/
structure AwS (w0 : World) (A : Option Addr) (F G H : Nat) (w : World) : Prop where
  kp : Kp w0 [(⟨H, 0, none⟩, .int .i64 19), (⟨H, 1, none⟩, .int .i64 0), (⟨G, 0, none⟩, .int .i64 19), (⟨G, 1, none⟩, .int .i64 4), (⟨F, 0, none⟩, .int .i64 0), (⟨F, 1, none⟩, .int .i64 0),
    (⟨w0.heap.size + 1, 0, none⟩, .string ⟨#[104, 111, 115, 116]⟩), (⟨w0.heap.size + 1, 1, none⟩, .string ⟨#[]⟩), (⟨w0.heap.size, 0, none⟩, .string ⟨#[101, 110, 118]⟩), (⟨w0.heap.size, 1, none⟩, .string ⟨#[112, 114, 111, 100]⟩)] [(A, [(envK, envV), (hostK, [])])] w
section
variable {w0 w w' : World} {A : Option Addr} {F G H : Nat}
theorem AwS.next (h : AwS w0 A F G H w) (k : Below w.heap.size w w') : AwS w0 A F G H w' := ⟨h.kp.next k⟩
theorem AwS.alloc (h : AwS w0 A F G H w) (o : Obj) : AwS w0 A F G H (w.alloc o) := ⟨h.kp.alloc o⟩
theorem AwS.cells (h : AwS w0 A F G H w) : w.cell? ⟨H, 0, none⟩ = some (.int .i64 19) ∧ w.cell? ⟨H, 1, none⟩ = some (.int .i64 0) ∧ w.cell? ⟨G, 0, none⟩ = some (.int .i64 19) ∧ w.cell? ⟨G, 1, none⟩ = some (.int .i64 4) ∧ w.cell? ⟨F, 0, none⟩ = some (.int .i64 0) ∧ w.cell? ⟨F, 1, none⟩ = some (.int .i64 0) ∧
    w.cell? ⟨w0.heap.size + 1, 0, none⟩ = some (.string ⟨#[104, 111, 115, 116]⟩) ∧ w.cell? ⟨w0.heap.size + 1, 1, none⟩ = some (.string ⟨#[]⟩) ∧ w.cell? ⟨w0.heap.size, 0, none⟩ = some (.string ⟨#[101, 110, 118]⟩) ∧ w.cell? ⟨w0.heap.size, 1, none⟩ = some (.string ⟨#[112, 114, 111, 100]⟩) ∧ AwS w0 A F G H w :=
  ⟨h.kp.cell (by simp), h.kp.cell (by simp), h.kp.cell (by simp), h.kp.cell (by simp), h.kp.cell (by simp), h.kp.cell (by simp), h.kp.cell (by simp), h.kp.cell (by simp), h.kp.cell (by simp), h.kp.cell (by simp), h⟩
theorem AwS.of {P1 P2 P3 P4 P5 P6 P7 P8 P9 P10 : Prop} (h : P1 ∧ P2 ∧ P3 ∧ P4 ∧ P5 ∧ P6 ∧ P7 ∧ P8 ∧ P9 ∧ P10 ∧ AwS w0 A F G H w) : AwS w0 A F G H w := h.2.2.2.2.2.2.2.2.2.2
end

end Go.Proofs.YtbcmchkgamkceaaGreatDoor

/-
  Layer 6: the document's Parse. No statement of the seat is proved here.
-/
namespace Go.Proofs.YtbcmchkgamkceaaGreatDoor
open Go.RowKit

/-- The tag of a piece, as far as it was looked at from its end on. -/
def cutFrom (p : List UInt8) (m : Nat) : Tg := (p.take m ++ (cutC 58 (p.drop m)).1, (cutC 58 (p.drop m)).2)
theorem cutFrom_end (p : List UInt8) : cutFrom p p.length = (p, []) := by unfold cutFrom; rw [List.take_length, List.drop_length]; simp [cutC]
theorem cutFrom_zero (p : List UInt8) : cutFrom p 0 = cutC 58 p := by unfold cutFrom; simp
theorem cutFrom_yes {p : List UInt8} {k : Nat} (h : k < p.length) (hc : p[k] = 58) : cutFrom p k = (p.take k, p.drop (k + 1)) := by
  unfold cutFrom
  rw [← List.getElem_cons_drop h, cutC, if_pos hc]
  simp
theorem cutFrom_no {p : List UInt8} {k : Nat} (h : k < p.length) (hc : p[k] ≠ 58) : cutFrom p k = cutFrom p (k + 1) := by
  unfold cutFrom
  rw [← List.getElem_cons_drop h, cutC, if_neg hc, show p.take (k + 1) = p.take k ++ [p[k]] by rw [List.take_add_one, List.getElem?_eq_getElem h]; rfl, List.append_assoc]
  rfl

/-- Where the document's Parse stands: the fault lies, the tag lies, and the tags so far are a row of its own. -/
structure RPT (w : World) (v : Value) (n : Nat) (acc : List Tg) (T : Nat) (a b : ByteArray) (w' : World) : Prop where
  ps : PS w v n acc w'
  tag : Box w' T 53 [.string a, .string b]
  ne : w.heap.size < T
  far : v.ownBlock ≠ some T
section
variable {w w1 w2 : World} {v : Value} {n T : Nat} {acc : List Tg} {a b : ByteArray}
theorem RPT.next (h : RPT w v n acc T a b w1) (k : Below w1.heap.size w1 w2) : RPT w v n acc T a b w2 := ⟨h.ps.next k, h.tag.keep k, h.ne, h.far⟩
theorem own_block_lt {w : World} {base size n : Nat} {e : TypeId} {v : Value} {xs : List Value} (h : w.ownsRow base e size v n xs) : ∀ k, v.ownBlock = some k → k < w.heap.size := by
  intro k hk
  rcases h.2 with ⟨rfl, _⟩ | ⟨g, cap, cur, rfl, _, hh, _⟩
  · cases hk
  · injection hk with hk; subst hk; exact own_lt hh
theorem RPT.start (h : PS w v n acc w1) (a b : ByteArray) : RPT w v n acc w1.heap.size a b (w1.alloc (.cells #[.string a, .string b] 53)) :=
  ⟨h.alloc _, Box.new _ _ [_, _], h.res.lt, fun e => by have := own_block_lt h.own _ e; omega⟩
theorem RPT.set (h : RPT w v n acc T a b w1) (c d : ByteArray) : RPT w v n acc T c d ((w1.setCell ⟨T, 0, none⟩ (.string c)).setCell ⟨T, 1, none⟩ (.string d)) := by
  have hb : But T w1 ((w1.setCell ⟨T, 0, none⟩ (.string c)).setCell ⟨T, 1, none⟩ (.string d)) := ((But.refl T w1).set 0 _).set 1 _
  have hne := h.ne
  refine ⟨⟨h.ps.kept.trans (hb.below (by omega) h.ps.kept.size), h.ps.res.but hb (by omega), ?_⟩, (h.tag.set 0 _).set 1 _, h.ne, h.far⟩
  have ho := h.ps.own
  refine ⟨ho.1, ?_⟩
  rcases ho.2 with h2 | ⟨g, cap, cur, e, hg, hh, r⟩
  · exact .inl h2
  · have hg' : g ≠ T := fun e' => h.far (by rw [e]; subst e'; rfl)
    exact .inr ⟨g, cap, cur, e, hg, (hb.block g (own_lt hh) hg').trans hh, r⟩
end

/-- The piece that ends at i, and what comes behind it. -/
theorem piece_at {l : List UInt8} {f i : Nat} (hfi : f ≤ i) (hil : i ≤ l.length) (hno : (44 : UInt8) ∉ (l.drop f).take (i - f)) (hc : ¬ ∃ h : i < l.length, l[i] ≠ 44) :
    ((l.drop f).take (i - f)).length = i - f ∧ ((i = l.length ∧ pieces (l.drop f) = [(l.drop f).take (i - f)]) ∨ (i < l.length ∧ pieces (l.drop f) = (l.drop f).take (i - f) :: pieces (l.drop (i + 1)))) := by
  refine ⟨by rw [List.length_take, List.length_drop]; omega, ?_⟩
  rcases Nat.lt_or_ge i l.length with h | h
  · have hl : l[i] = 44 := by
      by_cases e : l[i] = 44
      · exact e
      · exact absurd ⟨h, e⟩ hc
    have h1 : i - f < (l.drop f).length := by rw [List.length_drop]; omega
    have h2 : (l.drop f)[i - f] = 44 := by rw [List.getElem_drop]; simpa [show f + (i - f) = i by omega] using hl
    have := pieces_at h1 h2 hno
    rw [List.drop_drop, show f + (i - f + 1) = i + 1 by omega] at this
    exact .inr ⟨h, this⟩
  · have e : (l.drop f).take (i - f) = l.drop f := List.take_of_length_le (by rw [List.length_drop]; omega)
    rw [e] at hno ⊢
    exact .inl ⟨by omega, pieces_no hno⟩

set_option maxRecDepth 100000 in
set_option maxHeartbeats 8000000 in
theorem trparse_calls {s : ByteArray} {l : List UInt8} (hs : Str s l) (hz : (s.size : Int) ≤ 100000) (w : World) : Calls Tryz.prog 78 #[.string s] w (ParseP w (parseT l)) := by
  have hn := hs.size
  have HS := Lib.hid hs
  obtain ⟨r, hr⟩ : ∃ r, r = parseT l := ⟨_, rfl⟩
  rw [← hr]
  have HR := Lib.hid (show pgo [] 0 (pieces l) = r from hr.symm)
  have HP0 := Lib.hid (show PS w (.slice (some ⟨w.heap.size + 1, 0, none⟩) 0 0) 0 [] ((w.alloc (.cells #[.int .i64 0, .int .i64 0] 42)).alloc (.cells #[] 53)) from
    ⟨((Below.refl _ _).alloc (Nat.le_refl _) _).alloc (by simp) _, (Box.new w _ [_, _]).alloc _, by have := own_empty (w.alloc (.cells #[.int .i64 0, .int .i64 0] 42)); rwa [size_alloc] at this⟩)
  clear hs hr
  go_enter Tryz.func78, Tryz.ntmps78
  go_wp2_with fail
  go_loopw [4, 5, 6] (fun v4 v5 v6 wr => ∃ (n f i : Nat) (acc : List Tg), v5 = .int .i64 f ∧ v6 = .int .i64 i ∧ n ≤ f ∧ i ≤ l.length + 1 ∧ f ≤ i ∧ Hid (PS w v4 n acc wr ∧ ((i ≤ l.length ∧ (44 : UInt8) ∉ (l.drop f).take (i - f) ∧ pgo acc f (pieces (l.drop f)) = r) ∨ (i = l.length + 1 ∧ r = .inr acc)))) (fun _ _ v6 _ => l.length + 1 - (intOf v6).toNat)
  case atStart => exact ⟨0, 0, 0, [], rfl, rfl, by omega, by omega, by omega, ⟨HP0.out, .inl ⟨by omega, by simp, HR.out⟩⟩⟩
  case round =>
    obtain ⟨n, f, i, acc, rfl, rfl, hnf, hi, hfi, hrel⟩ := hrel
    clear HP0 HR
    by_cases hend : i ≤ l.length
    · have g0 : (i : Int) ≤ (s.size : Int) := by omega
      obtain ⟨hno, hgo⟩ : (44 : UInt8) ∉ (l.drop f).take (i - f) ∧ pgo acc f (pieces (l.drop f)) = r := by
        rcases hrel.out.2 with ⟨_, h1, h2⟩ | ⟨h1, _⟩
        · exact ⟨h1, h2⟩
        · omega
      have HG := Lib.hid (And.intro hno hgo)
      have HPS := Lib.hid hrel.out.1
      clear hno hgo hrel
      by_cases hc : ∃ h : i < l.length, l[i] ≠ 44
      · obtain ⟨hil, hne⟩ := hc
        have g1 : (i : Int) < (s.size : Int) := by omega
        have hidx := HS.out.index (i := (i : Int)) i rfl hil
        obtain ⟨x, hx⟩ : ∃ x : Int, x = (l[i].toNat : Int) := ⟨_, rfl⟩
        rw [← hx] at hidx
        have hx44 : (x == 44) = false := by
          have : x ≠ 44 := fun e => hne (UInt8.toNat_inj.1 (by have : (44 : UInt8).toNat = 44 := rfl; omega))
          simpa using this
        have HNO := Lib.hid (show (44 : UInt8) ∉ (l.drop f).take (i + 1 - f) by
          have hd : i - f < (l.drop f).length := by rw [List.length_drop]; omega
          rw [show i + 1 - f = i - f + 1 by omega, List.take_add_one, List.getElem?_eq_getElem hd]
          simp only [Option.toList_some, List.mem_append, List.mem_singleton, not_or]
          refine ⟨HG.out.1, fun e => hne ?_⟩
          rw [e, List.getElem_drop]
          simp [show f + (i - f) = i by omega])
        clear hx hne
        go_wp2_with fail
        refine ⟨⟨n, f, i + 1, acc, rfl, by go_num, by omega, by omega, by omega, ⟨HPS.out, .inl ⟨by omega, HNO.out, HG.out.2⟩⟩⟩, by simp [intOf]; omega⟩
      · obtain ⟨hpl, hps⟩ := piece_at hfi hend HG.out.1 hc
        have hcond : (¬ (i : Int) < (s.size : Int)) ∨ ((i : Int) < (s.size : Int) ∧ ∀ W, (Instr.index 9 (.string s) (.int .i64 (i : Int))).run Tryz.prog W = .ok (.int .u8 44) W) := by
          rcases Nat.lt_or_ge i l.length with h | h
          · refine .inr ⟨by omega, ?_⟩
            have e : l[i] = 44 := by
              by_cases e : l[i] = 44
              · exact e
              · exact absurd ⟨h, e⟩ hc
            have := HS.out.index (i := (i : Int)) i rfl h
            rw [e] at this
            exact this
          · exact .inl (by omega)
        obtain ⟨p, hp, kp⟩ := HS.out.part (ki := .i64) (kj := .i64) (i := (f : Int)) (j := (i : Int)) f i rfl rfl hfi hend
        have hpz := hp.size
        obtain ⟨pc, hpc⟩ : ∃ pc, pc = (l.drop f).take (i - f) := ⟨_, rfl⟩
        rw [← hpc] at hp hpz hpl hps
        have HP := Lib.hid (And.intro hp hps)
        have HG2 := Lib.hid HG.out.2
        clear hp hps hpc hc HG
        have HT0 := Lib.hid (RPT.start HPS.out p ⟨#[]⟩)
        rcases hcond with g1 | ⟨g1, hidx⟩
        all_goals
          go_wp2_with fail
        all_goals
          obtain ⟨wo, hwo⟩ : ∃ wo, wo = wr := ⟨_, rfl⟩
          subst hwo
          go_loopw [9] (fun v9 wr => ∃ (m : Nat) (z : Int) (a b : ByteArray), v9 = .int .i64 z ∧ z + 1 = m ∧ m ≤ pc.length ∧ Hid (RPT w u4 n acc wo.heap.size a b wr ∧ Str a (cutFrom pc m).1 ∧ Str b (cutFrom pc m).2)) (fun v9 _ => ((intOf v9) + 1).toNat)
        case atStart =>
          exact ⟨pc.length, (pc.length : Int) - 1, p, ⟨#[]⟩, by rw [hpl], by omega, by omega, ⟨HT0.out, by rw [cutFrom_end]; exact HP.out.1, by rw [cutFrom_end]; rfl⟩⟩
        case atStart =>
          exact ⟨pc.length, (pc.length : Int) - 1, p, ⟨#[]⟩, by rw [hpl], by omega, by omega, ⟨HT0.out, by rw [cutFrom_end]; exact HP.out.1, by rw [cutFrom_end]; rfl⟩⟩
        case round =>
          obtain ⟨m, z, a, b, rfl, hzm, hm, hrel⟩ := hrel
          clear HT0
          rcases m with _ | k
          · obtain rfl : (-1 : Int) = z := by omega
            obtain ⟨hrp, ha, hb⟩ := hrel.out
            rw [cutFrom_zero] at ha hb
            have haz := ha.size
            have hbz := hb.size
            have hcl := cut_len 58 pc
            have HRI := Lib.hid (right_calls ha hb (by omega) (by omega))
            have HON := Lib.hid (rOne_calls ha hb (by omega) (by omega))
            have HAB := Lib.hid (And.intro ha hb)
            have HRP := Lib.hid hrp
            have hne := hrp.ne
            clear ha hb haz hbz hcl hzm hm hrel hrp
            have c0 : wr.cell? ⟨wo.heap.size, 0, none⟩ = some (.string a) := HRP.out.tag.cell 0
            have c1 : wr.cell? ⟨wo.heap.size, 1, none⟩ = some (.string b) := HRP.out.tag.cell 1
            go_wp2_with fail
            refine (HRI.out _).mono ?_
            rintro e w1 ⟨rfl, hb1⟩
            have HR1 := Lib.hid (HRP.out.next hb1)
            clear hb1 HRP HRI c0 c1
            by_cases hr : rightT (cutC 58 pc) = true
            · rw [hr]
              have c0 : w1.cell? ⟨wo.heap.size, 0, none⟩ = some (.string a) := HR1.out.tag.cell 0
              have c1 : w1.cell? ⟨wo.heap.size, 1, none⟩ = some (.string b) := HR1.out.tag.cell 1
              go_wp2_with fail
              refine (HON.out _).mono ?_
              rintro e w2 ⟨⟨o, rfl, ho⟩, hb2⟩
              have HR2 := Lib.hid (HR1.out.next hb2)
              have he := str_eq ho HP.out.1
              clear hb2 HR1 HON c0 c1
              by_cases ht : txt (cutC 58 pc) = pc
              · have HO := Lib.hid (right_eq hr ht)
                rw [ht, beq_self_eq_true] at he
                clear ht ho hr
                have HN := Lib.hid (show (i + 1 ≤ l.length ∧ (44 : UInt8) ∉ (l.drop (i + 1)).take (i + 1 - (i + 1)) ∧ pgo (acc ++ [cutC 58 pc]) (i + 1) (pieces (l.drop (i + 1))) = r) ∨ (i + 1 = l.length + 1 ∧ r = .inr (acc ++ [cutC 58 pc])) by
                  rcases HP.out.2 with ⟨h, e⟩ | ⟨h, e⟩
                  · exact .inr ⟨by omega, by rw [← HG2.out, e, pgo_ok HO.out, pgo_nil]⟩
                  · exact .inl ⟨by omega, by simp, by rw [← HG2.out, e, pgo_ok HO.out, hpl, show f + (i - f) + 1 = i + 1 by omega]⟩)
                have c0 : w2.cell? ⟨wo.heap.size, 0, none⟩ = some (.string a) := HR2.out.tag.cell 0
                have c1 : w2.cell? ⟨wo.heap.size, 1, none⟩ = some (.string b) := HR2.out.tag.cell 1
                have hlt := HR2.out.ps.res.lt
                go_wp2_with (first | (at_builtin; refine wpList_append_tags _ rfl _ _ rfl (w.heap.size + 1) u4 n acc rfl (HR2.out.ps.alloc _).own (some ⟨w2.heap.size, 0, none⟩) 1 1 [cutC 58 pc] rfl rfl (tags_at _ rfl HAB.out.1 HAB.out.2) (by omega) (by rw [size_alloc]; omega) ?_; intro v5 w5 hown5 hgr5 hob5; have HP5 := Lib.hid ((HR2.out.ps.alloc _).push hgr5 hown5); clear hown5 hgr5 hob5))
                refine ⟨⟨n + 1, i + 1, i + 1, acc ++ [cutC 58 pc], by go_num, by go_num, by omega, by omega, by omega, ⟨HP5.out, HN.out⟩⟩, by simp [intOf]; omega⟩
              · have HO := Lib.hid (right_ne (p := pc) (fun h => ht h.2))
                have he' : (o.toList == p.toList) = false := by rw [he]; simpa using ht
                clear ht ho hr he
                have HRB := Lib.hid (show r = .inl f by
                  rw [← HG2.out]
                  rcases HP.out.2 with ⟨_, e⟩ | ⟨_, e⟩ <;> rw [e, pgo_bad HO.out])
                have d0 : w2.cell? ⟨w.heap.size, 0, none⟩ = some (.int .i64 0) := HR2.out.ps.res.cell 0
                have d1 : w2.cell? ⟨w.heap.size, 1, none⟩ = some (.int .i64 0) := HR2.out.ps.res.cell 1
                have e0 := HR2.out.ps.res.frozen 0
                have e1 := HR2.out.ps.res.frozen 1
                go_wp2_with fail
                (try simp only [Exit.inBlock, Exit.then])
                refine ret_vf rfl rfl rfl rfl ((HR2.out.ps.res.set 0 (.int .i64 19)).set 1 (.int .i64 f)) ?_
                rw [HRB.out]
                exact ⟨(HR2.out.ps.kept.setCell (p := ⟨w.heap.size, 0, none⟩) (Nat.le_refl _) _).setCell (p := ⟨w.heap.size, 1, none⟩) (Nat.le_refl _) _, rfl⟩
            · have HO := Lib.hid (right_ne (p := pc) (fun h => hr h.1))
              have hr' : rightT (cutC 58 pc) = false := by simpa using hr
              rw [hr']
              clear hr hr'
              have HRB := Lib.hid (show r = .inl f by
                rw [← HG2.out]
                rcases HP.out.2 with ⟨_, e⟩ | ⟨_, e⟩ <;> rw [e, pgo_bad HO.out])
              have d0 : w1.cell? ⟨w.heap.size, 0, none⟩ = some (.int .i64 0) := HR1.out.ps.res.cell 0
              have d1 : w1.cell? ⟨w.heap.size, 1, none⟩ = some (.int .i64 0) := HR1.out.ps.res.cell 1
              have e0 := HR1.out.ps.res.frozen 0
              have e1 := HR1.out.ps.res.frozen 1
              go_wp2_with fail
              (try simp only [Exit.inBlock, Exit.then])
              refine ret_vf rfl rfl rfl rfl ((HR1.out.ps.res.set 0 (.int .i64 19)).set 1 (.int .i64 f)) ?_
              rw [HRB.out]
              exact ⟨(HR1.out.ps.kept.setCell (p := ⟨w.heap.size, 0, none⟩) (Nat.le_refl _) _).setCell (p := ⟨w.heap.size, 1, none⟩) (Nat.le_refl _) _, rfl⟩
          · obtain rfl : (k : Int) = z := by omega
            have lk : k < pc.length := by omega
            clear hzm hm
            have g3 : (0 : Int) ≤ (k : Int) := by omega
            have hix := HP.out.1.index (i := (k : Int)) k rfl lk
            have hne := hrel.out.1.ne
            by_cases h58 : pc[k] = 58
            · rw [h58] at hix
              have hix' : ∀ W, (Instr.index 9 (.string p) (.int .i64 (k : Int))).run Tryz.prog W = .ok (.int .u8 58) W := hix
              obtain ⟨x, hx, kx⟩ := HP.out.1.to_ (j := (k : Int)) k rfl (by omega)
              obtain ⟨y, hy, ky⟩ := HP.out.1.from_ (i := (k : Int) + 1) (k + 1) (by omega) (by omega)
              have HE := Lib.hid (show Str x (cutFrom pc k).1 ∧ Str y (cutFrom pc k).2 by rw [cutFrom_yes lk h58]; exact ⟨hx, hy⟩)
              have c0 : wr.cell? ⟨wo.heap.size, 0, none⟩ = some (.string a) := hrel.out.1.tag.cell 0
              have c1 : wr.cell? ⟨wo.heap.size, 1, none⟩ = some (.string b) := hrel.out.1.tag.cell 1
              have f0 := hrel.out.1.tag.frozen 0
              have f1 := hrel.out.1.tag.frozen 1
              clear hx hy h58 hix
              have c0' : wr.drew.cell? ⟨wo.heap.size, 0, none⟩ = some (.string a) := c0
              have c1' : wr.drew.cell? ⟨wo.heap.size, 1, none⟩ = some (.string b) := c1
              have f0' : wr.drew.frozen? ⟨wo.heap.size, 0, none⟩ = false := f0
              have f1' : wr.drew.frozen? ⟨wo.heap.size, 1, none⟩ = false := f1
              have hw1 : IntKind.i64.wrap ((k : Int) + 1) = (k : Int) + 1 := by rw [IntKind.wrap_i64]; omega
              go_wp2_with fail
              go_region_held3 (fun w' => True) (trivial) (fail)
              all_goals
                go_wp2_with fail
                refine ⟨⟨k, (k : Int) - 1, x, y, by go_num, by omega, by omega, ⟨(hrel.out.1.set x y).next (Same.below (Same.drewN _ 1)), HE.out⟩⟩, by simp [intOf]⟩
            · have HE := Lib.hid (cutFrom_no lk h58)
              obtain ⟨x, hx⟩ : ∃ x : Int, x = (pc[k].toNat : Int) := ⟨_, rfl⟩
              rw [← hx] at hix
              have hx58 : (x == 58) = false := by
                have : x ≠ 58 := fun e => h58 (UInt8.toNat_inj.1 (by have : (58 : UInt8).toNat = 58 := rfl; omega))
                simpa using this
              clear hx h58
              go_wp2_with fail
              refine ⟨⟨k, (k : Int) - 1, a, b, by go_num, by omega, by omega, ⟨hrel.out.1, by rw [HE.out]; exact hrel.out.2.1, by rw [HE.out]; exact hrel.out.2.2⟩⟩, by simp [intOf]⟩
        case round =>
          obtain ⟨m, z, a, b, rfl, hzm, hm, hrel⟩ := hrel
          clear HT0
          rcases m with _ | k
          · obtain rfl : (-1 : Int) = z := by omega
            obtain ⟨hrp, ha, hb⟩ := hrel.out
            rw [cutFrom_zero] at ha hb
            have haz := ha.size
            have hbz := hb.size
            have hcl := cut_len 58 pc
            have HRI := Lib.hid (right_calls ha hb (by omega) (by omega))
            have HON := Lib.hid (rOne_calls ha hb (by omega) (by omega))
            have HAB := Lib.hid (And.intro ha hb)
            have HRP := Lib.hid hrp
            have hne := hrp.ne
            clear ha hb haz hbz hcl hzm hm hrel hrp
            have c0 : wr.cell? ⟨wo.heap.size, 0, none⟩ = some (.string a) := HRP.out.tag.cell 0
            have c1 : wr.cell? ⟨wo.heap.size, 1, none⟩ = some (.string b) := HRP.out.tag.cell 1
            go_wp2_with fail
            refine (HRI.out _).mono ?_
            rintro e w1 ⟨rfl, hb1⟩
            have HR1 := Lib.hid (HRP.out.next hb1)
            clear hb1 HRP HRI c0 c1
            by_cases hr : rightT (cutC 58 pc) = true
            · rw [hr]
              have c0 : w1.cell? ⟨wo.heap.size, 0, none⟩ = some (.string a) := HR1.out.tag.cell 0
              have c1 : w1.cell? ⟨wo.heap.size, 1, none⟩ = some (.string b) := HR1.out.tag.cell 1
              go_wp2_with fail
              refine (HON.out _).mono ?_
              rintro e w2 ⟨⟨o, rfl, ho⟩, hb2⟩
              have HR2 := Lib.hid (HR1.out.next hb2)
              have he := str_eq ho HP.out.1
              clear hb2 HR1 HON c0 c1
              by_cases ht : txt (cutC 58 pc) = pc
              · have HO := Lib.hid (right_eq hr ht)
                rw [ht, beq_self_eq_true] at he
                clear ht ho hr
                have HN := Lib.hid (show (i + 1 ≤ l.length ∧ (44 : UInt8) ∉ (l.drop (i + 1)).take (i + 1 - (i + 1)) ∧ pgo (acc ++ [cutC 58 pc]) (i + 1) (pieces (l.drop (i + 1))) = r) ∨ (i + 1 = l.length + 1 ∧ r = .inr (acc ++ [cutC 58 pc])) by
                  rcases HP.out.2 with ⟨h, e⟩ | ⟨h, e⟩
                  · exact .inr ⟨by omega, by rw [← HG2.out, e, pgo_ok HO.out, pgo_nil]⟩
                  · exact .inl ⟨by omega, by simp, by rw [← HG2.out, e, pgo_ok HO.out, hpl, show f + (i - f) + 1 = i + 1 by omega]⟩)
                have c0 : w2.cell? ⟨wo.heap.size, 0, none⟩ = some (.string a) := HR2.out.tag.cell 0
                have c1 : w2.cell? ⟨wo.heap.size, 1, none⟩ = some (.string b) := HR2.out.tag.cell 1
                have hlt := HR2.out.ps.res.lt
                go_wp2_with (first | (at_builtin; refine wpList_append_tags _ rfl _ _ rfl (w.heap.size + 1) u4 n acc rfl (HR2.out.ps.alloc _).own (some ⟨w2.heap.size, 0, none⟩) 1 1 [cutC 58 pc] rfl rfl (tags_at _ rfl HAB.out.1 HAB.out.2) (by omega) (by rw [size_alloc]; omega) ?_; intro v5 w5 hown5 hgr5 hob5; have HP5 := Lib.hid ((HR2.out.ps.alloc _).push hgr5 hown5); clear hown5 hgr5 hob5))
                refine ⟨⟨n + 1, i + 1, i + 1, acc ++ [cutC 58 pc], by go_num, by go_num, by omega, by omega, by omega, ⟨HP5.out, HN.out⟩⟩, by simp [intOf]; omega⟩
              · have HO := Lib.hid (right_ne (p := pc) (fun h => ht h.2))
                have he' : (o.toList == p.toList) = false := by rw [he]; simpa using ht
                clear ht ho hr he
                have HRB := Lib.hid (show r = .inl f by
                  rw [← HG2.out]
                  rcases HP.out.2 with ⟨_, e⟩ | ⟨_, e⟩ <;> rw [e, pgo_bad HO.out])
                have d0 : w2.cell? ⟨w.heap.size, 0, none⟩ = some (.int .i64 0) := HR2.out.ps.res.cell 0
                have d1 : w2.cell? ⟨w.heap.size, 1, none⟩ = some (.int .i64 0) := HR2.out.ps.res.cell 1
                have e0 := HR2.out.ps.res.frozen 0
                have e1 := HR2.out.ps.res.frozen 1
                go_wp2_with fail
                (try simp only [Exit.inBlock, Exit.then])
                refine ret_vf rfl rfl rfl rfl ((HR2.out.ps.res.set 0 (.int .i64 19)).set 1 (.int .i64 f)) ?_
                rw [HRB.out]
                exact ⟨(HR2.out.ps.kept.setCell (p := ⟨w.heap.size, 0, none⟩) (Nat.le_refl _) _).setCell (p := ⟨w.heap.size, 1, none⟩) (Nat.le_refl _) _, rfl⟩
            · have HO := Lib.hid (right_ne (p := pc) (fun h => hr h.1))
              have hr' : rightT (cutC 58 pc) = false := by simpa using hr
              rw [hr']
              clear hr hr'
              have HRB := Lib.hid (show r = .inl f by
                rw [← HG2.out]
                rcases HP.out.2 with ⟨_, e⟩ | ⟨_, e⟩ <;> rw [e, pgo_bad HO.out])
              have d0 : w1.cell? ⟨w.heap.size, 0, none⟩ = some (.int .i64 0) := HR1.out.ps.res.cell 0
              have d1 : w1.cell? ⟨w.heap.size, 1, none⟩ = some (.int .i64 0) := HR1.out.ps.res.cell 1
              have e0 := HR1.out.ps.res.frozen 0
              have e1 := HR1.out.ps.res.frozen 1
              go_wp2_with fail
              (try simp only [Exit.inBlock, Exit.then])
              refine ret_vf rfl rfl rfl rfl ((HR1.out.ps.res.set 0 (.int .i64 19)).set 1 (.int .i64 f)) ?_
              rw [HRB.out]
              exact ⟨(HR1.out.ps.kept.setCell (p := ⟨w.heap.size, 0, none⟩) (Nat.le_refl _) _).setCell (p := ⟨w.heap.size, 1, none⟩) (Nat.le_refl _) _, rfl⟩
          · obtain rfl : (k : Int) = z := by omega
            have lk : k < pc.length := by omega
            clear hzm hm
            have g3 : (0 : Int) ≤ (k : Int) := by omega
            have hix := HP.out.1.index (i := (k : Int)) k rfl lk
            have hne := hrel.out.1.ne
            by_cases h58 : pc[k] = 58
            · rw [h58] at hix
              have hix' : ∀ W, (Instr.index 9 (.string p) (.int .i64 (k : Int))).run Tryz.prog W = .ok (.int .u8 58) W := hix
              obtain ⟨x, hx, kx⟩ := HP.out.1.to_ (j := (k : Int)) k rfl (by omega)
              obtain ⟨y, hy, ky⟩ := HP.out.1.from_ (i := (k : Int) + 1) (k + 1) (by omega) (by omega)
              have HE := Lib.hid (show Str x (cutFrom pc k).1 ∧ Str y (cutFrom pc k).2 by rw [cutFrom_yes lk h58]; exact ⟨hx, hy⟩)
              have c0 : wr.cell? ⟨wo.heap.size, 0, none⟩ = some (.string a) := hrel.out.1.tag.cell 0
              have c1 : wr.cell? ⟨wo.heap.size, 1, none⟩ = some (.string b) := hrel.out.1.tag.cell 1
              have f0 := hrel.out.1.tag.frozen 0
              have f1 := hrel.out.1.tag.frozen 1
              clear hx hy h58 hix
              have c0' : wr.drew.cell? ⟨wo.heap.size, 0, none⟩ = some (.string a) := c0
              have c1' : wr.drew.cell? ⟨wo.heap.size, 1, none⟩ = some (.string b) := c1
              have f0' : wr.drew.frozen? ⟨wo.heap.size, 0, none⟩ = false := f0
              have f1' : wr.drew.frozen? ⟨wo.heap.size, 1, none⟩ = false := f1
              have hw1 : IntKind.i64.wrap ((k : Int) + 1) = (k : Int) + 1 := by rw [IntKind.wrap_i64]; omega
              go_wp2_with fail
              go_region_held3 (fun w' => True) (trivial) (fail)
              all_goals
                go_wp2_with fail
                refine ⟨⟨k, (k : Int) - 1, x, y, by go_num, by omega, by omega, ⟨(hrel.out.1.set x y).next (Same.below (Same.drewN _ 1)), HE.out⟩⟩, by simp [intOf]⟩
            · have HE := Lib.hid (cutFrom_no lk h58)
              obtain ⟨x, hx⟩ : ∃ x : Int, x = (pc[k].toNat : Int) := ⟨_, rfl⟩
              rw [← hx] at hix
              have hx58 : (x == 58) = false := by
                have : x ≠ 58 := fun e => h58 (UInt8.toNat_inj.1 (by have : (58 : UInt8).toNat = 58 := rfl; omega))
                simpa using this
              clear hx h58
              go_wp2_with fail
              refine ⟨⟨k, (k : Int) - 1, a, b, by go_num, by omega, by omega, ⟨hrel.out.1, by rw [HE.out]; exact hrel.out.2.1, by rw [HE.out]; exact hrel.out.2.2⟩⟩, by simp [intOf]⟩
    · have hie : i = l.length + 1 := by omega
      have g0 : ¬ (i : Int) ≤ (s.size : Int) := by omega
      have HRE := Lib.hid (show r = .inr acc by
        rcases hrel.out.2 with ⟨h, _⟩ | ⟨_, h⟩
        · omega
        · exact h)
      have HPS := Lib.hid hrel.out.1
      clear hrel
      have d0 : wr.cell? ⟨w.heap.size, 0, none⟩ = some (.int .i64 0) := HPS.out.res.cell 0
      have d1 : wr.cell? ⟨w.heap.size, 1, none⟩ = some (.int .i64 0) := HPS.out.res.cell 1
      have e0 := HPS.out.res.frozen 0
      have e1 := HPS.out.res.frozen 1
      clear hie
      go_wp2_with fail
      (try simp only [Exit.inBlock, Exit.then])
      refine ret_vf rfl rfl rfl rfl ((HPS.out.res.set 0 (.int .i64 0)).set 1 (.int .i64 0)) ?_
      rw [HRE.out]
      obtain ⟨A, cap, rfl, h1, h2, _, _⟩ := own_slice HPS.out.own
      have hlen : acc.length = n := by have := HPS.out.own.1; rw [flat_length] at this; omega
      refine ⟨(HPS.out.kept.setCell (p := ⟨w.heap.size, 0, none⟩) (Nat.le_refl _) _).setCell (p := ⟨w.heap.size, 1, none⟩) (Nat.le_refl _) _, A, cap, by rw [hlen]; rfl, ?_, by omega, h2⟩
      have k1 : (wr.setCell ⟨w.heap.size, 0, none⟩ (.int .i64 0)) = wr := HPS.out.res.set_same (i := 0) rfl
      have k2 : (wr.setCell ⟨w.heap.size, 1, none⟩ (.int .i64 0)) = wr := HPS.out.res.set_same (i := 1) rfl
      rw [k1, k2]
      exact Tags.of_own HPS.out.own
end Go.Proofs.YtbcmchkgamkceaaGreatDoor

/-
  Package tag: Text. No statement of the seat is proved here.
-/
namespace Go.Proofs.YtbcmchkgamkceaaGreatDoor
open Go.RowKit

/-- The first tag that is not right. -/
def badT (ts : List Tg) : Option Nat := ts.findIdx? fun t => !rightT t
theorem badT_some {ts : List Tg} {k : Nat} (hk : k < ts.length) (ha : ∀ i (h : i < ts.length), i < k → rightT ts[i] = true) (hb : rightT ts[k] = false) : badT ts = some k :=
  (List.findIdx?_eq_some_iff_getElem (i := k)).mpr ⟨hk, by simp [hb], fun j hj => by simp [ha j (by omega) hj]⟩
theorem badT_none {ts : List Tg} (ha : ∀ i (h : i < ts.length), rightT ts[i] = true) : badT ts = none := by
  refine List.findIdx?_eq_none_iff.mpr fun x hx => ?_
  obtain ⟨i, hi, rfl⟩ := List.mem_iff_getElem.mp hx
  simp [ha i hi]

/-- What Text tells. -/
def TextP (w : World) (ts : List Tg) (e : Ending) (w' : World) : Prop :=
  Below w.heap.size w w' ∧ match badT ts with
    | some k => e = .returned (.tuple #[.string ⟨#[]⟩, .int .i64 k, .int .i64 19])
    | none => ∃ r, e = .returned (.tuple #[.string r, .int .i64 0, .int .i64 0]) ∧ Str r (textT ts)

def strsV (xs : List ByteArray) : List Value := xs.map .string
theorem strsV_one : ∀ {xs : List ByteArray}, ∀ u ∈ strsV xs, u.oneCell' = true := by
  intro xs u hu
  simp only [strsV, List.mem_map] at hu
  obtain ⟨z, _, rfl⟩ := hu
  rfl

section
variable (w : World)
theorem info_str : ∃ i, Tryz.prog.info? 9 = some i ∧ i.zero = some (.string ⟨#[]⟩) ∧ i.size = 1 ∧ i.bytes = 16 := by
  obtain ⟨i, h1, h2, h3, h4⟩ := info_parts (P := Tryz.prog) (e := 9) (z := .string ⟨#[]⟩) (size := 1) (bytes := 16) (by kernel_rfl)
  exact ⟨i, h1, h2, h3, h4⟩
set_option maxRecDepth 100000 in
/-- append(texts, s). -/
theorem wpList_append_str {ops : Array Oper} {rest : List Oper} {o : Oper} {a : Act} {Q : Exit → Act → World → Prop} (hgd : o.guard = none) (s x : Operand)
    (ho : o.op = .call { callee := .builtin .append, args := #[s, x], argTypes := #[28, 28] })
    (base : Nat) (v : Value) (n : Nat) (xs : List ByteArray) (hs : a.eval s = v) (hown : w.ownsRow base 9 1 v n (strsV xs))
    (g : Nat) (c : Nat) (y : ByteArray) (hx : a.eval x = .slice (some ⟨g, 0, none⟩) 1 c) (hv : w.cell? ⟨g, 0, none⟩ = some (.string y))
    (hfit : n + 1 ≤ 1000000) (hbase : base ≤ w.heap.size)
    (h : ∀ v' w', w'.ownsRow base 9 1 v' (n + 1) (strsV (xs ++ [y])) → w.grownBy w' v.ownBlock → wpList Tryz.prog ops Q rest (a.put o.dst v') w') :
    wpList Tryz.prog ops Q (o :: rest) a w := by
  refine wpList_plain hgd fun K hK => ?_
  obtain ⟨i, hi, hz, hs1, hb1⟩ := info_str
  obtain ⟨v', w', hr, h2, h3, _, _⟩ := run_append_own_at (P := Tryz.prog) w base 28 o.type 9 _ (.string ⟨#[]⟩) 1 16 Tryz.underlying28 hi hz hs1 hb1 rfl (by omega) v n (strsV xs) hown ⟨g, 0, none⟩ 1 c (strsV [y]) rfl (by
    intro j u hu
    have hj : j = 0 := by have := (List.getElem?_eq_some_iff.1 hu).1; simp [strsV] at this; omega
    subst hj
    simp [strsV] at hu
    subst hu
    simpa [Addr.add] using hv) strsV_one (by unfold maxLen; omega) (by omega) hbase
  have h2' : w'.ownsRow base 9 1 v' (n + 1) (strsV (xs ++ [y])) := by unfold strsV at h2 ⊢; rw [List.map_append]; exact h2
  unfold Oper.wp execOp
  simp only [ho, resolve, invoke, builtin, Sem.run_bind, Sem.run_pure, Result.andThen_ok, List.map_toArray, List.map_cons, List.map_nil, hs, hx, hr]
  exact hK _ _ (h v' w' h2' h3)
end

/-- Where Text stands. -/
structure TX (w : World) (v : Value) (n : Nat) (xs : List ByteArray) (w' : World) : Prop where
  kept : Below w.heap.size w w'
  own : w'.ownsRow w.heap.size 9 1 v n (strsV xs)
section
variable {w w1 w2 : World} {v : Value} {n : Nat} {xs : List ByteArray}
theorem TX.next (h : TX w v n xs w1) (k : Below w1.heap.size w1 w2) : TX w v n xs w2 := ⟨below_then h.kept k, own_keep h.own k⟩
theorem TX.alloc (h : TX w v n xs w1) (o : Obj) : TX w v n xs (w1.alloc o) := h.next ((Below.refl _ _).alloc (Nat.le_refl _) o)
theorem TX.push (h : TX w v n xs w1) {v' : Value} {n' : Nat} {xs' : List ByteArray} (hg : w1.grownBy w2 v.ownBlock) (ho : w2.ownsRow w.heap.size 9 1 v' n' (strsV xs')) : TX w v' n' xs' w2 := by
  have hB : ∀ k, v.ownBlock = some k → w.heap.size ≤ k := by
    intro k hk
    rcases h.own.2 with ⟨rfl, _⟩ | ⟨g, cap, cur, rfl, hg, _⟩
    · cases hk
    · injection hk with hk; subst hk; exact hg
  exact ⟨h.kept.grown hg h.kept.size hB, ho⟩
end

set_option maxRecDepth 100000 in
set_option maxHeartbeats 8000000 in
theorem text_of_calls {w : World} {A : Option Addr} {n cap : Nat} {ts : List Tg} (hn : ts.length = n) (hA : Tags w A ts) (hz : n ≤ 600) (hlen : ∀ i (hi : i < ts.length), ts[i].1.length ≤ 1000 ∧ ts[i].2.length ≤ 1000) :
    Calls Tryz.prog 27 #[.slice A n cap] w (TextP w ts) := by
  have HA := Lib.hid (And.intro hn (And.intro hA hlen))
  clear hn hA hlen
  obtain ⟨ti, hi, hzz, hs1, hb1⟩ := info_str
  obtain ⟨wm, hmk, hown, hgr⟩ := run_make_own (P := Tryz.prog) w w.heap.size 28 9 ti (.string ⟨#[]⟩) 1 Tryz.underlying28 hi hzz hs1 .i64 .i64 n (by rw [hb1]; omega) (by unfold maxLen; omega) (Nat.le_refl _)
  have HX0 := Lib.hid (show TX w (.slice (some ⟨w.heap.size, 0, none⟩) 0 n) 0 [] wm from ⟨(Below.refl _ _).grown hgr (Nat.le_refl _) (by intro g hg; cases hg), hown⟩)
  clear hi hzz hs1 hb1 hown hgr
  go_enter Tryz.func27, Tryz.ntmps27
  go_wp2_with fail
  clear hmk
  go_loopw [5, 13] (fun v5 v13 wr => ∃ (i : Nat) (xs : List ByteArray), v13 = .int .i64 i ∧ i ≤ n ∧ Hid (TX w v5 i xs wr ∧ xs.map (·.data.toList) = (ts.take i).map txt ∧ ∀ j (h : j < ts.length), j < i → rightT ts[j] = true)) (fun _ v13 _ => n - (intOf v13).toNat)
  case atStart => exact ⟨0, [], rfl, by omega, ⟨HX0.out, rfl, fun j _ hj => absurd hj (by omega)⟩⟩
  case round =>
    obtain ⟨i, xs, rfl, hi, hrel⟩ := hrel
    clear HX0
    by_cases hlt : i < n
    · have g1 : (i : Int) < (n : Int) := by omega
      obtain ⟨hn, hA, hlen⟩ := HA.out
      have li : i < ts.length := by omega
      obtain ⟨b, off, s, u, eA, c0, c1, hs, hu⟩ := (hA.keep hrel.out.1.kept).get li
      have hl := hlen i li
      have hsz := hs.size
      have huz := hu.size
      have HCK := Lib.hid (check_calls hs hu (by omega) (by omega))
      have HTO := Lib.hid (textOf_calls hs hu (by omega) (by omega))
      have HX := Lib.hid (And.intro (hrel.out.1.alloc (.cells #[.string s, .string u] 53)) (Box.new wr 53 [.string s, .string u]))
      have HM := Lib.hid hrel.out.2
      obtain ⟨c, hc⟩ : ∃ c, chkT ts[i] = c := ⟨_, rfl⟩
      rw [hc] at HCK
      have HC := Lib.hid hc
      clear hn hA hlen hs hu hl hsz huz hrel hc
      subst eA
      go_wp2_with fail
      refine (HCK.out _).mono ?_
      rintro e w1 ⟨rfl, hb⟩
      have HX1 := Lib.hid (And.intro (HX.out.1.next hb) (HX.out.2.keep hb))
      clear hb HX HCK c0 c1
      by_cases hr : rightT ts[i] = true
      · obtain rfl : (0 : Int) = c := by rw [← HC.out]; unfold chkT; rw [if_pos hr]
        have HRR := Lib.hid hr
        have c0 : w1.cell? ⟨wr.heap.size, 0, none⟩ = some (.string s) := HX1.out.2.cell 0
        have c1 : w1.cell? ⟨wr.heap.size, 1, none⟩ = some (.string u) := HX1.out.2.cell 1
        clear hr
        go_wp2_with fail
        refine (HTO.out _).mono ?_
        rintro e w2 ⟨⟨r, rfl, hr⟩, hb⟩
        have HX2 := Lib.hid (HX1.out.1.next hb)
        have HRS := Lib.hid hr
        clear hb hr HX1 HTO c0 c1
        go_wp2_with (first | (at_builtin; refine wpList_append_str _ rfl _ _ rfl w.heap.size u5 i xs rfl (HX2.out.alloc _).own w2.heap.size 1 r rfl ((Box.new w2 9 [.string r]).cell 0) (by omega) (HX2.out.alloc _).kept.size ?_; intro v6 w6 hown6 hgr6; have HX6 := Lib.hid ((HX2.out.alloc _).push hgr6 hown6); clear hown6 hgr6))
        refine ⟨⟨i + 1, xs ++ [r], by go_num, by omega, ⟨HX6.out, ?_, ?_⟩⟩, by simp [intOf]; omega⟩
        · rw [List.map_append, HM.out.1, List.take_add_one, List.getElem?_eq_getElem li, Option.toList_some, List.map_append]
          congr 1
          exact congrArg (fun z => [z]) HRS.out
        · intro j h hj
          rcases Nat.lt_or_ge j i with h' | h'
          · exact HM.out.2 j h h'
          · obtain rfl : i = j := by omega
            exact HRR.out
      · obtain rfl : (19 : Int) = c := by rw [← HC.out]; unfold chkT; rw [if_neg hr]
        have HB := Lib.hid (badT_some li HM.out.2 (by simpa using hr))
        clear hr
        go_wp2_with fail
        (try simp only [Exit.inBlock, Exit.then])
        go_ret3
        refine ⟨HX1.out.1.kept, ?_⟩
        rw [HB.out]
        rfl
    · have g1 : ¬ (i : Int) < (n : Int) := by omega
      obtain rfl : n = i := by omega
      have HB := Lib.hid (badT_none (ts := ts) fun j hj => hrel.out.2.2 j hj (by have := HA.out.1; omega))
      have hxl : xs.length = n := by have := hrel.out.1.own.1; simp [strsV] at this; omega
      have hall : ∀ t ∈ ts, rightT t = true := by
        intro t ht
        obtain ⟨j, hj, rfl⟩ := List.mem_iff_getElem.1 ht
        exact hrel.out.2.2 j hj (by have := HA.out.1; omega)
      have hjoin : Lib.join (xs.map (·.data.toList)) [44] = textT ts := by
        rw [hrel.out.2.1, List.take_of_length_le (by have := HA.out.1; omega)]; rfl
      have hjl := textT_len hall (by have := HA.out.1; omega)
      have HJ := Lib.hid (show Calls Tryz.prog 59 #[u5, .string ⟨#[44]⟩] wr fun e w' => (∃ r, e = .returned (.string r) ∧ Str r (textT ts)) ∧ Below wr.heap.size wr w' by
        rcases hrel.out.1.own.2 with ⟨rfl, h0⟩ | ⟨g, cp, cur, rfl, hg, hh, h1, h2, h3, h4⟩
        · refine (Tryz.strings_Join_none none 0 ⟨#[44]⟩ wr).mono fun e w' ⟨he, hw⟩ => ⟨⟨_, he, ?_⟩, by rw [hw]; exact Below.refl _ _⟩
          have : xs = [] := List.eq_nil_of_length_eq_zero (by omega)
          rw [← hjoin, this]
          rfl
        · have hcells : ∀ (j : Nat) x, xs[j]? = some x → wr.cell? ⟨g, 0 + j, none⟩ = some (.string x) := by
            intro j x hx
            have hl := Lies.of_own hrel.out.1.own j (.string x) (by simp [strsV, hx])
            obtain ⟨b, off, e, hc⟩ := hl
            injection e with e
            injection e with e1 e2
            subst e1 e2
            exact hc
          have := Tryz.strings_Join g 0 cp xs ⟨#[44]⟩ wr hcells (own_lt hh) (by omega) (by omega) (by
            show (Lib.join (xs.map (·.data.toList)) [44]).length ≤ 140737488355328
            rw [hjoin]; omega)
          rw [hxl] at this
          exact this.mono fun e w' ⟨he, hw⟩ => ⟨⟨_, he, by
            show Str ⟨(Lib.join (xs.map (·.data.toList)) [44]).toArray⟩ (textT ts)
            rw [hjoin]; exact Str.mk _⟩, hw⟩)
      have HKK := Lib.hid hrel.out.1.kept
      clear hall hjoin hjl hxl hrel
      go_wp2_with fail
      refine HJ.out.mono ?_
      rintro e w1 ⟨⟨r, rfl, hr⟩, hb⟩
      have HE := Lib.hid (And.intro hr (below_then HKK.out hb))
      clear hr hb HJ HKK
      go_wp2_with fail
      go_ret3
      refine ⟨HE.out.2, ?_⟩
      rw [HB.out]
      exact ⟨_, rfl, HE.out.1⟩
end Go.Proofs.YtbcmchkgamkceaaGreatDoor
