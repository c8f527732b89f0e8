/-
  TParse1, TParse. No statement of the seat is proved here.
-/
import Derived.Test.YtbcmchkgamkceaaGreatDoorTCut
import Derived.Test.YtbcmchkgamkceaaGreatDoorGrTCheck
/-
  Package tag: parseOne. No statement of the seat is proved here.
-/
namespace Go.Proofs.YtbcmchkgamkceaaGreatDoor
open Go.RowKit

/-- What parseOne tells. -/
def OneP (w : World) (l : List UInt8) (e : Ending) (w' : World) : Prop :=
  (∃ k v : ByteArray, e = .returned (.tuple #[.agg #[.string k, .string v], .bool (oneT l).isSome]) ∧ ∀ t, oneT l = some t → Str k t.1 ∧ Str v t.2) ∧ Below w.heap.size w w'

theorem results_cell_tmp {fn : Func} {p u : Tmp} {ty : TypeId} (h : fn.results = #[.cell p ty, .tmp u]) (tmps : Array Value) (w : World) :
    (results fn tmps).run Tryz.prog w = ((asAddr (tmps.getD p undef)).run Tryz.prog w).andThen fun a w1 => ((loadVar ty a).run Tryz.prog w1).andThen fun v w2 => .ok (.tuple #[v, tmps.getD u undef]) w2 := by
  simp only [results, h]
  simp [Sem.run_bind, Result.andThen]
theorem load_tag {w : World} {g : Nat} {x y : Value} (h : Box w g 53 [x, y]) : (loadVar 53 ⟨g, 0, none⟩).run Tryz.prog w = .ok (.agg #[x, y]) w := by
  have c0 : w.cell? ⟨g, 0, none⟩ = some x := h.cell 0
  have c1 : w.cell? ⟨g, 1, none⟩ = some y := h.cell 1
  simp [go_sem, c0, c1]
/-- A tag and something else are returned. -/
theorem ret_tv {fn : Func} {p u : Tmp} (hres : fn.results = #[.cell p 53, .tmp u]) {R : Ending → World → Prop} {a : Act} {w : World} {g : Nat} {x y v : Value} (hp : a.tmps.getD p undef = .pointer (some ⟨g, 0, none⟩)) (hu : a.tmps.getD u undef = v) (hd : a.defers = [])
    (hb : Box w g 53 [x, y]) (hR : R (.returned (.tuple #[.agg #[x, y], v])) w) : bodyPost Tryz.prog fn R .ret a w := by
  refine bodyPost_ret ?_ hd hR
  rw [results_cell_tmp hres, hp, hu, addr_is]
  simp only [Result.andThen]
  rw [load_tag hb]

theorem right_ne {p : List UInt8} (h : ¬ (rightT (cutC 58 p) = true ∧ txt (cutC 58 p) = p)) : oneT p = none := by unfold oneT; rw [if_neg h]
theorem right_eq {p : List UInt8} (h : rightT (cutC 58 p) = true) (k : txt (cutC 58 p) = p) : oneT p = some (cutC 58 p) := by unfold oneT; rw [if_pos ⟨h, k⟩]

/-- Where parseOne stands: what is told lies, and the tag lies. -/
structure PAt (w : World) (T : Nat) (k v : ByteArray) (w' : World) : Prop where
  kept : Below w.heap.size w w'
  res : Box w' w.heap.size 53 [.string ⟨#[]⟩, .string ⟨#[]⟩]
  tag : Box w' T 53 [.string k, .string v]
  ne : w.heap.size < T
theorem PAt.next {w w1 w2 : World} {T : Nat} {k v : ByteArray} (h : PAt w T k v w1) (b : Below w1.heap.size w1 w2) : PAt w T k v w2 := ⟨below_then h.kept b, h.res.keep b, h.tag.keep b, h.ne⟩
theorem PAt.cells {w w1 : World} {T : Nat} {k v : ByteArray} (h : PAt w T k v w1) : w1.cell? ⟨T, 0, none⟩ = some (.string k) ∧ w1.cell? ⟨T, 1, none⟩ = some (.string v) ∧ PAt w T k v w1 := ⟨h.tag.cell 0, h.tag.cell 1, h⟩
theorem PAt.of {w w1 : World} {T : Nat} {k v : ByteArray} {P1 P2 : Prop} (h : P1 ∧ P2 ∧ PAt w T k v w1) : PAt w T k v w1 := h.2.2

set_option maxRecDepth 100000 in
set_option maxHeartbeats 4000000 in
theorem parseOne_calls {s : ByteArray} {l : List UInt8} (hs : Str s l) (hz : (s.size : Int) ≤ 100000) (w : World) : Calls Tryz.prog 116 #[.string s] w (OneP w l) := by
  have hn := hs.size
  have HC := Lib.hid (cut_calls hs (by omega) 58)
  have HS := Lib.hid hs
  clear hs
  have hcl := cut_len 58 l
  go_enter Tryz.func116, Tryz.ntmps116
  go_wp2_with fail
  refine (HC.out _).mono ?_
  rintro e w1 ⟨⟨k, v, rfl, hk, hv⟩, hb⟩
  have b0 := Box.new w 53 [.string ⟨#[]⟩, .string ⟨#[]⟩]
  have hlt : w.heap.size < w1.heap.size := (b0.keep hb).lt
  have HP := Lib.hid (show PAt w w1.heap.size k v (w1.alloc (.cells #[.string k, .string v] 53)) from
    ⟨(Below.trans ((Below.refl w.heap.size w).alloc (Nat.le_refl _) (.cells #[.string ⟨#[]⟩, .string ⟨#[]⟩] 53)) (hb.mono (by simp))).alloc (by omega) _, (b0.keep hb).alloc _, Box.new _ _ [_, _], hlt⟩)
  have hkn := hk.size
  have hvn := hv.size
  have HK := Lib.hid (check_calls hk hv (by omega) (by omega))
  have HT := Lib.hid (textOf_calls hk hv (by omega) (by omega))
  have HKV := Lib.hid (And.intro hk hv)
  generalize decide ((58 : UInt8) ∈ l) = q
  obtain ⟨c, hc⟩ : ∃ c, chkT (cutC 58 l) = c := ⟨_, rfl⟩
  rw [hc] at HK
  have HCH := Lib.hid hc
  clear hk hv hb b0 hlt HC hkn hvn hcl hc
  go_wp2_with fail
  refine (HK.out _).mono ?_
  rintro e w2 ⟨rfl, hb⟩
  have HP2 := Lib.hid (HP.out.next hb)
  clear hb HP HK
  have hne := HP2.out.ne
  by_cases hr : rightT (cutC 58 l) = true
  · obtain rfl : (0 : Int) = c := by rw [← HCH.out]; unfold chkT; rw [if_pos hr]
    have c0 : w2.cell? ⟨w1.heap.size, 0, none⟩ = some (.string k) := HP2.out.tag.cell 0
    have c1 : w2.cell? ⟨w1.heap.size, 1, none⟩ = some (.string v) := HP2.out.tag.cell 1
    have HRR := Lib.hid hr
    clear hr
    go_wp2_with fail
    refine (HT.out _).mono ?_
    rintro e w3 ⟨⟨r, rfl, hr⟩, hb⟩
    have HP3 := Lib.hid (HP2.out.next hb)
    have he := str_eq hr HS.out
    clear hb HP2 HT c0 c1
    have c0 : w3.cell? ⟨w1.heap.size, 0, none⟩ = some (.string k) := HP3.out.tag.cell 0
    have c1 : w3.cell? ⟨w1.heap.size, 1, none⟩ = some (.string v) := HP3.out.tag.cell 1
    have d0 : w3.cell? ⟨w.heap.size, 0, none⟩ = some (.string ⟨#[]⟩) := HP3.out.res.cell 0
    have d1 : w3.cell? ⟨w.heap.size, 1, none⟩ = some (.string ⟨#[]⟩) := HP3.out.res.cell 1
    have f0 := HP3.out.res.frozen 0
    have f1 := HP3.out.res.frozen 1
    by_cases ht : txt (cutC 58 l) = l
    · have HO := Lib.hid (right_eq HRR.out ht)
      rw [ht, beq_self_eq_true] at he
      clear ht hr
      go_wp2_with fail
      refine ret_tv rfl rfl rfl rfl ((HP3.out.res.set 0 (.string k)).set 1 (.string v)) ?_
      exact ⟨⟨k, v, by rw [HO.out]; rfl, fun t ht => by rw [HO.out] at ht; injection ht with ht; subst ht; exact HKV.out⟩, (HP3.out.kept.setCell (p := ⟨w.heap.size, 0, none⟩) (Nat.le_refl _) _).setCell (p := ⟨w.heap.size, 1, none⟩) (Nat.le_refl _) _⟩
    · have HO := Lib.hid (right_ne (p := l) (fun h => ht h.2))
      have he' : (r.toList == s.toList) = false := by rw [he]; simpa using ht
      clear ht hr he
      go_wp2_with fail
      refine ret_tv rfl rfl rfl rfl ((HP3.out.res.set 0 (.string ⟨#[]⟩)).set 1 (.string ⟨#[]⟩)) ?_
      exact ⟨⟨⟨#[]⟩, ⟨#[]⟩, by rw [HO.out]; rfl, fun t ht => by rw [HO.out] at ht; cases ht⟩, (HP3.out.kept.setCell (p := ⟨w.heap.size, 0, none⟩) (Nat.le_refl _) _).setCell (p := ⟨w.heap.size, 1, none⟩) (Nat.le_refl _) _⟩
  · obtain rfl : (19 : Int) = c := by rw [← HCH.out]; unfold chkT; rw [if_neg hr]
    have HO := Lib.hid (right_ne (p := l) (fun h => hr h.1))
    have d0 : w2.cell? ⟨w.heap.size, 0, none⟩ = some (.string ⟨#[]⟩) := HP2.out.res.cell 0
    have d1 : w2.cell? ⟨w.heap.size, 1, none⟩ = some (.string ⟨#[]⟩) := HP2.out.res.cell 1
    have f0 := HP2.out.res.frozen 0
    have f1 := HP2.out.res.frozen 1
    clear hr
    go_wp2_with fail
    refine ret_tv rfl rfl rfl rfl ((HP2.out.res.set 0 (.string ⟨#[]⟩)).set 1 (.string ⟨#[]⟩)) ?_
    exact ⟨⟨⟨#[]⟩, ⟨#[]⟩, by rw [HO.out]; rfl, fun t ht => by rw [HO.out] at ht; cases ht⟩, (HP2.out.kept.setCell (p := ⟨w.heap.size, 0, none⟩) (Nat.le_refl _) _).setCell (p := ⟨w.heap.size, 1, none⟩) (Nat.le_refl _) _⟩
end Go.Proofs.YtbcmchkgamkceaaGreatDoor

/-
  Package tag: Parse. No statement of the seat is proved here.
-/
namespace Go.Proofs.YtbcmchkgamkceaaGreatDoor
open Go.RowKit

/-- What Parse tells. -/
def ParseP (w : World) (r : Nat ⊕ List Tg) (e : Ending) (w' : World) : Prop :=
  Below w.heap.size w w' ∧ match r with
    | .inl k => e = .returned (.tuple #[.slice none 0 0, .agg #[.int .i64 19, .int .i64 k]])
    | .inr ts => ∃ A cap, e = .returned (.tuple #[.slice A ts.length cap, .agg #[.int .i64 0, .int .i64 0]]) ∧ Tags w' A ts ∧ ts.length ≤ cap ∧ cap ≤ maxLen

theorem tresults_tmp_cell {fn : Func} {p u : Tmp} {ty : TypeId} (h : fn.results = #[.tmp u, .cell p ty]) (tmps : Array Value) (w : World) :
    (results fn tmps).run Tryz.prog w = ((asAddr (tmps.getD p undef)).run Tryz.prog w).andThen fun a w1 => ((loadVar ty a).run Tryz.prog w1).andThen fun v w2 => .ok (.tuple #[tmps.getD u undef, v]) w2 := by
  simp only [results, h]
  simp [Sem.run_bind, Result.andThen]
/-- Something and a Fault are returned. -/
theorem ret_vf {fn : Func} {p u : Tmp} (hres : fn.results = #[.tmp u, .cell p 42]) {R : Ending → World → Prop} {a : Act} {w : World} {g : Nat} {x y v : Value} (hp : a.tmps.getD p undef = .pointer (some ⟨g, 0, none⟩)) (hu : a.tmps.getD u undef = v) (hd : a.defers = [])
    (hb : Box w g 42 [x, y]) (hR : R (.returned (.tuple #[v, .agg #[x, y]])) w) : bodyPost Tryz.prog fn R .ret a w := by
  refine bodyPost_ret ?_ hd hR
  rw [tresults_tmp_cell hres, hp, hu, addr_is]
  simp only [Result.andThen]
  rw [load_fault hb]

/-- Where Parse stands: the fault lies, and the tags so far are a row of its own. -/
structure PS (w : World) (v : Value) (n : Nat) (acc : List Tg) (w' : World) : Prop where
  kept : Below w.heap.size w w'
  res : Box w' w.heap.size 42 [.int .i64 0, .int .i64 0]
  own : w'.ownsRow (w.heap.size + 1) 53 2 v n (flat acc)
section
variable {w w1 w2 : World} {v : Value} {n : Nat} {acc : List Tg}
theorem PS.next (h : PS w v n acc w1) (k : Below w1.heap.size w1 w2) : PS w v n acc w2 := ⟨below_then h.kept k, h.res.keep k, own_keep h.own k⟩
theorem PS.push (h : PS w v n acc w1) {v' : Value} {n' : Nat} {acc' : List Tg} (hg : w1.grownBy w2 v.ownBlock) (ho : w2.ownsRow (w.heap.size + 1) 53 2 v' n' (flat acc')) : PS w v' n' acc' w2 := by
  have hlt := h.res.lt
  have hB : ∀ k, v.ownBlock = some k → w.heap.size + 1 ≤ k := by
    intro k hk
    rcases h.own.2 with ⟨rfl, _⟩ | ⟨g, cap, cur, rfl, hg, _⟩
    · cases hk
    · injection hk with hk; subst hk; exact hg
  have hb : Below (w.heap.size + 1) w1 w2 := (Below.refl (w.heap.size + 1) w1).grown hg (by omega) hB
  exact ⟨h.kept.trans (hb.mono (by omega)), h.res.below hb (by omega), ho⟩
theorem PS.alloc (h : PS w v n acc w1) (o : Obj) : PS w v n acc (w1.alloc o) := h.next ((Below.refl _ _).alloc (Nat.le_refl _) o)
end

theorem Box.set_same {w : World} {g : Nat} {t : TypeId} {cs : List Value} {i : Nat} {u : Value} (h : Box w g t cs) (hu : cs[i]? = some u) : w.setCell ⟨g, i, none⟩ u = w := by
  unfold Box at h
  have hlt := Box.lt h
  unfold World.setCell
  congr 1
  apply Array.ext_getElem?
  intro k
  rw [Array.getElem?_modify]
  by_cases hk : g = k
  · subst hk
    rw [if_pos rfl, h]
    simp only [Option.map_some]
    congr 2
    apply Array.ext_getElem?
    intro j
    simp only [Option.isSome_none, Bool.false_eq_true, if_false]
    rw [Array.getElem?_setIfInBounds]
    by_cases hj : i = j
    · subst hj
      obtain ⟨hi, e⟩ := List.getElem?_eq_some_iff.1 hu
      simp [hi, e]
    · rw [if_neg hj]
  · rw [if_neg hk]

set_option maxRecDepth 100000 in
set_option maxHeartbeats 4000000 in
theorem tparse_calls {s : ByteArray} {l : List UInt8} (hs : Str s l) (hz : (s.size : Int) ≤ 100000) (w : World) : Calls Tryz.prog 73 #[.string s] w (ParseP w (parseT l)) := by
  have hn := hs.size
  have HS := Lib.hid hs
  obtain ⟨r, hr⟩ : ∃ r, r = parseT l := ⟨_, rfl⟩
  rw [← hr]
  have HR := Lib.hid (show pgo [] 0 (pieces l) = r from hr.symm)
  have HP0 := Lib.hid (show PS w (.slice none 0 0) 0 [] (w.alloc (.cells #[.int .i64 0, .int .i64 0] 42)) from ⟨(Below.refl _ _).alloc (Nat.le_refl _) _, Box.new w _ [_, _], own_nil _ _⟩)
  clear hs hr
  go_enter Tryz.func73, Tryz.ntmps73
  go_wp2_with fail
  go_loopw [4, 5] (fun v4 v5 wr => ∃ (n k : Nat) (acc : List Tg), v5 = .int .i64 k ∧ k ≤ l.length ∧ n ≤ k ∧ Hid (PS w v4 n acc wr ∧ pgo acc k (pieces (l.drop k)) = r)) (fun _ v5 _ => l.length + 1 - (intOf v5).toNat)
  case atStart => exact ⟨0, 0, [], rfl, by omega, by omega, ⟨HP0.out, HR.out⟩⟩
  case round =>
    obtain ⟨n, k, acc, rfl, hk, hnk, hrel⟩ := hrel
    clear HP0 HR
    obtain ⟨t, ht, kt⟩ := HS.out.from_ (i := (k : Int)) k rfl hk
    have htz := ht.size
    rw [List.length_drop] at htz
    have HC := Lib.hid (cut_calls ht (by omega) 44)
    have HD := Lib.hid ht
    clear ht
    go_wp2_with fail
    refine (HC.out _).mono ?_
    rintro e w1 ⟨⟨p, q, rfl, hp, hq⟩, hb⟩
    have HP1 := Lib.hid (hrel.out.1.next hb)
    have hpz := hp.size
    have hcl := (cut_len 44 (l.drop k)).1
    rw [List.length_drop] at hcl
    have HO := Lib.hid (parseOne_calls hp (by omega))
    have HPP := Lib.hid hp
    have HGO := Lib.hid hrel.out.2
    clear hb hrel HC hp hq kt
    obtain ⟨m, hm⟩ : ∃ m, decide ((44 : UInt8) ∈ l.drop k) = m := ⟨_, rfl⟩
    rw [hm]
    have HM := Lib.hid hm
    clear hm
    go_wp2_with fail
    refine (HO.out _).mono ?_
    rintro e w2 ⟨⟨a, b, rfl, hab⟩, hb⟩
    have HP2 := Lib.hid (HP1.out.next hb)
    clear hb HP1 HO
    rcases ho : oneT (cutC 44 (l.drop k)).1 with _ | tt
    · have HR := Lib.hid (show r = .inl k by
        rw [← HGO.out]
        by_cases h44 : (44 : UInt8) ∈ l.drop k
        · rw [(pieces_yes h44).1, pgo_bad ho]
        · rw [pieces_none h44, pgo_bad ho])
      clear ho hab HGO HM
      have b0 := HP2.out.res.alloc (.cells #[.string a, .string b] 53)
      have c0 := b0.cell 0
      have c1 := b0.cell 1
      simp only [List.getElem?_cons_zero, List.getElem?_cons_succ] at c0 c1
      have f0 := b0.frozen 0
      have f1 := b0.frozen 1
      go_wp2_with fail
      (try simp only [Exit.inBlock, Exit.then])
      refine ret_vf rfl rfl rfl rfl ((b0.set 0 (.int .i64 19)).set 1 (.int .i64 k)) ?_
      rw [HR.out]
      exact ⟨((HP2.out.alloc _).kept.setCell (p := ⟨w.heap.size, 0, none⟩) (Nat.le_refl _) _).setCell (p := ⟨w.heap.size, 1, none⟩) (Nat.le_refl _) _, rfl⟩
    · obtain ⟨ha, hb⟩ := hab tt ho
      have HT := Lib.hid (And.intro ha (And.intro hb ho))
      clear hab ha hb ho
      have hlt := HP2.out.res.lt
      have d0 := (Box.new w2 53 [.string a, .string b]).cell 0
      have d1 := (Box.new w2 53 [.string a, .string b]).cell 1
      simp only [List.getElem?_cons_zero, List.getElem?_cons_succ] at d0 d1
      cases m
      · have HR := Lib.hid (show r = .inr (acc ++ [tt]) by
          rw [← HGO.out, pieces_none (of_decide_eq_false HM.out), pgo_ok HT.out.2.2, pgo_nil])
        go_wp2_with (first | (at_builtin; refine wpList_append_tags _ rfl (.tmp 28) (.tmp 30) rfl (w.heap.size + 1) u4 n acc rfl ((HP2.out.alloc _).alloc _).own (some ⟨w2.heap.size + 1, 0, none⟩) 1 1 [tt] rfl rfl (tags_at _ (size_alloc _ _) HT.out.1 HT.out.2.1) (by omega) (by rw [size_alloc, size_alloc]; omega) ?_; intro v5 w5 hown5 hgr5 hob5; have HP5 := Lib.hid (((HP2.out.alloc _).alloc _).push hgr5 hown5); clear hown5 hgr5 hob5; have c0 : w5.cell? ⟨w.heap.size, 0, none⟩ = some (.int .i64 0) := HP5.out.res.cell 0; have c1 : w5.cell? ⟨w.heap.size, 1, none⟩ = some (.int .i64 0) := HP5.out.res.cell 1; have f0 := HP5.out.res.frozen 0; have f1 := HP5.out.res.frozen 1))
        (try simp only [Exit.inBlock, Exit.then])
        refine ret_vf rfl rfl rfl rfl ((HP5.out.res.set 0 (.int .i64 0)).set 1 (.int .i64 0)) ?_
        rw [HR.out]
        obtain ⟨A, cap, rfl, h1, h2, _, _⟩ := own_slice HP5.out.own
        have hlen : (acc ++ [tt]).length = n + 1 := by have := HP5.out.own.1; rw [flat_length] at this; omega
        refine ⟨(HP5.out.kept.setCell (p := ⟨w.heap.size, 0, none⟩) (Nat.le_refl _) _).setCell (p := ⟨w.heap.size, 1, none⟩) (Nat.le_refl _) _, A, cap, by rw [hlen]; rfl, ?_, by omega, h2⟩
        have e1 : (w5.setCell ⟨w.heap.size, 0, none⟩ (.int .i64 0)) = w5 := HP5.out.res.set_same (i := 0) rfl
        have e2 : (w5.setCell ⟨w.heap.size, 1, none⟩ (.int .i64 0)) = w5 := HP5.out.res.set_same (i := 1) rfl
        rw [e1, e2]
        exact Tags.of_own HP5.out.own
      · have h44 : (44 : UInt8) ∈ l.drop k := of_decide_eq_true HM.out
        obtain ⟨y1, y2, y3⟩ := pieces_yes h44
        rw [List.length_drop] at y3
        have HR := Lib.hid (show pgo (acc ++ [tt]) (k + (cutC 44 (l.drop k)).1.length + 1) (pieces (l.drop (k + (cutC 44 (l.drop k)).1.length + 1))) = r by
          rw [← HGO.out, y1, pgo_ok HT.out.2.2, y2, List.drop_drop, Nat.add_assoc])
        clear h44 y1 y2 HGO
        go_wp2_with (first | (at_builtin; refine wpList_append_tags _ rfl (.tmp 28) (.tmp 30) rfl (w.heap.size + 1) u4 n acc rfl ((HP2.out.alloc _).alloc _).own (some ⟨w2.heap.size + 1, 0, none⟩) 1 1 [tt] rfl rfl (tags_at _ (size_alloc _ _) HT.out.1 HT.out.2.1) (by omega) (by rw [size_alloc, size_alloc]; omega) ?_; intro v5 w5 hown5 hgr5 hob5; have HP5 := Lib.hid (((HP2.out.alloc _).alloc _).push hgr5 hown5); clear hown5 hgr5 hob5))
        refine ⟨⟨n + 1, k + (cutC 44 (l.drop k)).1.length + 1, acc ++ [tt], by go_num, by omega, by omega, ⟨HP5.out, HR.out⟩⟩, by simp [intOf]; omega⟩
end Go.Proofs.YtbcmchkgamkceaaGreatDoor
