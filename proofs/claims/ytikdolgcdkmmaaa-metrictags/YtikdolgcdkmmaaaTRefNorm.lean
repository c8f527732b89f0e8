/-
  Layer 6: the document's Normal. No statement of the seat is proved here.
-/
import Derived.Test.YtikdolgcdkmmaaaTKeep
import Derived.Test.YtikdolgcdkmmaaaTRefLess
namespace Go.Proofs.Ytikdolgcdkmmaaa
open Go.RowKit

theorem own_below {w w' : World} {base size n B : Nat} {e : TypeId} {v : Value} {xs : List Value} (h : w.ownsRow base e size v n xs) (hb : Below B w w') (hv : ∀ k, v.ownBlock = some k → k < B) : w'.ownsRow base e size v n xs := by
  refine ⟨h.1, ?_⟩
  rcases h.2 with h2 | ⟨g, cap, cur, rfl, hg, hh, r⟩
  · exact .inl h2
  · exact .inr ⟨g, cap, cur, rfl, hg, (hb.block g (hv g rfl)).trans hh, r⟩

/-- Where the document's Normal stands: the tags so far, and the tags that come to be. -/
structure RN (w : World) (B : Nat) (vo : Value) (no : Nat) (o : List Tg) (vm : Value) (nm : Nat) (more : List Tg) (w' : World) : Prop where
  kept : Below w.heap.size w w'
  out : w'.ownsRow w.heap.size 33 2 vo no (flat o)
  lim : ∀ k, vo.ownBlock = some k → k < B
  low : w.heap.size ≤ B
  high : B ≤ w'.heap.size
  row : w'.ownsRow B 33 2 vm nm (flat more)
section
variable {w w1 w2 : World} {B no nm : Nat} {vo vm : Value} {o more : List Tg}
theorem RN.next (h : RN w B vo no o vm nm more w1) (k : Below w1.heap.size w1 w2) : RN w B vo no o vm nm more w2 :=
  ⟨below_then h.kept k, own_keep h.out k, h.lim, h.low, Nat.le_trans h.high k.size, own_keep h.row k⟩
theorem RN.alloc (h : RN w B vo no o vm nm more w1) (ob : Obj) : RN w B vo no o vm nm more (w1.alloc ob) := h.next ((Below.refl _ _).alloc (Nat.le_refl _) ob)
theorem RN.drewN (h : RN w B vo no o vm nm more w1) (n : Nat) : RN w B vo no o vm nm more (w1.drewN n) := h.next (Same.below (Same.drewN _ _))
theorem RN.push (h : RN w B vo no o vm nm more w1) {vm' : Value} {nm' : Nat} {more' : List Tg} (hg : w1.grownBy w2 vm.ownBlock) (ho : w2.ownsRow B 33 2 vm' nm' (flat more')) : RN w B vo no o vm' nm' more' w2 := by
  have hB : ∀ k, vm.ownBlock = some k → B ≤ k := by
    intro k hk
    rcases h.row.2 with ⟨rfl, _⟩ | ⟨g, cap, cur, rfl, hg, _⟩
    · cases hk
    · injection hk with hk; subst hk; exact hg
  have hb : Below B w1 w2 := (Below.refl B w1).grown hg h.high hB
  exact ⟨h.kept.trans (hb.mono h.low), own_below h.out hb h.lim, h.lim, h.low, Nat.le_trans h.high hb.size, ho⟩
end

/-- .. and these cells lie so. -/
structure RNS (w : World) (L : List (Addr × Value)) (B : Nat) (vo : Value) (no : Nat) (o : List Tg) (vm : Value) (nm : Nat) (more : List Tg) (w' : World) : Prop where
  cs : Cs w L w'
  rn : RN w B vo no o vm nm more w'
section
variable {w w1 w2 : World} {L : List (Addr × Value)} {B no nm : Nat} {vo vm : Value} {o more : List Tg}
theorem RNS.next (h : RNS w L B vo no o vm nm more w1) (k : Below w1.heap.size w1 w2) : RNS w L B vo no o vm nm more w2 := ⟨h.cs.next k, h.rn.next k⟩
theorem RNS.four {a b c d : Addr} {p q r s : Value} (h : RNS w [(a, p), (b, q), (c, r), (d, s)] B vo no o vm nm more w1) : w1.cell? a = some p ∧ w1.cell? b = some q ∧ w1.cell? c = some r ∧ w1.cell? d = some s ∧ RNS w [(a, p), (b, q), (c, r), (d, s)] B vo no o vm nm more w1 := by
  obtain ⟨h1, h2, h3, h4, _⟩ := h.cs.four
  exact ⟨h1, h2, h3, h4, h⟩
theorem RNS.of {P1 P2 P3 P4 : Prop} (h : P1 ∧ P2 ∧ P3 ∧ P4 ∧ RNS w L B vo no o vm nm more w1) : RNS w L B vo no o vm nm more w1 := h.2.2.2.2
end

/-- How far the insertion is. -/
def InsAt (t : Tg) (o : List Tg) (put : Bool) (more : List Tg) (k : Nat) : Prop :=
  (put = false ∧ more = o.take k ∧ o.take k ++ ins t (o.drop k) = ins t o) ∨ (put = true ∧ more ++ o.drop k = ins t o)
section
variable {t : Tg} {o more : List Tg} {k : Nat}
theorem InsAt.start : InsAt t o false [] 0 := .inl ⟨rfl, rfl, rfl⟩
theorem take_one {α : Type} {l : List α} {k : Nat} (h : k < l.length) : l.take (k + 1) = l.take k ++ [l[k]] := by rw [List.take_add_one, List.getElem?_eq_getElem h]; rfl
theorem InsAt.less (h : InsAt t o false more k) (hk : k < o.length) (hl : ltT o[k] t = true) : InsAt t o false (more ++ [o[k]]) (k + 1) := by
  rcases h with ⟨_, rfl, h⟩ | ⟨h, _⟩
  · refine .inl ⟨rfl, (take_one hk).symm, ?_⟩
    rw [← h, take_one hk, ← List.getElem_cons_drop hk, ins, if_pos hl, List.append_assoc]
    rfl
  · cases h
theorem InsAt.same (h : InsAt t o false more k) (hk : k < o.length) (hl : ltT o[k] t = false) (he : o[k] = t) : InsAt t o true (more ++ [o[k]]) (k + 1) := by
  rcases h with ⟨_, rfl, h⟩ | ⟨h, _⟩
  · refine .inr ⟨rfl, ?_⟩
    rw [← h, ← List.getElem_cons_drop hk, ins, if_neg (by rw [hl]; simp), if_pos he, List.append_assoc]
    rfl
  · cases h
theorem InsAt.both (h : InsAt t o false more k) (hk : k < o.length) (hl : ltT o[k] t = false) (he : o[k] ≠ t) : InsAt t o true (more ++ [t] ++ [o[k]]) (k + 1) := by
  rcases h with ⟨_, rfl, h⟩ | ⟨h, _⟩
  · refine .inr ⟨rfl, ?_⟩
    rw [← h, ← List.getElem_cons_drop hk, ins, if_neg (by rw [hl]; simp), if_neg he, List.append_assoc, List.append_assoc]
    rfl
  · cases h
theorem InsAt.go (h : InsAt t o true more k) (hk : k < o.length) : InsAt t o true (more ++ [o[k]]) (k + 1) := by
  rcases h with ⟨h, _⟩ | ⟨_, h⟩
  · cases h
  · refine .inr ⟨rfl, ?_⟩
    rw [← h, ← List.getElem_cons_drop hk, List.append_assoc]
    rfl
theorem InsAt.end_ (h : InsAt t o false more k) (hk : k = o.length) : more ++ [t] = ins t o := by
  subst hk
  rcases h with ⟨_, rfl, h⟩ | ⟨h, _⟩
  · rw [← h, List.drop_length]; rfl
  · cases h
theorem InsAt.end' (h : InsAt t o true more k) (hk : k = o.length) : more = ins t o := by
  subst hk
  rcases h with ⟨h, _⟩ | ⟨_, h⟩
  · cases h
  · rw [← h, List.drop_length, List.append_nil]
end

set_option maxRecDepth 100000 in
set_option maxHeartbeats 8000000 in
theorem rnormal_fresh {w : World} {A : Option Addr} {n cap : Nat} {ts : List Tg} (hn : ts.length = n) (hA : Tags w A ts) (hz : n ≤ 200) (hlen : ∀ i (hi : i < ts.length), ts[i].1.length ≤ 1000 ∧ ts[i].2.length ≤ 1000) :
    Calls Try.prog 54 #[.slice A n cap] w (NormF w (norm ts)) := by
  have HA := Lib.hid (And.intro hn (And.intro hA hlen))
  have hg := tguard
  clear hn hA hlen
  have HO := Lib.hid (own_empty w)
  go_enter Try.func54, Try.ntmps54
  go_wp2_with fail
  go_loopw [3, 4] (fun v3 v4 wr => ∃ (i no : Nat), v4 = .int .i64 i ∧ i ≤ n ∧ no ≤ i ∧ Hid (Below w.heap.size w wr ∧ wr.ownsRow w.heap.size 33 2 v3 no (flat (norm (ts.take i))))) (fun _ v4 _ => n - (intOf v4).toNat)
  case atStart => exact ⟨0, 0, rfl, by omega, by omega, ⟨(Below.refl _ _).alloc (Nat.le_refl _) _, HO.out⟩⟩
  case round =>
    obtain ⟨i, no, rfl, hi, hno, hrel⟩ := hrel
    clear HO
    by_cases hlt : i < n
    · have g1 : (i : Int) < (n : Int) := by omega
      obtain ⟨Ao, co, rfl, hnc, hcm, hx1, hx2⟩ := own_slice hrel.out.2
      clear hnc hcm hx1 hx2
      obtain ⟨o, ho⟩ : ∃ o, o = norm (ts.take i) := ⟨_, rfl⟩
      have hol : o.length = no := by have := hrel.out.2.1; rw [← ho, flat_length] at this; omega
      obtain ⟨hn, hA, hlen⟩ := HA.out
      have li : i < ts.length := by omega
      obtain ⟨t, ht⟩ : ∃ t, t = ts[i] := ⟨_, rfl⟩
      have hstep : ins t o = norm (ts.take (i + 1)) := by rw [ht, ho, norm_take ts i li]
      obtain ⟨ab, aoff, s, u, eA, hx1, hx2, hs, hu⟩ := hA.get li
      clear hx1 hx2
      rw [← ht] at hs hu
      have hAt : ∀ W, Below w.heap.size w W → W.cell? ⟨ab, aoff + i * 2, none⟩ = some (.string s) ∧ W.cell? ⟨ab, aoff + i * 2 + 1, none⟩ = some (.string u) := by
        intro W hW
        obtain ⟨b', off', e', c0, c1⟩ := (hA.keep hW).at_ li
        rw [eA] at e'
        injection e' with e'
        injection e' with e1 e2
        subst e1 e2
        rw [← ht] at c0 c1
        rw [hs.eq, hu.eq]
        exact ⟨c0, c1⟩
      subst eA
      have hsz := hs.size
      have huz := hu.size
      have hl0 := hlen i li
      rw [← ht] at hl0
      have hlo : ∀ k (hk : k < o.length), o[k].1.length ≤ 1000 ∧ o[k].2.length ≤ 1000 := by
        intro k hk
        have hm : o[k] ∈ ts.take i := mem_norm.1 (ho ▸ List.getElem_mem hk)
        obtain ⟨j, hj, e⟩ := List.mem_iff_getElem.1 (List.mem_of_mem_take hm)
        rw [← e]; exact hlen j hj
      have HC := Lib.hid (And.intro hs (And.intro hu (And.intro hAt (And.intro hstep (And.intro hlo hl0)))))
      have HR0 := Lib.hid (show RN w wr.heap.size (.slice Ao no co) no o (.slice (some ⟨wr.heap.size, 0, none⟩) 0 0) 0 [] (wr.alloc (.cells #[] 33)) from
        ⟨hrel.out.1.alloc hrel.out.1.size _, by rw [ho]; exact own_keep hrel.out.2 ((Below.refl _ _).alloc (Nat.le_refl _) _), by
          intro k hk
          rcases hrel.out.2.2 with ⟨e, _⟩ | ⟨g, cap', cur, e, _, hh, _⟩
          · rw [e] at hk; cases hk
          · rw [e] at hk; injection hk with hk; subst hk; exact own_lt hh, hrel.out.1.size, by simp, own_empty wr⟩)
      clear hs hu hAt hstep hlo hl0 hn hA hlen ho ht
      obtain ⟨wo, hwo⟩ : ∃ wo, wo = wr := ⟨_, rfl⟩
      subst hwo
      clear hrel
      go_wp2_with fail
      go_loopw [5, 6, 7] (fun v5 v6 v7 wr => ∃ (k nm : Nat) (put : Bool) (more : List Tg), v6 = .bool put ∧ v7 = .int .i64 k ∧ k ≤ no ∧ nm ≤ k + 1 ∧ Hid (RN w wo.heap.size (.slice Ao no co) no o v5 nm more wr ∧ InsAt t o put more k)) (fun _ _ v7 _ => no - (intOf v7).toNat)
      case atStart => exact ⟨0, 0, false, [], rfl, rfl, by omega, by omega, ⟨HR0.out, InsAt.start⟩⟩
      case round =>
        obtain ⟨k, nm, put, more, rfl, rfl, hk, hnm, hrel⟩ := hrel
        clear HR0
        by_cases hko : k < no
        · have g2 : (k : Int) < (no : Int) := by omega
          have lk : k < o.length := by omega
          obtain ⟨b, off, s', u', eO, d0, d1, hs', hu'⟩ := (Tags.of_own hrel.out.1.out).get lk
          subst eO
          obtain ⟨c0, c1⟩ := HC.out.2.2.1 wr hrel.out.1.kept
          have hz1 := (HC.out.2.2.2.2.1 k lk)
          have hz2 := HC.out.2.2.2.2.2
          have hsz' := hs'.size
          have huz' := hu'.size
          have hwp : (0 : Int) ≤ (k : Int) := by omega
          have hwi : (0 : Int) ≤ (i : Int) := by omega
          cases put
          · have HL := Lib.hid (rless_calls hs' hu' HC.out.1 HC.out.2.1 (by omega) (by omega) (by omega) (by omega))
            have HSU := Lib.hid (And.intro hs' hu')
            obtain ⟨p, hp⟩ : ∃ p, ltT o[k] t = p := ⟨_, rfl⟩
            rw [hp] at HL
            have HP := Lib.hid hp
            have HL2 := Lib.hid (fun w' (h : RNS w [(⟨b, off + k * 2, none⟩, .string s'), (⟨b, off + k * 2 + 1, none⟩, .string u'), (⟨ab, aoff + i * 2, none⟩, .string s), (⟨ab, aoff + i * 2 + 1, none⟩, .string u)] wo.heap.size (.slice (some ⟨b, off, none⟩) no co) no o u5 nm more w') => (HL.out w').mono fun e w'' (q : _ ∧ _) => And.intro q.1 (h.next q.2))
            have HS := Lib.hid (show RNS w [(⟨b, off + k * 2, none⟩, .string s'), (⟨b, off + k * 2 + 1, none⟩, .string u'), (⟨ab, aoff + i * 2, none⟩, .string s), (⟨ab, aoff + i * 2 + 1, none⟩, .string u)] wo.heap.size (.slice (some ⟨b, off, none⟩) no co) no o u5 nm more wr.drew from RNS.next ⟨Cs.mk4 hrel.out.1.kept d0 d1 c0 c1, hrel.out.1⟩ (Same.below (Same.drewN wr 1)))
            have HI := Lib.hid hrel.out.2
            have hnmk : nm = k := by
              rcases hrel.out.2 with ⟨_, e, _⟩ | ⟨e, _⟩
              · have h1 := hrel.out.1.row.1
                rw [flat_length, e, List.length_take] at h1
                omega
              · cases e
            clear hs' hu' hp hz1 hz2 hsz' huz' HL
            go_wp2_with fail
            clear c0 c1 d0 d1 hrel
            go_region_held3 (fun w' => w'.cell? ⟨b, off + k * 2, none⟩ = some (.string s') ∧ w'.cell? ⟨b, off + k * 2 + 1, none⟩ = some (.string u') ∧ w'.cell? ⟨ab, aoff + i * 2, none⟩ = some (.string s) ∧ w'.cell? ⟨ab, aoff + i * 2 + 1, none⟩ = some (.string u) ∧ RNS w [(⟨b, off + k * 2, none⟩, .string s'), (⟨b, off + k * 2 + 1, none⟩, .string u'), (⟨ab, aoff + i * 2, none⟩, .string s), (⟨ab, aoff + i * 2 + 1, none⟩, .string u)] wo.heap.size (.slice (some ⟨b, off, none⟩) no co) no o u5 nm more w')
              (first | exact RNS.four HS.out | exact RNS.four HB6.out)
              (first | (go_at_call 69; refine (HL2.out _ (RNS.of (by assumption))).mono ?_; rintro e w6 ⟨rfl, hb6⟩; have HB6 := Lib.hid hb6; clear hb6))
            clear HS HL2
            obtain ⟨d0, d1, c0, c1, _⟩ := HB6.out.four
            have HR2 := Lib.hid HB6.out.rn
            clear HB6
            cases p
            · by_cases he : o[k] = t
              · have kq := tne_run HSU.out.1 HSU.out.2 HC.out.1 HC.out.2.1 (decide_eq_true he)
                have HE := Lib.hid (HI.out.same lk HP.out he)
                clear he
                go_wp2_with fail
                go_quiet (fail)
                go_wp2_with (first | (at_builtin; refine wpList_append_tags _ rfl _ _ rfl _ u5 nm more rfl ((HR2.out.drewN _).alloc _).row (some ⟨w6.heap.size, 0, none⟩) 1 1 [o[k]] rfl rfl (tags_at _ rfl HSU.out.1 HSU.out.2) (by omega) (((HR2.out.drewN _)).alloc _).high ?_; intro v8 w8 hown8 hgr8 hob8; have HR8 := Lib.hid (((HR2.out.drewN _).alloc _).push hgr8 hown8); clear hown8 hgr8 hob8))
                refine ⟨⟨k + 1, nm + 1, true, more ++ [o[k]], rfl, by go_num, by omega, by omega, ⟨HR8.out, HE.out⟩⟩, by simp [intOf]; omega⟩
              · have kq := tne_run HSU.out.1 HSU.out.2 HC.out.1 HC.out.2.1 (decide_eq_false he)
                have HE := Lib.hid (HI.out.both lk HP.out he)
                clear he
                go_wp2_with fail
                go_quiet (fail)
                go_wp2_with (first | (at_builtin; refine wpList_append_tags _ rfl _ _ rfl _ u5 nm more rfl ((HR2.out.drewN _).alloc _).row (some ⟨w6.heap.size, 0, none⟩) 1 1 [t] rfl rfl (tags_at _ rfl HC.out.1 HC.out.2.1) (by omega) (((HR2.out.drewN _)).alloc _).high ?_; intro v8 w8 hown8 hgr8 hob8; have HR8 := Lib.hid (((HR2.out.drewN _).alloc _).push hgr8 hown8); clear hown8 hgr8 hob8; have d0 : w8.cell? ⟨b, off + k * 2, none⟩ = some (.string s') := (by rw [HSU.out.1.eq]; exact ((Tags.of_own HR8.out.out).cells lk).1); have d1 : w8.cell? ⟨b, off + k * 2 + 1, none⟩ = some (.string u') := (by rw [HSU.out.2.eq]; exact ((Tags.of_own HR8.out.out).cells lk).2)) | (at_builtin; refine wpList_append_tags _ rfl _ _ rfl _ v8 (nm + 1) (more ++ [t]) rfl (HR8.out.alloc _).row (some ⟨w8.heap.size, 0, none⟩) 1 1 [o[k]] rfl rfl (tags_at _ rfl HSU.out.1 HSU.out.2) (by omega) ((HR8.out).alloc _).high ?_; intro v9 w9 hown8 hgr8 hob8; have HR9 := Lib.hid ((HR8.out.alloc _).push hgr8 hown8); clear hown8 hgr8 hob8))
                refine ⟨⟨k + 1, nm + 1 + 1, true, more ++ [t] ++ [o[k]], rfl, by go_num, by omega, by omega, ⟨HR9.out, HE.out⟩⟩, by simp [intOf]; omega⟩
            · have HE := Lib.hid (HI.out.less lk HP.out)
              go_wp2_with (first | (at_builtin; refine wpList_append_tags _ rfl _ _ rfl _ u5 nm more rfl (HR2.out.alloc _).row (some ⟨w6.heap.size, 0, none⟩) 1 1 [o[k]] rfl rfl (tags_at _ rfl HSU.out.1 HSU.out.2) (by omega) ((HR2.out).alloc _).high ?_; intro v8 w8 hown8 hgr8 hob8; have HR8 := Lib.hid ((HR2.out.alloc _).push hgr8 hown8); clear hown8 hgr8 hob8))
              refine ⟨⟨k + 1, nm + 1, false, more ++ [o[k]], rfl, by go_num, by omega, by omega, ⟨HR8.out, HE.out⟩⟩, by simp [intOf]; omega⟩
          · have HSU := Lib.hid (And.intro hs' hu')
            have HR2 := Lib.hid hrel.out.1
            have HE := Lib.hid (hrel.out.2.go lk)
            clear hs' hu' hz1 hz2 hsz' huz' hrel
            go_wp2_with fail
            go_quiet (fail)
            go_wp2_with (first | (at_builtin; refine wpList_append_tags _ rfl _ _ rfl _ u5 nm more rfl ((HR2.out.drewN _).alloc _).row (some ⟨wr.heap.size, 0, none⟩) 1 1 [o[k]] rfl rfl (tags_at _ rfl HSU.out.1 HSU.out.2) (by omega) (((HR2.out.drewN _)).alloc _).high ?_; intro v8 w8 hown8 hgr8 hob8; have HR8 := Lib.hid (((HR2.out.drewN _).alloc _).push hgr8 hown8); clear hown8 hgr8 hob8))
            refine ⟨⟨k + 1, nm + 1, true, more ++ [o[k]], rfl, by go_num, by omega, by omega, ⟨HR8.out, HE.out⟩⟩, by simp [intOf]; omega⟩
        · have g2 : ¬ (k : Int) < (no : Int) := by omega
          have hke : k = o.length := by omega
          obtain ⟨c0, c1⟩ := HC.out.2.2.1 wr hrel.out.1.kept
          have HR2 := Lib.hid hrel.out.1
          have hwi : (0 : Int) ≤ (i : Int) := by omega
          cases put
          · have HE := Lib.hid (show flat (more ++ [t]) = flat (norm (ts.take (i + 1))) by rw [hrel.out.2.end_ hke, HC.out.2.2.2.1])
            have hnmk : nm = k := by
              rcases hrel.out.2 with ⟨_, e, _⟩ | ⟨e, _⟩
              · have h1 := hrel.out.1.row.1
                rw [flat_length, e, List.length_take] at h1
                omega
              · cases e
            clear hrel
            go_wp2_with (first | (at_builtin; refine wpList_append_tags _ rfl _ _ rfl _ u5 nm more rfl (HR2.out.alloc _).row (some ⟨wr.heap.size, 0, none⟩) 1 1 [t] rfl rfl (tags_at _ rfl HC.out.1 HC.out.2.1) (by omega) (HR2.out.alloc _).high ?_; intro v8 w8 hown8 hgr8 hob8; have HR8 := Lib.hid ((HR2.out.alloc _).push hgr8 hown8); clear hown8 hgr8 hob8))
            refine ⟨⟨i + 1, nm + 1, by go_num, by omega, by omega, ⟨HR8.out.kept, ?_⟩⟩, by simp [intOf]; omega⟩
            rw [← HE.out]
            exact own_base HR8.out.row HR8.out.low
          · have HE := Lib.hid (show flat more = flat (norm (ts.take (i + 1))) by rw [hrel.out.2.end' hke, HC.out.2.2.2.1])
            clear hrel
            go_wp2_with fail
            refine ⟨⟨i + 1, nm, by go_num, by omega, by omega, ⟨HR2.out.kept, ?_⟩⟩, by simp [intOf]; omega⟩
            rw [← HE.out]
            exact own_base HR2.out.row HR2.out.low
    · have g1 : ¬ (i : Int) < (n : Int) := by omega
      obtain ⟨Ao, co, rfl, hx1, hx2, hx3, hx4⟩ := own_slice hrel.out.2
      clear hx1 hx2 hx3 hx4
      go_wp2_with fail
      go_ret
      have e : ts.take i = ts := List.take_of_length_le (by have := HA.out.1; omega)
      have h2 := hrel.out.2
      rw [e] at h2
      have hl : (norm ts).length = no := by have := h2.1; rw [flat_length] at this; omega
      exact ⟨⟨Ao, co, by rw [hl]; rfl, Tags.of_own h2, Fresh.own h2⟩, hrel.out.1⟩
theorem rnormal_calls {w : World} {A : Option Addr} {n cap : Nat} {ts : List Tg} (hn : ts.length = n) (hA : Tags w A ts) (hz : n ≤ 200) (hlen : ∀ i (hi : i < ts.length), ts[i].1.length ≤ 1000 ∧ ts[i].2.length ≤ 1000) :
    Calls Try.prog 54 #[.slice A n cap] w (NormP w (norm ts)) := (rnormal_fresh hn hA hz hlen).mono fun _ _ h => h.p
end Go.Proofs.Ytikdolgcdkmmaaa
