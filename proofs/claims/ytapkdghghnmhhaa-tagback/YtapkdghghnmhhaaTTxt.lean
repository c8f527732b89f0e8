/-
  Package tag: Text. No statement of the seat is proved here.
-/
import Derived.Test.YtapkdghghnmhhaaTAwake
import Derived.Laws.MakeOwn
namespace Go.Proofs.Ytapkdghghnmhhaa
open Go.RowKit

/-- The first tag that is not right. -/
def badT (ts : List Tg) : Option Nat := ts.findIdx? fun t => !rightT t
theorem badT_some {ts : List Tg} {k : Nat} (hk : k < ts.length) (ha : ∀ i (h : i < ts.length), i < k → rightT ts[i] = true) (hb : rightT ts[k] = false) : badT ts = some k :=
  (List.findIdx?_eq_some_iff_getElem (i := k)).mpr ⟨hk, by simp [hb], fun j hj => by simp [ha j (by omega) hj]⟩
theorem badT_none {ts : List Tg} (ha : ∀ i (h : i < ts.length), rightT ts[i] = true) : badT ts = none := by
  refine List.findIdx?_eq_none_iff.mpr fun x hx => ?_
  obtain ⟨i, hi, rfl⟩ := List.mem_iff_getElem.mp hx
  simp [ha i hi]

/-- What Text tells. -/
def TextP (w : World) (ts : List Tg) (e : Ending) (w' : World) : Prop :=
  Below w.heap.size w w' ∧ match badT ts with
    | some k => e = .returned (.tuple #[.string ⟨#[]⟩, .int .i64 k, .int .i64 19])
    | none => ∃ r, e = .returned (.tuple #[.string r, .int .i64 0, .int .i64 0]) ∧ Str r (textT ts)

def strsV (xs : List ByteArray) : List Value := xs.map .string
theorem strsV_one : ∀ {xs : List ByteArray}, ∀ u ∈ strsV xs, u.oneCell' = true := by
  intro xs u hu
  simp only [strsV, List.mem_map] at hu
  obtain ⟨z, _, rfl⟩ := hu
  rfl

section
variable (w : World)
theorem info_str : ∃ i, Try.prog.info? 9 = some i ∧ i.zero = some (.string ⟨#[]⟩) ∧ i.size = 1 ∧ i.bytes = 16 := by
  obtain ⟨i, h1, h2, h3, h4⟩ := info_parts (P := Try.prog) (e := 9) (z := .string ⟨#[]⟩) (size := 1) (bytes := 16) (by kernel_rfl)
  exact ⟨i, h1, h2, h3, h4⟩
set_option maxRecDepth 100000 in
/-- append(texts, s). -/
theorem wpList_append_str {ops : Array Oper} {rest : List Oper} {o : Oper} {a : Act} {Q : Exit → Act → World → Prop} (hgd : o.guard = none) (s x : Operand)
    (ho : o.op = .call { callee := .builtin .append, args := #[s, x], argTypes := #[57, 57] })
    (base : Nat) (v : Value) (n : Nat) (xs : List ByteArray) (hs : a.eval s = v) (hown : w.ownsRow base 9 1 v n (strsV xs))
    (g : Nat) (c : Nat) (y : ByteArray) (hx : a.eval x = .slice (some ⟨g, 0, none⟩) 1 c) (hv : w.cell? ⟨g, 0, none⟩ = some (.string y))
    (hfit : n + 1 ≤ 1000000) (hbase : base ≤ w.heap.size)
    (h : ∀ v' w', w'.ownsRow base 9 1 v' (n + 1) (strsV (xs ++ [y])) → w.grownBy w' v.ownBlock → wpList Try.prog ops Q rest (a.put o.dst v') w') :
    wpList Try.prog ops Q (o :: rest) a w := by
  refine wpList_plain hgd fun K hK => ?_
  obtain ⟨i, hi, hz, hs1, hb1⟩ := info_str
  obtain ⟨v', w', hr, h2, h3, _, _⟩ := run_append_own_at (P := Try.prog) w base 57 o.type 9 _ (.string ⟨#[]⟩) 1 16 Try.underlying57 hi hz hs1 hb1 rfl (by omega) v n (strsV xs) hown ⟨g, 0, none⟩ 1 c (strsV [y]) rfl (by
    intro j u hu
    have hj : j = 0 := by have := (List.getElem?_eq_some_iff.1 hu).1; simp [strsV] at this; omega
    subst hj
    simp [strsV] at hu
    subst hu
    simpa [Addr.add] using hv) strsV_one (by unfold maxLen; omega) (by omega) hbase
  have h2' : w'.ownsRow base 9 1 v' (n + 1) (strsV (xs ++ [y])) := by unfold strsV at h2 ⊢; rw [List.map_append]; exact h2
  unfold Oper.wp execOp
  simp only [ho, resolve, invoke, builtin, Sem.run_bind, Sem.run_pure, Result.andThen_ok, List.map_toArray, List.map_cons, List.map_nil, hs, hx, hr]
  exact hK _ _ (h v' w' h2' h3)
end

/-- Where Text stands. -/
structure TX (w : World) (v : Value) (n : Nat) (xs : List ByteArray) (w' : World) : Prop where
  kept : Below w.heap.size w w'
  own : w'.ownsRow w.heap.size 9 1 v n (strsV xs)
section
variable {w w1 w2 : World} {v : Value} {n : Nat} {xs : List ByteArray}
theorem TX.next (h : TX w v n xs w1) (k : Below w1.heap.size w1 w2) : TX w v n xs w2 := ⟨below_then h.kept k, own_keep h.own k⟩
theorem TX.alloc (h : TX w v n xs w1) (o : Obj) : TX w v n xs (w1.alloc o) := h.next ((Below.refl _ _).alloc (Nat.le_refl _) o)
theorem TX.push (h : TX w v n xs w1) {v' : Value} {n' : Nat} {xs' : List ByteArray} (hg : w1.grownBy w2 v.ownBlock) (ho : w2.ownsRow w.heap.size 9 1 v' n' (strsV xs')) : TX w v' n' xs' w2 := by
  have hB : ∀ k, v.ownBlock = some k → w.heap.size ≤ k := by
    intro k hk
    rcases h.own.2 with ⟨rfl, _⟩ | ⟨g, cap, cur, rfl, hg, _⟩
    · cases hk
    · injection hk with hk; subst hk; exact hg
  exact ⟨h.kept.grown hg h.kept.size hB, ho⟩
end

set_option maxRecDepth 100000 in
set_option maxHeartbeats 8000000 in
theorem text_of_calls {w : World} {A : Option Addr} {n cap : Nat} {ts : List Tg} (hn : ts.length = n) (hA : Tags w A ts) (hz : n ≤ 600) (hlen : ∀ i (hi : i < ts.length), ts[i].1.length ≤ 1000 ∧ ts[i].2.length ≤ 1000) :
    Calls Try.prog 22 #[.slice A n cap] w (TextP w ts) := by
  have HA := Lib.hid (And.intro hn (And.intro hA hlen))
  clear hn hA hlen
  obtain ⟨ti, hi, hzz, hs1, hb1⟩ := info_str
  obtain ⟨wm, hmk, hown, hgr⟩ := run_make_own (P := Try.prog) w w.heap.size 57 9 ti (.string ⟨#[]⟩) 1 Try.underlying57 hi hzz hs1 .i64 .i64 n (by rw [hb1]; omega) (by unfold maxLen; omega) (Nat.le_refl _)
  have HX0 := Lib.hid (show TX w (.slice (some ⟨w.heap.size, 0, none⟩) 0 n) 0 [] wm from ⟨(Below.refl _ _).grown hgr (Nat.le_refl _) (by intro g hg; cases hg), hown⟩)
  clear hi hzz hs1 hb1 hown hgr
  go_enter Try.func22, Try.ntmps22
  go_wp2_with fail
  clear hmk
  go_loopw [5, 13] (fun v5 v13 wr => ∃ (i : Nat) (xs : List ByteArray), v13 = .int .i64 i ∧ i ≤ n ∧ Hid (TX w v5 i xs wr ∧ xs.map (·.data.toList) = (ts.take i).map txt ∧ ∀ j (h : j < ts.length), j < i → rightT ts[j] = true)) (fun _ v13 _ => n - (intOf v13).toNat)
  case atStart => exact ⟨0, [], rfl, by omega, ⟨HX0.out, rfl, fun j _ hj => absurd hj (by omega)⟩⟩
  case round =>
    obtain ⟨i, xs, rfl, hi, hrel⟩ := hrel
    clear HX0
    by_cases hlt : i < n
    · have g1 : (i : Int) < (n : Int) := by omega
      obtain ⟨hn, hA, hlen⟩ := HA.out
      have li : i < ts.length := by omega
      obtain ⟨b, off, s, u, eA, c0, c1, hs, hu⟩ := (hA.keep hrel.out.1.kept).get li
      have hl := hlen i li
      have hsz := hs.size
      have huz := hu.size
      have HCK := Lib.hid (check_calls hs hu (by omega) (by omega))
      have HTO := Lib.hid (textOf_calls hs hu (by omega) (by omega))
      have HX := Lib.hid (And.intro (hrel.out.1.alloc (.cells #[.string s, .string u] 23)) (Box.new wr 23 [.string s, .string u]))
      have HM := Lib.hid hrel.out.2
      obtain ⟨c, hc⟩ : ∃ c, chkT ts[i] = c := ⟨_, rfl⟩
      rw [hc] at HCK
      have HC := Lib.hid hc
      clear hn hA hlen hs hu hl hsz huz hrel hc
      subst eA
      go_wp2_with fail
      refine (HCK.out _).mono ?_
      rintro e w1 ⟨rfl, hb⟩
      have HX1 := Lib.hid (And.intro (HX.out.1.next hb) (HX.out.2.keep hb))
      clear hb HX HCK c0 c1
      by_cases hr : rightT ts[i] = true
      · obtain rfl : (0 : Int) = c := by rw [← HC.out]; unfold chkT; rw [if_pos hr]
        have HRR := Lib.hid hr
        have c0 : w1.cell? ⟨wr.heap.size, 0, none⟩ = some (.string s) := HX1.out.2.cell 0
        have c1 : w1.cell? ⟨wr.heap.size, 1, none⟩ = some (.string u) := HX1.out.2.cell 1
        clear hr
        go_wp2_with fail
        refine (HTO.out _).mono ?_
        rintro e w2 ⟨⟨r, rfl, hr⟩, hb⟩
        have HX2 := Lib.hid (HX1.out.1.next hb)
        have HRS := Lib.hid hr
        clear hb hr HX1 HTO c0 c1
        go_wp2_with (first | (at_builtin; refine wpList_append_str _ rfl _ _ rfl w.heap.size u5 i xs rfl (HX2.out.alloc _).own w2.heap.size 1 r rfl ((Box.new w2 9 [.string r]).cell 0) (by omega) (HX2.out.alloc _).kept.size ?_; intro v6 w6 hown6 hgr6; have HX6 := Lib.hid ((HX2.out.alloc _).push hgr6 hown6); clear hown6 hgr6))
        refine ⟨⟨i + 1, xs ++ [r], by go_num, by omega, ⟨HX6.out, ?_, ?_⟩⟩, by simp [intOf]; omega⟩
        · rw [List.map_append, HM.out.1, List.take_add_one, List.getElem?_eq_getElem li, Option.toList_some, List.map_append]
          congr 1
          exact congrArg (fun z => [z]) HRS.out
        · intro j h hj
          rcases Nat.lt_or_ge j i with h' | h'
          · exact HM.out.2 j h h'
          · obtain rfl : i = j := by omega
            exact HRR.out
      · obtain rfl : (19 : Int) = c := by rw [← HC.out]; unfold chkT; rw [if_neg hr]
        have HB := Lib.hid (badT_some li HM.out.2 (by simpa using hr))
        clear hr
        go_wp2_with fail
        (try simp only [Exit.inBlock, Exit.then])
        go_ret3
        refine ⟨HX1.out.1.kept, ?_⟩
        rw [HB.out]
        rfl
    · have g1 : ¬ (i : Int) < (n : Int) := by omega
      obtain rfl : n = i := by omega
      have HB := Lib.hid (badT_none (ts := ts) fun j hj => hrel.out.2.2 j hj (by have := HA.out.1; omega))
      have hxl : xs.length = n := by have := hrel.out.1.own.1; simp [strsV] at this; omega
      have hall : ∀ t ∈ ts, rightT t = true := by
        intro t ht
        obtain ⟨j, hj, rfl⟩ := List.mem_iff_getElem.1 ht
        exact hrel.out.2.2 j hj (by have := HA.out.1; omega)
      have hjoin : Lib.join (xs.map (·.data.toList)) [44] = textT ts := by
        rw [hrel.out.2.1, List.take_of_length_le (by have := HA.out.1; omega)]; rfl
      have hjl := textT_len hall (by have := HA.out.1; omega)
      have HJ := Lib.hid (show Calls Try.prog 35 #[u5, .string ⟨#[44]⟩] wr fun e w' => (∃ r, e = .returned (.string r) ∧ Str r (textT ts)) ∧ Below wr.heap.size wr w' by
        rcases hrel.out.1.own.2 with ⟨rfl, h0⟩ | ⟨g, cp, cur, rfl, hg, hh, h1, h2, h3, h4⟩
        · refine (Try.strings_Join_none none 0 ⟨#[44]⟩ wr).mono fun e w' ⟨he, hw⟩ => ⟨⟨_, he, ?_⟩, by rw [hw]; exact Below.refl _ _⟩
          have : xs = [] := List.eq_nil_of_length_eq_zero (by omega)
          rw [← hjoin, this]
          rfl
        · have hcells : ∀ (j : Nat) x, xs[j]? = some x → wr.cell? ⟨g, 0 + j, none⟩ = some (.string x) := by
            intro j x hx
            have hl := Lies.of_own hrel.out.1.own j (.string x) (by simp [strsV, hx])
            obtain ⟨b, off, e, hc⟩ := hl
            injection e with e
            injection e with e1 e2
            subst e1 e2
            exact hc
          have := Try.strings_Join g 0 cp xs ⟨#[44]⟩ wr hcells (own_lt hh) (by omega) (by omega) (by
            show (Lib.join (xs.map (·.data.toList)) [44]).length ≤ 140737488355328
            rw [hjoin]; omega)
          rw [hxl] at this
          exact this.mono fun e w' ⟨he, hw⟩ => ⟨⟨_, he, by
            show Str ⟨(Lib.join (xs.map (·.data.toList)) [44]).toArray⟩ (textT ts)
            rw [hjoin]; exact Str.mk _⟩, hw⟩)
      have HKK := Lib.hid hrel.out.1.kept
      clear hall hjoin hjl hxl hrel
      go_wp2_with fail
      refine HJ.out.mono ?_
      rintro e w1 ⟨⟨r, rfl, hr⟩, hb⟩
      have HE := Lib.hid (And.intro hr (below_then HKK.out hb))
      clear hr hb HJ HKK
      go_wp2_with fail
      go_ret3
      refine ⟨HE.out.2, ?_⟩
      rw [HB.out]
      exact ⟨_, rfl, HE.out.1⟩
end Go.Proofs.Ytapkdghghnmhhaa
