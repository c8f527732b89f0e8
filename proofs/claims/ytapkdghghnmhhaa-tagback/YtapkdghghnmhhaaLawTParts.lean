/-
  The walk of TagParts. No statement of the seat is proved here.
-/
import Derived.Test.YtapkdghghnmhhaaTAwake
import Derived.BigFrame
namespace Go.Proofs.Ytapkdghghnmhhaa
open Go.RowKit

/-- An append that is guarded, and wanted. -/
theorem wpList_append_tags_g (w : World) {ops : Array Oper} {rest : List Oper} {o : Oper} {a : Act} {Q : Exit → Act → World → Prop} (hw : Region.wanted o (yielded ops a.tmps) = true) (s x : Operand)
    (ho : o.op = .call { callee := .builtin .append, args := #[s, x], argTypes := #[25, 25] })
    (base : Nat) (v : Value) (n : Nat) (ts : List Tg) (hs : a.eval s = v) (hown : w.ownsRow base 23 2 v n (flat ts))
    (A : Option Addr) (m c : Nat) (us : List Tg) (hx : a.eval x = .slice A m c) (hl : us.length = m) (hv : Tags w A us)
    (hfit : n + m ≤ 1000000) (hbase : base ≤ w.heap.size)
    (h : ∀ v' w', w'.ownsRow base 23 2 v' (n + m) (flat (ts ++ us)) → w.grownBy w' v.ownBlock → (v'.ownBlock = v.ownBlock ∨ v'.ownBlock = some w.heap.size) → wpList Try.prog ops Q rest (a.put o.dst v') w') :
    wpList Try.prog ops Q (o :: rest) a w := by
  refine BigFrame.wpList_want hw fun K hK => ?_
  obtain ⟨v', w', hr, h2, h3, h4⟩ := run_append_tags w base o.type v n ts hown A m c us hl hv hfit hbase
  unfold Oper.wp execOp
  simp only [ho, resolve, invoke, builtin, Sem.run_bind, Sem.run_pure, Result.andThen_ok, List.map_toArray, List.map_cons, List.map_nil, hs, hx, hr]
  exact hK _ _ (h v' w' h2 h3 h4)

/-- What Parse tells, as three values. -/
def Res (r : Nat ⊕ List Tg) (x y : Int) (ts : List Tg) : Prop := match r with
  | .inl k => x = 19 ∧ y = k ∧ ts = []
  | .inr us => x = 0 ∧ y = 0 ∧ ts = us
theorem res_some (r : Nat ⊕ List Tg) : ∃ x y ts, Res r x y ts := by
  cases r with
  | inl k => exact ⟨_, _, _, rfl, rfl, rfl⟩
  | inr us => exact ⟨_, _, _, rfl, rfl, rfl⟩
theorem parse_res {s : ByteArray} {l : List UInt8} {x y : Int} {ts : List Tg} (hs : Str s l) (hz : (s.size : Int) ≤ 100000) (h : Res (parseT l) x y ts) (w : World) : Calls Try.prog 20 #[.string s] w fun e w' => (∃ A cap, e = .returned (.tuple #[.slice A ts.length cap, .agg #[.int .i64 x, .int .i64 y]]) ∧ Tags w' A ts) ∧ Below w.heap.size w w' := by
  cases hp : parseT l with
  | inl k =>
    rw [hp] at h
    obtain ⟨rfl, rfl, rfl⟩ := h
    exact (parse_bad hs hz hp w).mono fun _ _ ⟨h1, h2⟩ => ⟨⟨none, 0, h1, Tags.nil⟩, h2⟩
  | inr us =>
    rw [hp] at h
    obtain ⟨rfl, rfl, rfl⟩ := h
    exact (parse_good hs hz hp w).mono fun _ _ ⟨⟨A, cap, h1, h2, _⟩, h3⟩ => ⟨⟨A, cap, h1, h2⟩, h3⟩

theorem parse_len {l : List UInt8} {ts : List Tg} (h : parseT l = .inr ts) : ts.length ≤ l.length + 1 := by
  obtain ⟨us, e, hm, _⟩ := pgo_inr _ _ _ h
  rw [List.nil_append] at e
  subst e
  have h1 := congrArg List.length hm
  rw [List.length_map] at h1
  have h2 := sum_pieces l
  have h3 : ∀ ps : List (List UInt8), ps.length ≤ (ps.map fun p => p.length + 1).sum := by
    intro ps
    induction ps with
    | nil => simp
    | cons p ps ih => simp only [List.map_cons, List.sum_cons, List.length_cons]; omega
  have := h3 (pieces l)
  omega

/-- What lies is kept where a row of our own grows that is newer. -/
theorem Kp.own {w0 w w1 w2 : World} {L : List (Addr × Value)} {R : List (Option Addr × List Tg)} {base size n : Nat} {e : TypeId} {v : Value} {xs : List Value} (h : Kp w0 L R w) (hb : Below w.heap.size w w1) (ho : w1.ownsRow base e size v n xs) (hw : w.heap.size ≤ base) (hg : w1.grownBy w2 v.ownBlock) : Kp w0 L R w2 := by
  refine h.next (hb.grown hg hb.size ?_)
  intro k hk
  rcases ho.2 with ⟨rfl, _⟩ | ⟨g, cap, cur, rfl, hg', _⟩
  · cases hk
  · injection hk with hk; subst hk; exact Nat.le_trans hw hg'

set_option maxRecDepth 100000 in
set_option maxHeartbeats 8000000 in
theorem parts_walk (s t : ByteArray) (hm1 : s.size ≤ maxLen) (hm2 : t.size ≤ maxLen) (w : World) : Calls Try.prog 9 #[.agg #[.string s, .string t]] w fun e w' => e = .returned (.bool true) ∧ Below w.heap.size w w' := by
  unfold maxLen at hm1 hm2
  have HK0 := Lib.hid ((Kp.start w).push 45 (.string s) (.string t))
  by_cases h1 : 250 < (s.size : Int)
  · go_enter Try.func9, Try.ntmps9
    go_wp2_with fail
    refine (awake_calls _).mono ?_
    rintro e w1 ⟨rfl, hb⟩
    have HB := Lib.hid (HK0.out.next hb).kept
    clear hb HK0
    go_wp2_with fail
    go_ret
    exact ⟨rfl, HB.out⟩
  · by_cases h2 : 250 < (t.size : Int)
    · go_enter Try.func9, Try.ntmps9
      go_wp2_with fail
      refine (awake_calls _).mono ?_
      rintro e w1 ⟨rfl, hb⟩
      have HB := Lib.hid (HK0.out.next hb).kept
      clear hb HK0
      go_wp2_with fail
      go_ret
      exact ⟨rfl, HB.out⟩
    · obtain ⟨a, hs⟩ : ∃ a, Str s a := ⟨s.data.toList, rfl⟩
      obtain ⟨b, ht⟩ : ∃ b, Str t b := ⟨t.data.toList, rfl⟩
      have n1 := hs.size
      have n2 := ht.size
      have hst : Str (s ++ ⟨#[44]⟩ ++ t) (a ++ 44 :: b) := by have := (hs.append (b := [44]) (show Str ⟨#[44]⟩ [44] from rfl)).append ht; simpa using this
      have hz : ((s ++ (⟨#[44]⟩ : ByteArray) ++ t).size : Int) ≤ 100000 := by rw [ByteArray.size_append, ByteArray.size_append]; have : (⟨#[44]⟩ : ByteArray).size = 1 := rfl; omega
      have k1 : ¬ (9223372036854775807 < s.size + (⟨#[44]⟩ : ByteArray).size) := by have : (⟨#[44]⟩ : ByteArray).size = 1 := rfl; omega
      have k2 : ¬ (9223372036854775807 < (s ++ (⟨#[44]⟩ : ByteArray)).size + t.size) := by have : (⟨#[44]⟩ : ByteArray).size = 1 := rfl; rw [ByteArray.size_append]; omega
      obtain ⟨x1, y1, ts1, r1⟩ := res_some (parseT a)
      obtain ⟨x2, y2, ts2, r2⟩ := res_some (parseT b)
      obtain ⟨x3, y3, ts3, r3⟩ := res_some (parseT (a ++ 44 :: b))
      have hg := fguard
      have HP1 := Lib.hid (parse_res hs (by omega) r1)
      have HP2 := Lib.hid (parse_res ht (by omega) r2)
      have HP3 := Lib.hid (parse_res hst hz r3)
      have hpp := parse_parts a b
      rw [hpp] at r3
      have HR := Lib.hid (And.intro r1 (And.intro r2 r3))
      clear hs ht hst hz r1 r2 r3 hpp
      go_enter Try.func9, Try.ntmps9
      go_wp2_with fail
      refine (HP1.out _).mono ?_
      rintro e w1 ⟨⟨A, ca, rfl, ht⟩, hb⟩
      have HK1 := Lib.hid (((HK0.out.next hb).row ht).push 34 (.int .i64 x1) (.int .i64 y1))
      clear ht hb HK0 HP1
      have c0 := HK1.out.cell (a := ⟨w.heap.size, 0, none⟩) (v := .string s) (by simp)
      have c1 := HK1.out.cell (a := ⟨w.heap.size, 1, none⟩) (v := .string t) (by simp)
      go_wp2_with fail
      refine (HP2.out _).mono ?_
      rintro e w2 ⟨⟨B, cb, rfl, ht⟩, hb⟩
      have HK2 := Lib.hid (((HK1.out.next hb).row ht).push 34 (.int .i64 x2) (.int .i64 y2))
      clear ht hb HK1 HP2 c0 c1
      have c0 := HK2.out.cell (a := ⟨w.heap.size, 0, none⟩) (v := .string s) (by simp)
      have c1 := HK2.out.cell (a := ⟨w.heap.size, 1, none⟩) (v := .string t) (by simp)
      go_wp2_with fail
      refine (HP3.out _).mono ?_
      rintro e w3 ⟨⟨C, cc, rfl, ht⟩, hb⟩
      have HK3 := Lib.hid (((HK2.out.next hb).row ht).push 34 (.int .i64 x3) (.int .i64 y3))
      clear ht hb HK2 HP3 c0 c1
      have c0 := HK3.out.cell (a := ⟨w.heap.size, 0, none⟩) (v := .string s) (by simp)
      have e0 := HK3.out.cell (a := ⟨w1.heap.size, 0, none⟩) (v := .int .i64 x1) (by simp)
      have e1 := HK3.out.cell (a := ⟨w1.heap.size, 1, none⟩) (v := .int .i64 y1) (by simp)
      have f0 := HK3.out.cell (a := ⟨w2.heap.size, 0, none⟩) (v := .int .i64 x2) (by simp)
      have f1 := HK3.out.cell (a := ⟨w2.heap.size, 1, none⟩) (v := .int .i64 y2) (by simp)
      have g0 := HK3.out.cell (a := ⟨w3.heap.size, 0, none⟩) (v := .int .i64 x3) (by simp)
      have g1 := HK3.out.cell (a := ⟨w3.heap.size, 1, none⟩) (v := .int .i64 y3) (by simp)
      obtain ⟨r1, r2, r3⟩ := HR.out
      cases ha : parseT a with
      | inl e =>
        rw [ha] at r1 r3
        obtain ⟨rfl, rfl, rfl⟩ := r1
        obtain ⟨rfl, rfl, rfl⟩ := r3
        have q1 := fne_run (x := 19) (y := (e : Int)) (u := 0) (v := 0) (q := false) (by simp)
        have q2 := feq_run (x := 19) (y := (e : Int)) (u := 19) (v := (e : Int)) (q := true) (by simp)
        clear ha r2 HR
        go_wp2_with fail
        refine (awake_calls _).mono ?_
        rintro e' w7 ⟨rfl, hb⟩
        have HB7 := Lib.hid (HK3.out.next hb)
        clear hb HK3 c0 e0 e1 f0 f1 g0 g1
        go_wp2_with fail
        go_ret
        exact ⟨rfl, HB7.out.kept⟩
      | inr ts =>
        rw [ha] at r1 r3
        obtain ⟨rfl, rfl, rfl⟩ := r1
        have q1 := fne_run (x := 0) (y := 0) (u := 0) (v := 0) (q := true) (by simp)
        cases hb : parseT b with
        | inl f =>
          rw [hb] at r2 r3
          obtain ⟨rfl, rfl, rfl⟩ := r2
          obtain ⟨rfl, hy3, rfl⟩ := r3
          have hfl := parse_inl hb
          have q2 := fne_run (x := 19) (y := (f : Int)) (u := 0) (v := 0) (q := false) (by simp)
          have q3 := feq_run (x := 19) (y := y3) (u := 19) (v := (f : Int) + (s.size : Int) + 1) (q := true) (by rw [hy3, n1]; simp; omega)
          have hf1 : (f : Int) ≤ 250 := by omega
          have hf2 : (0 : Int) ≤ (f : Int) := by omega
          clear ha hb HR hy3 hfl n1 n2
          go_wp2_with fail
          refine (awake_calls _).mono ?_
          rintro e' w7 ⟨rfl, hb⟩
          have HB7 := Lib.hid (HK3.out.next hb)
          clear hb HK3 c0 e0 e1 f0 f1 g0 g1
          go_wp2_with fail
          go_ret
          exact ⟨rfl, HB7.out.kept⟩
        | inr us =>
          rw [hb] at r2 r3
          obtain ⟨rfl, rfl, rfl⟩ := r2
          obtain ⟨rfl, rfl, rfl⟩ := r3
          have q2 := feq_run (x := 0) (y := 0) (u := 0) (v := 0) (q := true) (by simp)
          have hl := parse_len (ha : parseT a = .inr ts1)
          have hl2 := parse_len (hb : parseT b = .inr ts2)
          clear ha hb HR
          have hw3 := HK3.out.kept.size
          go_wp2_with (first
            | (at_builtin
               refine wpList_append_tags_g _ (by rfl) _ _ rfl (w3.heap.size + 1) (.slice (some ⟨w3.heap.size + 1, 0, none⟩) 0 0) 0 [] rfl (by have := own_empty (w3.alloc (.cells #[.int .i64 0, .int .i64 0] 34)); rwa [size_alloc] at this) A ts1.length ca ts1 rfl rfl ((HK3.out.alloc _).tags (A := A) (ts := ts1) (by simp)) (by omega) (by rw [size_alloc, size_alloc]; omega) ?_
               intro v5 w5 hown5 hgr5 hob5
               have HB5 := Lib.hid (show Below (w3.alloc (.cells #[.int .i64 0, .int .i64 0] 34)).heap.size (w3.alloc (.cells #[.int .i64 0, .int .i64 0] 34)) w5 from Below.grown ((Below.refl _ _).alloc (Nat.le_refl _) _) hgr5 (by simp) (by intro k hk; injection hk with hk; subst hk; simp))
               have HK5 := Lib.hid (HK3.out.next HB5.out)
               have HO5 := Lib.hid hown5
               have HS5 := Lib.hid (show w3.heap.size + 1 ≤ w5.heap.size by have := hgr5.size; rw [size_alloc, size_alloc] at this; omega)
               clear hown5 hgr5 hob5)
            | (at_builtin
               refine wpList_append_tags_g _ (by rfl) _ _ rfl (w3.heap.size + 1) v5 ts1.length ts1 rfl (by have := HO5.out; rwa [Nat.zero_add, List.nil_append] at this) B ts2.length cb ts2 rfl rfl (HK5.out.tags (A := B) (ts := ts2) (by simp)) (by omega) HS5.out ?_
               intro v6 w6 hown6 hgr6 hob6
               have HK6 := Lib.hid (HK3.out.own HB5.out HO5.out (by rw [size_alloc]; omega) hgr6)
               obtain ⟨A6, c6, rfl, hx1, hx2, hx3, hx4⟩ := own_slice hown6
               have HT6 := Lib.hid (Tags.of_own hown6)
               clear hown6 hgr6 hob6 hx1 hx2 hx3 hx4))
          refine (same_true (ts := ts1 ++ ts2) (by simp) (by simp) (HK6.out.tags (A := C) (ts := ts1 ++ ts2) (by simp)) HT6.out (by omega)).mono ?_
          rintro e' w7 ⟨rfl, hb⟩
          have HB7 := Lib.hid (HK6.out.next hb)
          clear hb HK6 HT6 HK5 HB5 HO5 HS5
          go_wp2_with fail
          refine (awake_calls _).mono ?_
          rintro e' w8 ⟨rfl, hb⟩
          have HB8 := Lib.hid (HB7.out.next hb)
          clear hb HB7
          go_wp2_with fail
          go_ret
          exact ⟨rfl, HB8.out.kept⟩
end Go.Proofs.Ytapkdghghnmhhaa
