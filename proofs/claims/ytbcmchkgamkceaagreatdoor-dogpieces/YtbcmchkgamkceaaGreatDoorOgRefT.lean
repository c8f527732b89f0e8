/-
  The document's Time and Text of numbers, and Text of tags. No statement of the seat is proved here.
-/
import Derived.Test.YtbcmchkgamkceaaGreatDoorGrNPut
import Derived.Test.YtbcmchkgamkceaaGreatDoorNRefDigits
import Derived.Test.YtbcmchkgamkceaaGreatDoorGrTCheck
import Derived.Test.YtbcmchkgamkceaaGreatDoorGrTText
import Derived.Test.YtbcmchkgamkceaaGreatDoorGrTMath
import Derived.Deep.RegionHeld3
namespace Go.Proofs.YtbcmchkgamkceaaGreatDoor
open Go.RowKit

theorem rtime5_calls (s : ByteArray) (l : List UInt8) (h : Str s l) (hz : (s.size : Int) ≤ 9000) (w : World) : Calls Tryz.prog 79 #[.string s] w (Told3 w (parsed l 1 1099511627776)) := by
  have HT := Lib.hid (rparse_calls s l h hz 1 1099511627776)
  clear h hz
  have b0 := Box.new w 42 [.int .i64 0, .int .i64 0]
  generalize parsed l 1 1099511627776 = r at HT
  obtain ⟨n, x, y⟩ := r
  go_enter Tryz.func79, Tryz.ntmps79
  go_wp2_with fail
  refine (HT.out _).mono ?_
  rintro e w1 ⟨rfl, hb⟩
  have b1 := b0.keep hb
  have kk := below_then ((Below.refl w.heap.size w).alloc (Nat.le_refl _) (.cells #[.int .i64 0, .int .i64 0] 42)) (hb.mono (by simp))
  have c0 : w1.cell? ⟨w.heap.size, 0, none⟩ = some (.int .i64 0) := b1.cell 0
  have c1 : w1.cell? ⟨w.heap.size, 1, none⟩ = some (.int .i64 0) := b1.cell 1
  have f0 := b1.frozen 0
  have f1 := b1.frozen 1
  have HF := Lib.hid (fun x y => laidF_is b1 kk x y)
  clear b1 kk hb HT b0
  go_wp2_with fail
  refine ret_nf rfl rfl rfl rfl (HF.out _ _).1 ?_
  exact told3_of rfl (HF.out _ _).2
set_option maxRecDepth 100000 in
theorem rtext5_calls (n : Int) (h0 : 0 ≤ n) (h1 : n ≤ 9223372036854775807) (w : World) : Calls Tryz.prog 35 #[.int .i64 n] w fun e w' => e = .returned (.string ⟨(Lib.decDigits n.toNat).toArray⟩) ∧ Below w.heap.size w w' := by
  have hc := digits5_calls n.toNat (by unfold Two64; omega)
  have hcu : IntKind.u64.wrap n = n := by rw [IntKind.wrap_u64]; omega
  rw [show ((n.toNat : Nat) : Int) = n by omega] at hc
  have HC := Lib.hid hc
  obtain ⟨t, ht⟩ : ∃ t : ByteArray, t = ⟨(Lib.decDigits n.toNat).toArray⟩ := ⟨_, rfl⟩
  rw [← ht] at HC ⊢
  clear hc ht
  go_enter Tryz.func35, Tryz.ntmps35
  go_wp2_with fail
  refine (HC.out _).mono ?_
  rintro e w1 ⟨rfl, k, rfl⟩
  clear HC
  go_wp2_with fail
  go_ret
  exact ⟨rfl, Same.below (Same.drewN _ k)⟩

theorem textT_snoc {ts : List Tg} {i : Nat} (hi : i < ts.length) : textT (ts.take (i + 1)) = if i = 0 then txt ts[i] else textT (ts.take i) ++ 44 :: txt ts[i] := by
  rw [List.take_succ_eq_append_getElem hi]
  unfold textT
  rw [List.map_append, List.map_cons, List.map_nil]
  by_cases h0 : i = 0
  · subst h0
    rw [if_pos rfl, List.take_zero, List.map_nil, List.nil_append, Lib.join_one]
  · rw [if_neg h0]
    have hne : (ts.take i).map txt ≠ [] := by
      intro e
      have := congrArg List.length e
      rw [List.length_map, List.length_take, List.length_nil] at this
      omega
    rcases hx : (ts.take i).map txt with _ | ⟨a, xs⟩
    · exact absurd hx hne
    · rw [List.cons_append, Lib.join_cons, Lib.join_cons]
      unfold Lib.joinTail
      simp
set_option maxRecDepth 100000 in
set_option maxHeartbeats 4000000 in
theorem rttext_calls {w : World} {A : Option Addr} {n cap : Nat} {ts : List Tg} (hn : ts.length = n) (hA : Tags w A ts) (hz : n ≤ 200) (hlen : ∀ t ∈ ts, t.1.length ≤ 200 ∧ t.2.length ≤ 200) (htx : ∀ i, (textT (ts.take i)).length ≤ 100000) :
    Calls Tryz.prog 34 #[.slice A n cap] w fun e w' => e = .returned (.string ⟨(textT ts).toArray⟩) ∧ Below w.heap.size w w' := by
  have HA := Lib.hid (And.intro hA (And.intro hn (And.intro hlen htx)))
  clear hn hA hlen htx
  go_enter Tryz.func34, Tryz.ntmps34
  go_wp2_with fail
  go_loopw [3, 4] (fun v3 v4 wr => ∃ (i : Nat) (T : ByteArray), v3 = .string T ∧ v4 = .int .i64 (i : Int) ∧ i ≤ n ∧ Hid (Below w.heap.size w wr ∧ Str T (textT (ts.take i)))) (fun _ v4 _ => n - (intOf v4).toNat)
  case atStart => exact ⟨0, _, rfl, rfl, by omega, ⟨Below.refl _ _, rfl⟩⟩
  case round =>
    obtain ⟨i, T, rfl, rfl, hin, hrel⟩ := hrel
    have g0 : (0 : Int) ≤ (i : Int) := by omega
    by_cases hlt : i < n
    · have hlt' : (i : Int) < (n : Int) := by omega
      have li : i < ts.length := by rw [HA.out.2.1]; exact hlt
      obtain ⟨b, off, s, u, eA, c0, c1, hs, hu⟩ := (HA.out.1.keep hrel.out.1).get li
      subst eA
      have hl := HA.out.2.2.1 _ (List.getElem_mem li)
      have hTz : (T.size : Int) ≤ 100000 := by rw [hrel.out.2.size]; have := HA.out.2.2.2 i; omega
      have HO := Lib.hid (fun W => rOne_calls hs hu (by rw [hs.size]; omega) (by rw [hu.size]; omega) W)
      have hxl : (txt ts[i]).length ≤ 401 := by
        unfold txt
        split
        · omega
        · simp only [List.length_append, List.length_cons]; omega
      have z1 : ((⟨#[44]⟩ : ByteArray).size : Int) = 1 := rfl
      have za : ∀ a b : ByteArray, (a ++ b).size = a.size + b.size := fun a b => by simp
      have HX := Lib.hid (And.intro hrel.out.2 (And.intro hxl (textT_snoc li)))
      have HB := Lib.hid hrel.out.1
      clear hrel hs hu hl hxl
      by_cases h0 : i = 0
      · subst h0
        simp only [Nat.zero_mul, Nat.add_zero] at c0 c1
        go_wp2_with fail
        refine (HO.out _).mono ?_
        rintro e w1 ⟨⟨r, rfl, hr⟩, hb⟩
        have hrz : (r.size : Int) ≤ 401 := by rw [hr.size]; have := HX.out.2.1; omega
        have HR := Lib.hid hr
        have HB1 := Lib.hid (below_then HB.out hb)
        clear hr hb HO
        go_wp2_with fail
        refine ⟨⟨1, T ++ r, rfl, by go_num, by omega, ⟨HB1.out, ?_⟩⟩, by simp [intOf]; omega⟩
        have h1 := HX.out.2.2
        simp only [if_true] at h1
        have hT : Str T [] := HX.out.1
        show Str (T ++ r) (textT (List.take (0 + 1) ts))
        rw [h1]
        exact hT.append HR.out
      · have hi0 : (0 : Int) < (i : Int) := by omega
        have H0 := Lib.hid h0
        clear h0
        go_wp2_with fail
        refine (HO.out _).mono ?_
        rintro e w1 ⟨⟨r, rfl, hr⟩, hb⟩
        have hrz : (r.size : Int) ≤ 401 := by rw [hr.size]; have := HX.out.2.1; omega
        have HR := Lib.hid hr
        have HB1 := Lib.hid (below_then HB.out hb)
        clear hr hb HO
        go_wp2_with fail
        refine ⟨⟨i + 1, T ++ ⟨#[44]⟩ ++ r, rfl, by go_num, by omega, ⟨HB1.out, ?_⟩⟩, by simp [intOf]; omega⟩
        have h1 := HX.out.2.2
        rw [if_neg H0.out] at h1
        rw [h1]
        have := (HX.out.1.append (show Str ⟨#[44]⟩ [44] from rfl)).append HR.out
        simpa using this
    · have hlt' : ¬ (i : Int) < (n : Int) := by omega
      have HE := Lib.hid (show T = ⟨(textT ts).toArray⟩ by
        have := hrel.out.2
        rw [List.take_of_length_le (by rw [HA.out.2.1]; omega)] at this
        exact this.eq)
      go_wp2_with fail
      go_ret
      exact ⟨by rw [← HE.out]; first | done | rfl, hrel.out.1⟩
end Go.Proofs.YtbcmchkgamkceaaGreatDoor
