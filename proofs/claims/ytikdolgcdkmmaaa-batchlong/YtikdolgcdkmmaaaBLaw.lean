/-
  Layer 8: what the laws call, over what is kept: each call with its answer named. No statement of the seat is proved here.
-/
import Derived.Test.YtikdolgcdkmmaaaBAwake
import Derived.Test.YtikdolgcdkmmaaaBRef0
import Derived.Test.YtikdolgcdkmmaaaBRefE
namespace Go.Proofs.Ytikdolgcdkmmaaa
open Go.RowKit
open Dc (D D0)

/-- These batches, and these rows of texts, lie so, and nothing old has changed. -/
structure Bt (w0 : World) (L : List (Option Addr × List En)) (S : List (Option Addr × List (List UInt8))) (W : World) : Prop where
  kept : Below w0.heap.size w0 W
  met : ∀ x ∈ L, Mets W x.1 x.2
  str : ∀ x ∈ S, Strs W x.1 x.2
section
variable {w0 W w' : World} {L : List (Option Addr × List En)} {S : List (Option Addr × List (List UInt8))} {A B : Option Addr} {es fs : List En} {ss ts : List (List UInt8)} {len lenb cap capb : Nat}
theorem Bt.start (w : World) : Bt w [] [] w := ⟨Below.refl _ _, by simp, by simp⟩
theorem Bt.next (h : Bt w0 L S W) (b : Below W.heap.size W w') : Bt w0 L S w' := ⟨below_then h.kept b, fun x hx => (h.met x hx).keep b, fun x hx => (h.str x hx).keep b⟩
theorem Bt.drewN (h : Bt w0 L S W) (n : Nat) : Bt w0 L S (W.drewN n) := h.next (Same.below (Same.drewN W n))
theorem Bt.alloc (h : Bt w0 L S W) (o : Obj) : Bt w0 L S (W.alloc o) := h.next (m_below W o)
theorem Bt.add (h : Bt w0 L S W) (hm : Mets W A es) : Bt w0 ((A, es) :: L) S W := ⟨h.kept, fun x hx => by
  rcases List.mem_cons.1 hx with rfl | hx
  · exact hm
  · exact h.met x hx, h.str⟩
theorem Bt.addS (h : Bt w0 L S W) (hm : Strs W A ss) : Bt w0 L ((A, ss) :: S) W := ⟨h.kept, h.met, fun x hx => by
  rcases List.mem_cons.1 hx with rfl | hx
  · exact hm
  · exact h.str x hx⟩
theorem Bt.m (h : Bt w0 L S W) (hm : (A, es) ∈ L) : Mets W A es := h.met _ hm
theorem Bt.s (h : Bt w0 L S W) (hm : (A, ss) ∈ S) : Strs W A ss := h.str _ hm

theorem Bt.few_ {x : Bool} (h : Bt w0 L S W) (hm : (A, es) ∈ L) (hlen : es.length = len) (hz : (len : Int) ≤ 9223372036854775807) (hx : fewB (datM es) = x) (cap : Nat) :
    Calls Try.prog 15 #[.slice A len cap] W fun e w' => e = .returned (.bool x) ∧ Bt w0 L S w' := by
  have := fewb_calls (cap := cap) hlen (h.m hm) hz
  rw [hx] at this
  exact this.mono fun e w' k => ⟨k.1, h.next k.2⟩
theorem Bt.awake_ (h : Bt w0 L S W) : Calls Try.prog 16 #[] W fun e w' => e = .returned (.bool true) ∧ Bt w0 L S w' :=
  (awake8_calls W).mono fun e w' k => ⟨k.1, h.next k.2⟩
theorem Bt.check_ {p : Nat} {c : Int} (h : Bt w0 L S W) (hm : (A, es) ∈ L) (hlen : es.length = len) (hz : len ≤ 2000) (hs : Smalls es) (hx : fwB checkM (datM es) = (p, c)) (cap : Nat) :
    Calls Try.prog 17 #[.slice A len cap] W fun e w' => e = .returned (.tuple #[.int .i64 (p : Int), .int .i64 c]) ∧ Bt w0 L S w' := by
  have := bcheck_calls (cap := cap) hlen (by omega) (h.m hm) hs
  rw [hx] at this
  exact this.mono fun e w' k => ⟨k.1, h.next k.2⟩
theorem Bt.rcheck_ {p : Nat} {c : Int} (h : Bt w0 L S W) (hm : (A, es) ∈ L) (hlen : es.length = len) (hz : len ≤ 2000) (hs : Smalls es) (hx : fwB checkM (datM es) = (p, c)) (cap : Nat) :
    Calls Try.prog 18 #[.slice A len cap] W fun e w' => e = .returned (.tuple #[.int .i64 (p : Int), .int .i64 c]) ∧ Bt w0 L S w' := by
  have := rbcheck_calls (cap := cap) hlen hz (h.m hm) hs
  rw [hx] at this
  exact this.mono fun e w' k => ⟨k.1, h.next k.2⟩
/-- What a call of Normal leaves. -/
def NBt (w0 : World) (L : List (Option Addr × List En)) (S : List (Option Addr × List (List UInt8))) (r : List Mt) (p : Nat) (c : Int) (e : Ending) (w' : World) : Prop :=
  ∃ A' n' c' fs, e = .returned (.tuple #[.slice A' n' c', .int .i64 (p : Int), .int .i64 c]) ∧ fs.length = n' ∧ datM fs = r ∧ Bt w0 ((A', fs) :: L) S w'
theorem Bt.normal_ {p : Nat} {c : Int} {r : List Mt} (h : Bt w0 L S W) (hm : (A, es) ∈ L) (hlen : es.length = len) (hz : len ≤ 2000) (hs : Smalls es) (hx : fwB codeM (datM es) = (p, c)) (hr : nB (datM es) = r) (cap : Nat) :
    Calls Try.prog 19 #[.slice A len cap] W (NBt w0 L S r p c) := by
  have := bnormal_calls (cap := cap) hlen hz (h.m hm) hs
  rw [hx, hr] at this
  exact this.mono fun e w' ⟨⟨A', n', c', fs, he, hmt, hl, hd⟩, hb, _⟩ => ⟨A', n', c', fs, he, hl, hd, (h.next hb).add hmt⟩
theorem Bt.rnormal_ {p : Nat} {c : Int} {r : List Mt} (h : Bt w0 L S W) (hm : (A, es) ∈ L) (hlen : es.length = len) (hz : len ≤ 2000) (hs : Smalls es) (hx : fwB codeM (datM es) = (p, c)) (hr : nB (datM es) = r) (cap : Nat) :
    Calls Try.prog 20 #[.slice A len cap] W (NBt w0 L S r p c) := by
  have := rbnormal_calls (cap := cap) hlen hz (h.m hm) hs
  rw [hx, hr] at this
  exact this.mono fun e w' ⟨⟨A', n', c', fs, he, hmt, hl, hd⟩, hb, _⟩ => ⟨A', n', c', fs, he, hl, hd, (h.next hb).add hmt⟩
theorem Bt.equal_ {x : Bool} (h : Bt w0 L S W) (hm : (A, es) ∈ L) (hm2 : (B, fs) ∈ L) (hlen : es.length = len) (hlenb : fs.length = lenb) (hz : len ≤ 2000) (hzb : lenb ≤ 2000) (hs : Smalls es) (hx : decide (datM es = datM fs) = x) (cap capb : Nat) :
    Calls Try.prog 22 #[.slice A len cap, .slice B lenb capb] W fun e w' => e = .returned (.bool x) ∧ Bt w0 L S w' := by
  have := bequal_calls (cap := cap) (capb := capb) hlen hlenb (by omega) (by omega) (h.m hm) (h.m hm2) hs
  rw [hx] at this
  exact this.mono fun e w' k => ⟨k.1, h.next k.2⟩
theorem Bt.requal_ {x : Bool} (h : Bt w0 L S W) (hm : (A, es) ∈ L) (hm2 : (B, fs) ∈ L) (hlen : es.length = len) (hlenb : fs.length = lenb) (hz : len ≤ 2000) (hzb : lenb ≤ 2000) (hs : Smalls es) (hx : decide (datM es = datM fs) = x) (cap capb : Nat) :
    Calls Try.prog 21 #[.slice A len cap, .slice B lenb capb] W fun e w' => e = .returned (.bool x) ∧ Bt w0 L S w' := by
  have := rbequal_calls (cap := cap) (capb := capb) hlen hlenb (by omega) (by omega) (h.m hm) (h.m hm2) hs
  rw [hx] at this
  exact this.mono fun e w' k => ⟨k.1, h.next k.2⟩
theorem Bt.same_ {x : Bool} (h : Bt w0 L S W) (hm : (A, es) ∈ L) (hm2 : (B, fs) ∈ L) (hlen : es.length = len) (hlenb : fs.length = lenb) (hz : len ≤ 2000) (hzb : lenb ≤ 2000) (hs : Smalls es) (hsb : Smalls fs) (hx : sameB (datM es) (datM fs) = x) (cap capb : Nat) :
    Calls Try.prog 23 #[.slice A len cap, .slice B lenb capb] W fun e w' => e = .returned (.bool x) ∧ Bt w0 L S w' := by
  have := bsame_calls (cap := cap) (capb := capb) hlen hlenb hz hzb (h.m hm) (h.m hm2) hs hsb
  rw [hx] at this
  exact this.mono fun e w' k => ⟨k.1, h.next k.2⟩
/-- What a call of Names leaves. -/
def TBt (w0 : World) (L : List (Option Addr × List En)) (S : List (Option Addr × List (List UInt8))) (ns : List (List UInt8)) (k : Nat) (e : Ending) (w' : World) : Prop :=
  ∃ A' c', e = .returned (.slice A' k c') ∧ k ≤ c' ∧ Bt w0 L ((A', ns) :: S) w'
theorem Bt.names_ {ns : List (List UInt8)} {k : Nat} (h : Bt w0 L S W) (hm : (A, es) ∈ L) (hlen : es.length = len) (hz : len ≤ 2000) (hs : Smalls es) (hn : namesOf (datM es) = ns) (hk : ns.length = k) (cap : Nat) :
    Calls Try.prog 25 #[.slice A len cap] W (TBt w0 L S ns k) := by
  have := bnames_calls (cap := cap) hlen (by omega) (h.m hm) (fun e he => Nat.le_trans (hs e he).name (by omega))
  rw [hn, hk] at this
  exact this.mono fun e w' ⟨⟨A', c', he, hc, hst⟩, hb⟩ => ⟨A', c', he, hc, (h.next hb).addS hst⟩
theorem Bt.rnames_ {ns : List (List UInt8)} {k : Nat} (h : Bt w0 L S W) (hm : (A, es) ∈ L) (hlen : es.length = len) (hz : len ≤ 2000) (hn : namesOf (datM es) = ns) (hk : ns.length = k) (cap : Nat) :
    Calls Try.prog 26 #[.slice A len cap] W fun e w' => ∃ A' c', e = .returned (.slice A' k c') ∧ Bt w0 L ((A', ns) :: S) w' := by
  have := rbnames_calls (cap := cap) hlen (by omega) (h.m hm)
  rw [hn, hk] at this
  exact this.mono fun e w' ⟨⟨A', c', he, hst⟩, hb⟩ => ⟨A', c', he, (h.next hb).addS hst⟩
theorem Bt.texts_ {x : Bool} (h : Bt w0 L S W) (hm : (A, ss) ∈ S) (hm2 : (B, ts) ∈ S) (hlen : ss.length = len) (hlenb : ts.length = lenb) (hz : len ≤ 1000000) (hx : decide (ss = ts) = x) (cap capb : Nat) :
    Calls Try.prog 24 #[.slice A len cap, .slice B lenb capb] W fun e w' => e = .returned (.bool x) ∧ Bt w0 L S w' := by
  have := texts_calls (ca := cap) (cb := capb) hlen hlenb (h.s hm) (h.s hm2) hz
  rw [hx] at this
  exact this.mono fun e w' k => ⟨k.1, h.next k.2⟩
end

/-- Few batches are small ones. -/
theorem few_smalls {es : List En} (h : fewB (datM es) = true) (hf : ∀ e ∈ es, ∀ d ∈ e.m.vals, d.Fits) : Smalls es ∧ es.length ≤ 12 := by
  obtain ⟨h1, h2⟩ := fewB_ok h
  rw [datM_len] at h1
  exact ⟨fun e he => few_small (h2 _ (List.mem_map.2 ⟨e, he, rfl⟩)) (hf e he), h1⟩
end Go.Proofs.Ytikdolgcdkmmaaa
