/-
  Numbers put one behind the other, in plain terms. Nothing of the program is named here.
-/
import Derived.Test.YtiodeaoollhcgaaVRead
namespace Go.Proofs.Ytiodeaoollhcgaa

/-- The bytes of numbers, one behind the other. -/
def rowBytes (ns : List Nat) : List Int := ns.flatMap digs
/-- How many bytes the first k numbers have. -/
def cum (ns : List Nat) (k : Nat) : Nat := (rowBytes (ns.take k)).length

theorem rowBytes_append (xs ys : List Nat) : rowBytes (xs ++ ys) = rowBytes xs ++ rowBytes ys := by simp [rowBytes]
theorem rowBytes_one (n : Nat) : rowBytes [n] = digs n := by simp [rowBytes]
theorem rowBytes_bytes (ns : List Nat) : ∀ z ∈ rowBytes ns, 0 ≤ z ∧ z < 256 := by
  intro z hz
  unfold rowBytes at hz
  obtain ⟨n, _, hn⟩ := List.mem_flatMap.1 hz
  exact digs_bytes n z hn
theorem take_one {ns : List Nat} {k : Nat} (h : k < ns.length) : ns.take (k + 1) = ns.take k ++ [ns.getD k 0] := by
  rw [List.take_succ_eq_append_getElem h, List.getD_eq_getElem?_getD, List.getElem?_eq_getElem h]
  rfl
theorem drop_one {ns : List Nat} {k : Nat} (h : k < ns.length) : ns.drop k = ns.getD k 0 :: ns.drop (k + 1) := by
  rw [List.getD_eq_getElem?_getD, List.getElem?_eq_getElem h]
  exact List.drop_eq_getElem_cons h
theorem getD_in {ns : List Nat} {k : Nat} (h : k < ns.length) : ns.getD k 0 ∈ ns := by
  rw [List.getD_eq_getElem?_getD, List.getElem?_eq_getElem h]
  exact List.getElem_mem h
theorem rowBytes_step {ns : List Nat} {k : Nat} (h : k < ns.length) : rowBytes (ns.take (k + 1)) = rowBytes (ns.take k) ++ digs (ns.getD k 0) := by
  rw [take_one h, rowBytes_append, rowBytes_one]
theorem cum_zero (ns : List Nat) : cum ns 0 = 0 := by simp [cum, rowBytes]
theorem cum_succ {ns : List Nat} {k : Nat} (h : k < ns.length) : cum ns (k + 1) = cum ns k + (digs (ns.getD k 0)).length := by
  unfold cum
  rw [rowBytes_step h, List.length_append]
theorem cum_all {ns : List Nat} {m : Nat} (h : ns.length = m) : cum ns m = (rowBytes ns).length := by
  unfold cum
  rw [List.take_of_length_le (by omega)]
theorem cum_le (ns : List Nat) : ∀ d k, k + d ≤ ns.length → cum ns k ≤ cum ns (k + d)
  | 0, _, _ => Nat.le_refl _
  | d + 1, k, h => by
    have h1 := cum_le ns d k (by omega)
    have h2 := cum_succ (ns := ns) (k := k + d) (by omega)
    rw [← Nat.add_assoc]
    omega
theorem cum_ten (ns : List Nat) (hu : ∀ n ∈ ns, n < 18446744073709551616) : ∀ k, k ≤ ns.length → cum ns k ≤ 10 * k
  | 0, _ => by rw [cum_zero]; omega
  | k + 1, h => by
    have h1 := cum_ten ns hu k (by omega)
    have h2 := cum_succ (ns := ns) (k := k) (by omega)
    have hm : ns.getD k 0 ∈ ns := by
      rw [List.getD_eq_getElem?_getD, List.getElem?_eq_getElem (by omega)]
      exact List.getElem_mem (by omega)
    have h3 := digs_ten (hu _ hm)
    omega

/-- What stands behind the first k numbers' bytes. -/
theorem row_drop {ns : List Nat} {k : Nat} (h : k < ns.length) : (rowBytes ns).drop (cum ns k) = digs (ns.getD k 0) ++ rowBytes (ns.drop (k + 1)) := by
  have e : rowBytes ns = rowBytes (ns.take k) ++ rowBytes (ns.drop k) := by rw [← rowBytes_append, List.take_append_drop]
  have e2 : rowBytes (ns.drop k) = digs (ns.getD k 0) ++ rowBytes (ns.drop (k + 1)) := by
    rw [drop_one h]
    simp [rowBytes]
  rw [e, e2]
  unfold cum
  rw [List.drop_left]

/-- A number is read, and its bytes are taken. -/
theorem num_of (bs : List Int) (t n : Nat) (rest : List Int) (h : bs.drop t = digs n ++ rest) (hn : n < 18446744073709551616) : (⟨bs, t, 0, 0⟩ : St).num = (n, ⟨bs, t + (digs n).length, 0, 0⟩) := by
  unfold St.num St.fail
  rw [if_neg (by simp), h, get_digs hn]
  simp

/-- A row that ends too early. -/
theorem num_short (bs : List Int) (t n m : Nat) (h : bs.drop t = (digs n).take m) (hn : n < 18446744073709551616) (hm : m < (digs n).length) : (⟨bs, t, 0, 0⟩ : St).num = (0, ⟨bs, t + m, 13, bs.length⟩) := by
  unfold St.num St.fail
  rw [if_neg (by simp), h, scan_short n 0 0 m (by simpa using hn) hm]
  simp

theorem num_row {ns : List Nat} {k : Nat} (h : k < ns.length) (hu : ∀ n ∈ ns, n < 18446744073709551616) : (⟨rowBytes ns, cum ns k, 0, 0⟩ : St).num = (ns.getD k 0, ⟨rowBytes ns, cum ns (k + 1), 0, 0⟩) := by
  rw [num_of _ _ _ _ (row_drop h) (hu _ (by rw [List.getD_eq_getElem?_getD, List.getElem?_eq_getElem h]; exact List.getElem_mem h)), cum_succ h]

/-- .. and of a row of which the end is missing. -/
theorem num_cut {ns : List Nat} {k N : Nat} (h : k < ns.length) (hu : ∀ n ∈ ns, n < 18446744073709551616) (hN : cum ns (k + 1) ≤ N) : (⟨(rowBytes ns).take N, cum ns k, 0, 0⟩ : St).num = (ns.getD k 0, ⟨(rowBytes ns).take N, cum ns (k + 1), 0, 0⟩) := by
  have hc := cum_succ h
  rw [num_of _ _ (ns.getD k 0) ((rowBytes (ns.drop (k + 1))).take (N - cum ns (k + 1))) ?_ (hu _ (by rw [List.getD_eq_getElem?_getD, List.getElem?_eq_getElem h]; exact List.getElem_mem h)), hc]
  rw [List.drop_take, row_drop h, List.take_append]
  rw [List.take_of_length_le (show (digs (ns.getD k 0)).length ≤ N - cum ns k by omega)]
  congr 2
  omega

theorem num_end {ns : List Nat} {k away : Nat} (h : ns.length = k + 1) (hu : ∀ n ∈ ns, n < 18446744073709551616) (ha : 1 ≤ away) (hl : away ≤ (digs (ns.getD k 0)).length) :
    (⟨(rowBytes ns).take ((rowBytes ns).length - away), cum ns k, 0, 0⟩ : St).num = (0, ⟨(rowBytes ns).take ((rowBytes ns).length - away), (rowBytes ns).length - away, 13, (((rowBytes ns).length - away : Nat) : Int)⟩) := by
  have hk : k < ns.length := by omega
  have hc := cum_succ hk
  rw [cum_all h] at hc
  have hd : ((rowBytes ns).take ((rowBytes ns).length - away)).drop (cum ns k) = (digs (ns.getD k 0)).take ((digs (ns.getD k 0)).length - away) := by
    rw [List.drop_take, row_drop hk, List.drop_of_length_le (by omega)]
    have e : (rowBytes ns).length - away - cum ns k = (digs (ns.getD k 0)).length - away := by omega
    rw [e]
    simp [rowBytes]
  rw [num_short _ _ (ns.getD k 0) _ hd (hu _ (by rw [List.getD_eq_getElem?_getD, List.getElem?_eq_getElem hk]; exact List.getElem_mem hk)) (by omega)]
  have e : cum ns k + ((digs (ns.getD k 0)).length - away) = (rowBytes ns).length - away := by omega
  rw [e, List.length_take, Nat.min_eq_left (by omega)]
end Go.Proofs.Ytiodeaoollhcgaa
