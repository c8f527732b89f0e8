/-
  What a Cur does, in plain terms: bytes, a place, the first fault. Nothing of the program is named here.
-/
namespace Go.Proofs.Ytiodeaoollhcgaa

/-- Bytes, how many were taken, the fault's code (0: none), and where. -/
structure St where
  bs : List Int
  t : Nat
  c : Int
  a : Int

namespace St
def start (bs : List Int) : St := ⟨bs, 0, 0, 0⟩
def fail (s : St) (code at_ : Int) : St := if s.c = 0 ∧ code ≠ 0 then { s with c := code, a := at_ } else s
def peek (s : St) : Int × Bool := if s.c = 0 ∧ s.t < s.bs.length then (s.bs.getD s.t 0, true) else (0, false)
def byte (s : St) : Int × St := if s.c = 0 ∧ s.t < s.bs.length then (s.bs.getD s.t 0, { s with t := s.t + 1 }) else (0, s.fail 13 s.bs.length)
def next (s : St) (n : Nat) : List Int × St := ((s.bs.drop s.t).take n, { s with t := s.t + n })
def take (s : St) (n : Int) : List Int × St :=
  if s.c ≠ 0 then ([], s) else if n < 0 then ([], s.fail 1 s.t) else if (s.bs.length : Int) - s.t < n then ([], s.fail 13 s.bs.length) else s.next n.toNat
/-- How many bytes lie ahead of the first x; all, if there is none. -/
def ahead (x : Int) (l : List Int) : Nat := (l.takeWhile (· ≠ x)).length
def until_ (s : St) (x : Int) : List Int × Bool × St :=
  if s.c ≠ 0 then ([], false, s)
  else if ahead x (s.bs.drop s.t) < (s.bs.drop s.t).length then
    ((s.bs.drop s.t).take (ahead x (s.bs.drop s.t)), true, { s with t := s.t + ahead x (s.bs.drop s.t) + 1 })
  else (s.bs.drop s.t, false, { s with t := s.bs.length })
end St
end Go.Proofs.Ytiodeaoollhcgaa
