/-
  A value's canonical text, plain: what a byte is between quotes, what is laid for a value; how long it may be.
-/
import Derived.Test.YtpehddbpingobaaDoorSize1
import Derived.Test.YtpehddbpingobaaDoorLet0
namespace Go.Proofs.YtpehddbpingobaaDoor
open Go.RowKit Go.Lib
set_option linter.unusedVariables false
set_option linter.unusedSimpArgs false

mutual
/-- The text of a value. -/
def canT : V → List UInt8
  | .mk k y n t l m =>
    if k = 1 then (if y then [116, 114, 117, 101] else [102, 97, 108, 115, 101])
    else if k = 2 then Lib.itoa n
    else if k = 3 then quoL t.data.toList
    else if k = 4 then 91 :: (canL 0 l ++ [93])
    else if k = 5 then 123 :: (canM 0 m ++ [125])
    else [110, 117, 108, 108]
def canL : Nat → List V → List UInt8
  | _, [] => []
  | i, v :: r => commaL i ++ canT v ++ canL (i + 1) r
def canM : Nat → List (ByteArray × V) → List UInt8
  | _, [] => []
  | i, (s, v) :: r => commaL i ++ quoL s.data.toList ++ [58] ++ canT v ++ canM (i + 1) r
end
theorem canL_snoc : ∀ (l : List V) (i : Nat) (v : V), canL i (l ++ [v]) = canL i l ++ (commaL (i + l.length) ++ canT v)
  | [], i, v => by simp [canL]
  | x :: r, i, v => by
    rw [List.cons_append, canL, canL, canL_snoc r (i + 1) v, List.length_cons, show i + 1 + r.length = i + (r.length + 1) by omega]
    simp
theorem canM_snoc : ∀ (l : List (ByteArray × V)) (i : Nat) (s : ByteArray) (v : V), canM i (l ++ [(s, v)]) = canM i l ++ (commaL (i + l.length) ++ quoL s.data.toList ++ [58] ++ canT v)
  | [], i, s, v => by simp [canM]
  | (q, x) :: r, i, s, v => by
    rw [List.cons_append, canM, canM, canM_snoc r (i + 1) s v, List.length_cons, show i + 1 + r.length = i + (r.length + 1) by omega]
    simp
theorem take_snocV {α : Type} (l : List α) (j : Nat) (h : j < l.length) : l.take (j + 1) = l.take j ++ [l[j]] := List.take_succ_eq_append_getElem h
theorem canL_take (l : List V) (j : Nat) (h : j < l.length) : canL 0 (l.take (j + 1)) = canL 0 (l.take j) ++ (commaL j ++ canT l[j]) := by
  rw [take_snocV l j h, canL_snoc, List.length_take, Nat.min_eq_left (by omega), Nat.zero_add]
theorem canM_take (l : List (ByteArray × V)) (j : Nat) (h : j < l.length) : canM 0 (l.take (j + 1)) = canM 0 (l.take j) ++ (commaL j ++ quoL l[j].1.data.toList ++ [58] ++ canT l[j].2) := by
  have e := canM_snoc (l.take j) 0 l[j].1 l[j].2
  rw [List.length_take, Nat.min_eq_left (by omega), Nat.zero_add] at e
  rw [take_snocV l j h]
  exact e
end Go.Proofs.YtpehddbpingobaaDoor
