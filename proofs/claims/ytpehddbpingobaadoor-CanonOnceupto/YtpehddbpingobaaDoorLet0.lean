/-
  What a byte is between quotes, plain.
-/
import Derived.Test.YtpehddbpingobaaDoorHx0
namespace Go.Proofs.YtpehddbpingobaaDoor
open Go.RowKit Go.Lib
set_option linter.unusedVariables false
set_option linter.unusedSimpArgs false

/-- A byte, as it stands between quotes. -/
def letL (c : UInt8) : List UInt8 :=
  if c = 34 then [92, 34] else if c = 92 then [92, 92] else if c = 8 then [92, 98] else if c = 12 then [92, 102] else if c = 10 then [92, 110] else if c = 13 then [92, 114] else if c = 9 then [92, 116]
  else if c.toNat < 32 then 92 :: 117 :: hx 4 c.toNat else [c]
theorem letL_len (c : UInt8) : (letL c).length ≤ 6 := by
  unfold letL
  repeat' split
  all_goals first | decide | simp [hx_len]
def quoL (s : List UInt8) : List UInt8 := 34 :: (s.flatMap letL ++ [34])
theorem flat_len6 : ∀ s : List UInt8, (s.flatMap letL).length ≤ 6 * s.length
  | [] => by simp
  | c :: r => by
    have := flat_len6 r
    have := letL_len c
    rw [List.flatMap_cons, List.length_append, List.length_cons]
    omega
theorem quoL_len (s : List UInt8) : (quoL s).length ≤ 6 * s.length + 2 := by
  have := flat_len6 s
  rw [quoL, List.length_cons, List.length_append, List.length_singleton]
  omega
def commaL (i : Nat) : List UInt8 := if i = 0 then [] else [44]
theorem commaL_len (i : Nat) : (commaL i).length ≤ 1 := by unfold commaL; split <;> simp
end Go.Proofs.YtpehddbpingobaaDoor
