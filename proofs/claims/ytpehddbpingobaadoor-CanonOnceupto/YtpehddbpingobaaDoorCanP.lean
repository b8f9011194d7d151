/-
  Parts of canonical texts are no longer than they.
-/
import Derived.Test.YtpehddbpingobaaDoorCanT0
namespace Go.Proofs.YtpehddbpingobaaDoor
open Go.RowKit Go.Lib
set_option linter.unusedVariables false
set_option linter.unusedSimpArgs false

theorem canL_part : ∀ (l : List V) (i j : Nat), (canL i (l.take j)).length ≤ (canL i l).length
  | [], i, j => by simp
  | v :: r, i, 0 => by simp [canL]
  | v :: r, i, j + 1 => by
    have := canL_part r (i + 1) j
    simp only [List.take_succ_cons, canL, List.length_append] at *
    omega
theorem canM_part : ∀ (l : List (ByteArray × V)) (i j : Nat), (canM i (l.take j)).length ≤ (canM i l).length
  | [], i, j => by simp
  | (s, v) :: r, i, 0 => by simp [canM]
  | (s, v) :: r, i, j + 1 => by
    have := canM_part r (i + 1) j
    simp only [List.take_succ_cons, canM, List.length_append] at *
    omega
end Go.Proofs.YtpehddbpingobaaDoor
