/-
  A conversion whose run is known, as an operation.
-/
import Derived.Test.YtmejpjknofbffaaDoorProg
import Derived.WalkKit
import Derived.Lib.Hide
namespace Go.Proofs.YtmejpjknofbffaaDoor
open Go.RowKit Go.Lib
set_option linter.unusedVariables false
set_option linter.unusedSimpArgs false

theorem conv_exec {P : Program} {w w' : World} {x : Operand} {tx ty T : TypeId} {d : Option Nat} {ps : String} {af : Array Edge} {g : Option (Nat × Bool)} (a : Act) {v1 v : Value} (h1 : a.eval x = v1) (h : (convert tx ty v1).run P w = .ok v w') :
    (execOp a.eval ⟨d, .convert tx ty x, T, ps, af, g⟩).run P w = .ok (.value v) w' := by
  simp [execOp, h1, h, Result.andThen]
end Go.Proofs.YtmejpjknofbffaaDoor
