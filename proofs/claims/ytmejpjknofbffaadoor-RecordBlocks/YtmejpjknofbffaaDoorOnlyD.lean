/-
  Where only one block has changed: what that says.
-/
import Derived.WalkKit
import Derived.Below
import Derived.Lib.Hide
namespace Go.Proofs.YtmejpjknofbffaaDoor
open Go Go.RowKit Go.Lib

def Only (g : Nat) (w w' : World) : Prop := w.heap.size ≤ w'.heap.size ∧ (∀ k, k < w.heap.size → k ≠ g → w'.heap[k]? = w.heap[k]?) ∧ ∀ (B : Nat) (W : World), Below B W w → B ≤ g → B ≤ w.heap.size → Below B W w'
end Go.Proofs.YtmejpjknofbffaaDoor
