/-
  Bytes as cells; bytes in memory, as a slice has them.
-/
import Derived.WalkKit
import Derived.Below
import Derived.Lib.Hide
namespace Go.Proofs.YtmejpjknofbffaaDoor
open Go.RowKit Go.Lib
set_option linter.unusedVariables false
set_option linter.unusedSimpArgs false

/-- Bytes as cells. -/
def bcs (l : List UInt8) : List Value := l.map fun b => Value.int .u8 (b.toNat : Int)
theorem bcs_len (l : List UInt8) : (bcs l).length = l.length := by simp [bcs]
theorem bcs_one (l : List UInt8) : ∀ v ∈ bcs l, v.oneCell' = true := by
  intro v hv
  obtain ⟨_, _, rfl⟩ := List.mem_map.1 hv
  rfl
theorem bcs_app (a b : List UInt8) : bcs (a ++ b) = bcs a ++ bcs b := by simp [bcs]
theorem bcs_get (l : List UInt8) (j : Nat) : (bcs l)[j]? = l[j]?.map fun b => Value.int .u8 (b.toNat : Int) := by simp [bcs]

/-- Bytes in memory, as a slice has them. -/
def Bt (w : World) (A : Option Addr) (x : List UInt8) : Prop := 0 < x.length → ∃ ad, A = some ad ∧ ∀ j v, (bcs x)[j]? = some v → w.cell? (ad.add j) = some v
theorem Bt.keep {w w' : World} {A : Option Addr} {x : List UInt8} (h : Bt w A x) (hb : Below w.heap.size w w') : Bt w' A x := fun h0 => by
  obtain ⟨ad, e, h1⟩ := h h0
  refine ⟨ad, e, fun j v hv => ?_⟩
  have h2 := h1 j v hv
  rw [hb.cell (block_lt_of_cell h2)]
  exact h2
theorem Bt.same {w w' : World} {A : Option Addr} {x : List UInt8} (h : Bt w A x) (hh : w'.heap = w.heap) : Bt w' A x := fun h0 => by
  obtain ⟨ad, e, h1⟩ := h h0
  exact ⟨ad, e, fun j v hv => (World.cell?_of_block (w := w) (a := ad.add j) (by rw [hh])).trans (h1 j v hv)⟩
end Go.Proofs.YtmejpjknofbffaaDoor
