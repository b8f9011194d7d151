/-
  Where only one block has changed: small facts.
-/
import Derived.Test.YtmejpjknofbffaaDoorOnlyD
namespace Go.Proofs.YtmejpjknofbffaaDoor
open Go.RowKit Go.Lib
set_option linter.unusedVariables false
set_option linter.unusedSimpArgs false

theorem Only.refl (g : Nat) (w : World) : Only g w w := ⟨Nat.le_refl _, fun _ _ _ => rfl, fun _ _ h _ _ => h⟩
theorem Only.step {g : Nat} {w w' w2 : World} (h : Only g w w') (hb : Below w'.heap.size w' w2) : Only g w w2 :=
  ⟨Nat.le_trans h.1 hb.size, fun k hk hg => (hb.block k (Nat.lt_of_lt_of_le hk h.1)).trans (h.2.1 k hk hg), fun B W h1 h2 h3 => (h.2.2 B W h1 h2 h3).trans (hb.mono (Nat.le_trans h3 h.1))⟩
theorem Only.put {g : Nat} {w w' : World} (h : Only g w w') (q : Nat) (v : Value) : Only g w (w'.setCell ⟨g, q, none⟩ v) :=
  ⟨by simpa [World.setCell] using h.1, fun k hk hg => (Below.heap_setCell w' ⟨g, q, none⟩ v k (by simpa using hg)).trans (h.2.1 k hk hg), fun B W h1 h2 h3 => (h.2.2 B W h1 h2 h3).setCell (by simpa using h2) _⟩
theorem Only.cell {g : Nat} {w w' : World} (h : Only g w w') {p : Addr} (hp : p.block < w.heap.size) (hg : p.block ≠ g) : w'.cell? p = w.cell? p := World.cell?_of_block (h.2.1 _ hp hg)

end Go.Proofs.YtmejpjknofbffaaDoor
