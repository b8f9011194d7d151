/-
  append([]byte{}, b...): a copy, its room bounded.
-/
import Derived.Test.YtmejpjknofbffaaDoorStp
namespace Go.Proofs.YtmejpjknofbffaaDoor
open Go.RowKit Go.Lib
set_option linter.unusedVariables false
set_option linter.unusedSimpArgs false

theorem app_copy2 {W : World} {A : Option Addr} {x : List UInt8} (c : Nat) (h : Bt W A x) (hx : x.length ≤ 65536) (ty : TypeId) :
    ∃ g c' w', (Builtin.append_ #[28, 28] ty #[.slice (some ⟨W.heap.size, 0, none⟩) 0 0, .slice A x.length c]).run Tryd.prog (W.alloc (.cells #[] 5)) = .ok (.slice (some ⟨g, 0, none⟩) x.length c') w' ∧ x.length ≤ c' ∧ c' ≤ 9223372036854775807 ∧ Bt w' (some ⟨g, 0, none⟩) x ∧ Below W.heap.size W w' := by
  have hT : Tn W (W.alloc (.cells #[] 5)) (.slice (some ⟨W.heap.size, 0, none⟩) 0 0) [] := ⟨new_below W _, own_empty W W.heap.size _ 1 (Nat.le_refl _), ⟨_, rfl⟩⟩
  obtain ⟨v', w', hr, hT2, -⟩ := tn_app c hT h (by simpa using hx) ty
  obtain ⟨g, c', e, h1, h2, h3, -, -⟩ := hT2.out
  subst e
  rw [List.nil_append] at hr h1 h3
  unfold maxLen at h2
  exact ⟨g, c', w', hr, h1, h2, h3, hT2.b⟩
end Go.Proofs.YtmejpjknofbffaaDoor
