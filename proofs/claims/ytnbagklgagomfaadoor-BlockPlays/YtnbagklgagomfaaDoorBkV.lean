/-
  The laws' code of an error's value, walked (an error that isn't wrapped, or none).
-/
import Derived.Test.YtnbagklgagomfaaDoorTell
import Derived.Test.YtnbagklgagomfaaDoorBk0
namespace Go.Proofs.YtnbagklgagomfaaDoor
open Go.RowKit Go.Lib
set_option linter.unusedVariables false
set_option linter.unusedSimpArgs false

set_option maxRecDepth 100000 in
set_option maxHeartbeats 2000000 in
theorem code_of {w : World} {v : Value} {c : Int} (h : Calls Tryd.prog 19 #[v] w fun e w' => e = .returned (.agg #[.int .i64 c, .int .i64 (-1), .string ⟨#[]⟩]) ∧ Below w.heap.size w w') :
    Calls Tryd.prog 8 #[v] w fun e w' => e = .returned (.int .i64 c) ∧ Below w.heap.size w w' := by
  go_enter Tryd.func8, Tryd.ntmps8
  go_wp2_with fail
  refine h.mono ?_
  rintro e W1 ⟨rfl, hb⟩
  have HB := Lib.hid hb
  have hz : w.heap.size ≤ W1.heap.size := hb.size
  clear hb h
  go_wp2_with fail
  go_ret
  exact ⟨rfl, HB.out.alloc HB.out.size _⟩
theorem code_any (w : World) (hG : ErrVar w) (c : Nat) : Calls Tryd.prog 8 #[errV c] w fun e w' => e = .returned (.int .i64 (c : Int)) ∧ Below w.heap.size w w' := by
  unfold errV
  by_cases h : c = 0
  · rw [if_pos h]
    subst h
    exact code_of (tell_nil w)
  · rw [if_neg h]
    exact code_of ((tell_chain [] (c : Int) _ w rfl hG (by decide)).mono fun e w' h => h)
end Go.Proofs.YtnbagklgagomfaaDoor
