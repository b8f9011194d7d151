/-
  The document's Err and In, walked.
-/
import Derived.Test.YtmejpjknofbffaaDoorProg
import Derived.WalkKit
import Derived.Lib.Hide
import Derived.Below
import Derived.KernelRfl
namespace Go.Proofs.YtmejpjknofbffaaDoor
open Go.RowKit Go.Lib
set_option linter.unusedVariables false
set_option linter.unusedSimpArgs false

theorem err_any (c : Int) (w : World) : Calls Tryd.prog 16 #[.int .i64 c] w fun e w' => e = .returned (.agg #[.int .i64 c, .int .i64 (-1), .string ⟨#[]⟩]) ∧ Below w.heap.size w w' := by
  go_enter Tryd.func16, Tryd.ntmps16
  go_wp2
  exact bodyPost_ret (v := .agg #[.int .i64 c, .int .i64 (-1), .string ⟨#[]⟩]) (by simp [results, Tryd.results16, go_sem]) rfl ⟨rfl, (Below.refl _ _).alloc (Nat.le_refl _) _⟩

/-- An answer within a field. -/
def inPath (f : ByteArray) (c : Int) (p : ByteArray) : ByteArray := if c = 0 then p else (⟨#[47]⟩ ++ f) ++ p
theorem in_any (f p : ByteArray) (c n : Int) (w : World) (hf : f.size ≤ 1000000000) (hp : p.size ≤ 1000000000) :
    Calls Tryd.prog 15 #[.string f, .agg #[.int .i64 c, .int .i64 n, .string p]] w fun e w' => e = .returned (.agg #[.int .i64 c, .int .i64 n, .string (inPath f c p)]) ∧ Below w.heap.size w w' := by
  unfold inPath
  by_cases hc : c = 0
  · subst hc
    rw [if_pos rfl]
    go_enter Tryd.func15, Tryd.ntmps15
    go_wp2
    exact bodyPost_ret (v := .agg #[.int .i64 0, .int .i64 n, .string p]) (by simp [results, Tryd.results15, go_sem]) rfl ⟨rfl, by
      repeat (first | exact Below.refl _ _ | refine Below.setCell ?_ (by simp <;> omega) _ | refine Below.alloc ?_ (by simp <;> omega) _ | refine Below.drew ?_)⟩
  · have hc' : (c != 0) = true := by simpa using hc
    rw [if_neg hc]
    clear hc
    go_enter Tryd.func15, Tryd.ntmps15
    go_wp2
    exact bodyPost_ret (v := .agg #[.int .i64 c, .int .i64 n, .string ((⟨#[47]⟩ ++ f) ++ p)]) (by simp [results, Tryd.results15, go_sem]) rfl ⟨rfl, by
      repeat (first | exact Below.refl _ _ | refine Below.setCell ?_ (by simp <;> omega) _ | refine Below.alloc ?_ (by simp <;> omega) _ | refine Below.drew ?_)⟩
end Go.Proofs.YtmejpjknofbffaaDoor
