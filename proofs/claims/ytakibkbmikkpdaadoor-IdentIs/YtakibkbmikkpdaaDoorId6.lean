/-
  Names: a kind's word, by the document, walked.
-/
import Derived.Test.YtakibkbmikkpdaaDoorId5
namespace Go.Proofs.YtakibkbmikkpdaaDoor
open Go.RowKit Go.Lib
set_option linter.unusedVariables false
set_option linter.unusedSimpArgs false

def wordB (k : Int) : ByteArray :=
  if k = 1 then ⟨#[114, 111, 111, 109]⟩ else if k = 2 then ⟨#[117, 115, 101, 114]⟩ else if k = 3 then ⟨#[97, 108, 105, 97, 115]⟩ else if k = 4 then ⟨#[101, 118, 101, 110, 116]⟩ else if k = 5 then ⟨#[115, 101, 114, 118, 101, 114]⟩ else ⟨#[]⟩
theorem run_word1 (W : World) : Sem.run Tryd.prog (Instr.index 63 (.agg #[.string ⟨#[]⟩, .string ⟨#[114, 111, 111, 109]⟩, .string ⟨#[117, 115, 101, 114]⟩, .string ⟨#[97, 108, 105, 97, 115]⟩, .string ⟨#[101, 118, 101, 110, 116]⟩, .string ⟨#[115, 101, 114, 118, 101, 114]⟩]) (.int .i64 1)) W = .ok (.string ⟨#[114, 111, 111, 109]⟩) W := by kernel_rfl
theorem run_word2 (W : World) : Sem.run Tryd.prog (Instr.index 63 (.agg #[.string ⟨#[]⟩, .string ⟨#[114, 111, 111, 109]⟩, .string ⟨#[117, 115, 101, 114]⟩, .string ⟨#[97, 108, 105, 97, 115]⟩, .string ⟨#[101, 118, 101, 110, 116]⟩, .string ⟨#[115, 101, 114, 118, 101, 114]⟩]) (.int .i64 2)) W = .ok (.string ⟨#[117, 115, 101, 114]⟩) W := by kernel_rfl
theorem run_word3 (W : World) : Sem.run Tryd.prog (Instr.index 63 (.agg #[.string ⟨#[]⟩, .string ⟨#[114, 111, 111, 109]⟩, .string ⟨#[117, 115, 101, 114]⟩, .string ⟨#[97, 108, 105, 97, 115]⟩, .string ⟨#[101, 118, 101, 110, 116]⟩, .string ⟨#[115, 101, 114, 118, 101, 114]⟩]) (.int .i64 3)) W = .ok (.string ⟨#[97, 108, 105, 97, 115]⟩) W := by kernel_rfl
theorem run_word4 (W : World) : Sem.run Tryd.prog (Instr.index 63 (.agg #[.string ⟨#[]⟩, .string ⟨#[114, 111, 111, 109]⟩, .string ⟨#[117, 115, 101, 114]⟩, .string ⟨#[97, 108, 105, 97, 115]⟩, .string ⟨#[101, 118, 101, 110, 116]⟩, .string ⟨#[115, 101, 114, 118, 101, 114]⟩]) (.int .i64 4)) W = .ok (.string ⟨#[101, 118, 101, 110, 116]⟩) W := by kernel_rfl
theorem run_word5 (W : World) : Sem.run Tryd.prog (Instr.index 63 (.agg #[.string ⟨#[]⟩, .string ⟨#[114, 111, 111, 109]⟩, .string ⟨#[117, 115, 101, 114]⟩, .string ⟨#[97, 108, 105, 97, 115]⟩, .string ⟨#[101, 118, 101, 110, 116]⟩, .string ⟨#[115, 101, 114, 118, 101, 114]⟩]) (.int .i64 5)) W = .ok (.string ⟨#[115, 101, 114, 118, 101, 114]⟩) W := by kernel_rfl
set_option maxRecDepth 10000 in
set_option maxHeartbeats 800000 in
theorem word_ref (k : Int) (w : World) : Calls Tryd.prog 11 #[.int .i64 k] w fun e w' => e = .returned (.string (wordB k)) ∧ w = w' := by
  by_cases k1 : k = 1
  · subst k1
    have hrun := run_word1
    go_enter Tryd.func11, Tryd.ntmps11
    go_wp2_with fail
    go_ret
    exact ⟨rfl, rfl⟩
  by_cases k2 : k = 2
  · subst k2
    have hrun := run_word2
    go_enter Tryd.func11, Tryd.ntmps11
    go_wp2_with fail
    go_ret
    exact ⟨rfl, rfl⟩
  by_cases k3 : k = 3
  · subst k3
    have hrun := run_word3
    go_enter Tryd.func11, Tryd.ntmps11
    go_wp2_with fail
    go_ret
    exact ⟨rfl, rfl⟩
  by_cases k4 : k = 4
  · subst k4
    have hrun := run_word4
    go_enter Tryd.func11, Tryd.ntmps11
    go_wp2_with fail
    go_ret
    exact ⟨rfl, rfl⟩
  by_cases k5 : k = 5
  · subst k5
    have hrun := run_word5
    go_enter Tryd.func11, Tryd.ntmps11
    go_wp2_with fail
    go_ret
    exact ⟨rfl, rfl⟩
  have hw : wordB k = ⟨#[]⟩ := by rw [wordB, if_neg k1, if_neg k2, if_neg k3, if_neg k4, if_neg k5]
  rw [hw]
  clear hw
  by_cases hlo : k < 1
  · have d1 : decide (k < 1) = true := decide_eq_true hlo
    go_enter Tryd.func11, Tryd.ntmps11
    go_wp2_with fail
    go_ret
    exact ⟨rfl, rfl⟩
  · have d1 : decide (k < 1) = false := decide_eq_false hlo
    have d2 : decide (5 < k) = true := decide_eq_true (by omega)
    go_enter Tryd.func11, Tryd.ntmps11
    go_wp2_with fail
    go_ret
    exact ⟨rfl, rfl⟩
end Go.Proofs.YtakibkbmikkpdaaDoor
