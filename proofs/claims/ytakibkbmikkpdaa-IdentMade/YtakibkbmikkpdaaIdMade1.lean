/-
  IdentMade, walked: of parts that may be, put together, there is a name, as long as the program's Is answers by the document's words.
-/
import Derived.Test.YtakibkbmikkpdaaIdLaw0
import Derived.Test.YtakibkbmikkpdaaIdMade0
namespace Go.Proofs.Ytakibkbmikkpdaa
open Go.RowKit Go.Lib
set_option linter.unusedVariables false
set_option linter.unusedSimpArgs false

def letA (j : Nat) : UInt8 := ([97, 48, 46, 122, 45] : List UInt8).getD (j % 5) 0
def letH (j : Nat) : UInt8 := ([120, 57, 46, 45] : List UInt8).getD (j % 4) 0
theorem cutA (j : Nat) : (⟨#[97, 48, 46, 122, 45]⟩ : ByteArray).extract (j % 5) (j % 5 + 1) = ofL [letA j] := by
  unfold letA
  have : j % 5 = 0 ∨ j % 5 = 1 ∨ j % 5 = 2 ∨ j % 5 = 3 ∨ j % 5 = 4 := by omega
  rcases this with h | h | h | h | h <;> rw [h] <;> decide
theorem cutH (j : Nat) : (⟨#[120, 57, 46, 45]⟩ : ByteArray).extract (j % 4) (j % 4 + 1) = ofL [letH j] := by
  unfold letH
  have : j % 4 = 0 ∨ j % 4 = 1 ∨ j % 4 = 2 ∨ j % 4 = 3 := by omega
  rcases this with h | h | h | h <;> rw [h] <;> decide
def letsA (n : Nat) : List UInt8 := (List.range n).map letA
def letsH (n : Nat) : List UInt8 := (List.range n).map letH
theorem ofL_append (a b : List UInt8) : ofL a ++ ofL b = ofL (a ++ b) := by
  apply ByteArray.ext
  apply Array.toList_inj.1
  simp [ofL]
theorem letsA_succ (n : Nat) : letsA (n + 1) = letsA n ++ [letA n] := by simp [letsA, List.range_succ]
theorem letsH_succ (n : Nat) : letsH (n + 1) = letsH n ++ [letH n] := by simp [letsH, List.range_succ]
theorem letA_cases (j : Nat) : letA j = 97 ∨ letA j = 48 ∨ letA j = 46 ∨ letA j = 122 ∨ letA j = 45 := by
  unfold letA
  have : j % 5 = 0 ∨ j % 5 = 1 ∨ j % 5 = 2 ∨ j % 5 = 3 ∨ j % 5 = 4 := by omega
  rcases this with h | h | h | h | h <;> rw [h] <;> decide
theorem letH_cases (j : Nat) : letH j = 120 ∨ letH j = 57 ∨ letH j = 46 ∨ letH j = 45 := by
  unfold letH
  have : j % 4 = 0 ∨ j % 4 = 1 ∨ j % 4 = 2 ∨ j % 4 = 3 := by omega
  rcases this with h | h | h | h <;> rw [h] <;> decide
theorem letsA_plain (n : Nat) : (letsA n).contains 58 = false ∧ (letsA n).all (hasB opqL) = true ∧ (letsA n).all (hasB locL) = true ∧ (letsA n).length = n := by
  refine ⟨?_, ?_, ?_, by simp [letsA]⟩
  · cases h : (letsA n).contains 58 with
    | false => rfl
    | true =>
      rw [List.contains_iff_mem] at h
      obtain ⟨j, -, hj⟩ := List.mem_map.1 h
      rcases letA_cases j with e | e | e | e | e <;> rw [e] at hj <;> exact absurd hj (by decide)
  · rw [List.all_eq_true]
    intro x hx
    obtain ⟨j, -, rfl⟩ := List.mem_map.1 hx
    rcases letA_cases j with e | e | e | e | e <;> rw [e] <;> decide
  · rw [List.all_eq_true]
    intro x hx
    obtain ⟨j, -, rfl⟩ := List.mem_map.1 hx
    rcases letA_cases j with e | e | e | e | e <;> rw [e] <;> decide
theorem letsH_plain (n : Nat) : (letsH n).contains 58 = false ∧ (letsH n).all (hasB srvL) = true ∧ (letsH n).length = n := by
  refine ⟨?_, ?_, by simp [letsH]⟩
  · cases h : (letsH n).contains 58 with
    | false => rfl
    | true =>
      rw [List.contains_iff_mem] at h
      obtain ⟨j, -, hj⟩ := List.mem_map.1 h
      rcases letH_cases j with e | e | e | e <;> rw [e] at hj <;> exact absurd hj (by decide)
  · rw [List.all_eq_true]
    intro x hx
    obtain ⟨j, -, rfl⟩ := List.mem_map.1 hx
    rcases letH_cases j with e | e | e | e <;> rw [e] <;> decide
end Go.Proofs.Ytakibkbmikkpdaa
