/-
  The document's example (awake), walked: it answers true.
-/
import Derived.Test.YtdpohklklmkjbaaDoorMem2
import Derived.Test.YtdpohklklmkjbaaDoorIs
namespace Go.Proofs.YtdpohklklmkjbaaDoor
open Go.RowKit Go.Lib
set_option linter.unusedVariables false
set_option linter.unusedSimpArgs false

def big : V := .mk 2 false 1152921504606846976 ⟨#[]⟩ [] []
def kA : ByteArray := ⟨#[97]⟩
def kB : ByteArray := ⟨#[98]⟩
def vA : V := .mk 4 false 0 ⟨#[]⟩ [big] []
def vB : V := .mk 2 false 1 ⟨#[]⟩ [] []
def example1 : List (ByteArray × V) := [(kB, vB), (kA, vA)]
theorem canon_example : canonM example1 = example1 := by kernel_rfl
theorem vsize_example : vsizeM example1 = 3 := by kernel_rfl
theorem chk_example : chk 20 (.mk 5 false 0 ⟨#[]⟩ [] [(kA, vA), (kB, vB)]) = some ([kA, ⟨#[48]⟩], 4) := by kernel_rfl
theorem tell_example : tellGo (-1) ⟨#[]⟩ ([kA, ⟨#[48]⟩].map fun s => ((-1 : Int), s)) = (-1, ⟨#[47, 97, 47, 48]⟩) := by kernel_rfl

theorem sorted_example {ms : List (ByteArray × V)} (hp : ms.Perm (canonM example1)) (hs : SortedM ms) : ms = [(kA, vA), (kB, vB)] := by
  rw [canon_example] at hp
  have hl := hp.length_eq
  have hne : kA ≠ kB := by decide
  match ms, hl, hp, hs with
  | [x, y], _, hp, hs =>
    have h1 : x = (kB, vB) ∨ x = (kA, vA) := by simpa [example1] using hp.mem_iff.1 (List.mem_cons_self : x ∈ [x, y])
    have h2 : y = (kB, vB) ∨ y = (kA, vA) := by simpa [example1] using hp.mem_iff.1 (List.mem_cons_of_mem x List.mem_cons_self : y ∈ [x, y])
    have h3 := hp.mem_iff.2 (List.mem_cons_self : (kB, vB) ∈ example1)
    have h4 := hp.mem_iff.2 (List.mem_cons_of_mem _ List.mem_cons_self : (kA, vA) ∈ example1)
    have h5 := hs 0 1 (by simp) (by simp) (by omega)
    rcases h1 with rfl | rfl <;> rcases h2 with rfl | rfl
    · simp at h4; exact absurd h4.1 hne
    · exact absurd h5 (by decide)
    · rfl
    · simp at h3; exact absurd h3.1.symm hne

/-- The example's members in memory. -/
theorem val_example {w : World} {B g1 g2 : Nat} (h1 : g1 < B) (h2 : g2 < B)
    (c1 : ∀ q, q < 6 → w.cell? ⟨g1, q, none⟩ = (C6.mk 2 false 1152921504606846976 ⟨#[]⟩ none 0 0 none 0 0).arr[q]?)
    (c2 : ∀ q, q < 14 → w.cell? ⟨g2, q, none⟩ = (mem7 kB (C6.mk 2 false 1 ⟨#[]⟩ none 0 0 none 0 0) ++ mem7 kA (C6.mk 4 false 0 ⟨#[]⟩ (some ⟨g1, 0, none⟩) 1 1 none 0 0))[q]?) :
    ValM w (· < B) 1000000 example1 (some ⟨g2, 0, none⟩) 0 := by
  have hv : ∀ n, Val w (· < B) 1000000 (.mk 2 false n ⟨#[]⟩ [] []) (C6.mk 2 false n ⟨#[]⟩ none 0 0 none 0 0).arr := fun n => by
    rw [Val]
    refine ⟨none, 0, none, 0, by simp [C6.arr], ⟨by simp, by simp, by simp [ByteArray.size], by simp, by simp, by simp, by simp⟩, by rw [ValL]; trivial, by rw [ValM]; trivial⟩
  rw [example1, ValM]
  refine ⟨⟨g2, 0, _, rfl, h2, by decide, c2 0 (by omega), fun j hj => ?_, hv 1⟩, ?_⟩
  · have := c2 (1 + j) (by omega)
    rw [show 0 + 0 * 7 + (1 + j) = 1 + j by omega, this, C6.arr_get, List.getElem?_append_left (by simp [mem7, C6.cells]; omega)]
    simp [mem7, Nat.add_comm 1 j]
  · rw [ValM]
    refine ⟨⟨g2, 0, (C6.mk 4 false 0 ⟨#[]⟩ (some ⟨g1, 0, none⟩) 1 1 none 0 0).arr, rfl, h2, by decide, c2 7 (by omega), fun j hj => ?_, ?_⟩, by rw [ValM]; trivial⟩
    · have := c2 (8 + j) (by omega)
      rw [show 0 + (0 + 1) * 7 + (1 + j) = 8 + j by omega, this, C6.arr_get, List.getElem?_append_right (by simp [mem7, C6.cells]; omega)]
      rw [show 8 + j - (mem7 kB (C6.mk 2 false 1 ⟨#[]⟩ none 0 0 none 0 0)).length = j + 1 by simp [mem7, C6.cells]; omega]
      simp [mem7]
    · rw [vA, Val]
      refine ⟨some ⟨g1, 0, none⟩, 1, none, 0, by simp [C6.arr], ⟨by simp, by simp, by simp [ByteArray.size], by simp, by simp, by simp, by simp⟩, ?_, by rw [ValM]; trivial⟩
      rw [ValL]
      refine ⟨⟨g1, 0, _, rfl, h1, fun j hj => ?_, hv _⟩, by rw [ValL]; trivial⟩
      have := c1 j hj
      simpa using this

end Go.Proofs.YtdpohklklmkjbaaDoor
