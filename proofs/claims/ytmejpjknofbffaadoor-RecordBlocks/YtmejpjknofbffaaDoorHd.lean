/-
  So many cells of a block, known, that may be written.
-/
import Derived.Test.YtmejpjknofbffaaDoorBkL
import Derived.Deep.MidRow
namespace Go.Proofs.YtmejpjknofbffaaDoor
open Go.RowKit Go.Lib
set_option linter.unusedVariables false
set_option linter.unusedSimpArgs false

/-- So many cells, that may be written. -/
def HdD (w : World) (d : Nat) (L : List Value) : Prop := w.rangeAt d 0 L ∧ ∀ j, j < L.length → w.frozen? ⟨d, j, none⟩ = false

theorem HdD.cell {w : World} {d : Nat} {L : List Value} (h : HdD w d L) (j : Nat) (v : Value) (hv : L[j]? = some v) : w.cell? ⟨d, j, none⟩ = some v := by
  have := h.1 j v hv
  rwa [Nat.zero_add] at this

theorem HdD.put {w : World} {d : Nat} {L : List Value} (h : HdD w d L) (j : Nat) (hj : j < L.length) (v : Value) : HdD (w.setCell ⟨d, j, none⟩ v) d (L.set j v) := by
  refine ⟨fun i u hu => ?_, fun i hi => by rw [World.frozen?_setCell]; exact h.2 i (by simpa using hi)⟩
  rw [Nat.zero_add]
  by_cases e : j = i
  · subst e
    rw [World.cell?_setCell_same _ _ _ (h.cell j _ (List.getElem?_eq_getElem hj))]
    rw [List.getElem?_set_self hj] at hu
    exact hu
  · rw [World.cell?_setCell_other _ _ _ _ (fun he => e (by cases he; rfl))]
    rw [List.getElem?_set_ne e] at hu
    exact h.cell i u hu

theorem HdD.same {w w' : World} {d : Nat} {L : List Value} (h : HdD w d L) (h1 : w'.heap[d]? = w.heap[d]?) : HdD w' d L :=
  ⟨fun j v hv => (World.cell?_of_block (w := w) (a := ⟨d, 0 + j, none⟩) h1).trans (h.1 j v hv), fun j hj => (World.frozen?_of_block (w := w) (a := ⟨d, j, none⟩) h1).trans (h.2 j hj)⟩

theorem HdD.tail {w : World} {d : Nat} {X : List Value} {Y Z : List Value} (h : HdD w d (X ++ Y)) (hl : Z.length = Y.length) : HdD (w.setCells d X.length Z) d (X ++ Z) := by
  have hp := range_part h.1
  rw [Nat.zero_add] at hp
  refine ⟨range_join (World.rangeAt_setCells_apart hp.1 _ _ _ (Or.inr (Or.inl (by omega)))) ?_, fun j hj => ?_⟩
  · rw [Nat.zero_add]
    refine World.rangeAt_setCells_same _ _ _ _ fun j hj => ⟨?_, h.2 _ (by simp; omega)⟩
    rw [hp.2 j _ (List.getElem?_eq_getElem (by omega))]
    rfl
  · rw [World.frozen?_setCells]
    exact h.2 j (by simp at hj ⊢; omega)

theorem HdD.mid {w : World} {d : Nat} {X Y Z Y' : List Value} (h : HdD w d (X ++ Y ++ Z)) (hl : Y'.length = Y.length) : HdD (w.setCells d X.length Y') d (X ++ Y' ++ Z) := by
  have hz := range_part h.1
  have hp := range_part hz.1
  rw [Nat.zero_add] at hp hz
  refine ⟨range_join (range_join (World.rangeAt_setCells_apart hp.1 _ _ _ (Or.inr (Or.inl (by omega)))) ?_) ?_, fun j hj => ?_⟩
  · rw [Nat.zero_add]
    refine World.rangeAt_setCells_same _ _ _ _ fun j hj => ⟨?_, h.2 _ (by simp; omega)⟩
    rw [hp.2 j _ (List.getElem?_eq_getElem (by omega))]
    rfl
  · rw [Nat.zero_add, List.length_append, hl, ← List.length_append]
    exact World.rangeAt_setCells_apart hz.2 _ _ _ (Or.inr (Or.inr (by rw [List.length_append, hl]; exact Nat.le_refl _)))
  · rw [World.frozen?_setCells]
    exact h.2 j (by simp at hj ⊢; omega)

theorem hd_new (w : World) (L : List Value) (t : TypeId) : HdD (w.alloc (.cells L.toArray t)) w.heap.size L :=
  ⟨by have := new_range w L.toArray t; rwa [List.toList_toArray] at this, fun j hj => by simp⟩

theorem HdD.keep {w w' : World} {d : Nat} {L : List Value} (h : HdD w d L) (hd : d < w.heap.size) (hb : Below w.heap.size w w') : HdD w' d L := h.same (hb.block d hd)

theorem HdD.th {w : World} {d : Nat} {L : List Value} (h : HdD w d L) : w.there d 0 L.length := fun j hj => by
  rw [Nat.zero_add]
  exact ⟨by rw [h.cell j _ (List.getElem?_eq_getElem hj)]; rfl, h.2 j hj⟩

/-- The whole block laid anew. -/
theorem HdD.all {w : World} {d : Nat} {L L' : List Value} (h : HdD w d L) (hl : L'.length = L.length) : HdD (w.setCells d 0 L') d L' := by
  have := HdD.mid (X := []) (Y := L) (Z := []) (Y' := L') (by simpa using h) hl
  simpa using this
theorem HdD.lt {w : World} {d : Nat} {L : List Value} (h : HdD w d L) (h0 : 0 < L.length) : d < w.heap.size := block_lt_of_cell (a := ⟨d, 0, none⟩) (h.cell 0 _ (List.getElem?_eq_getElem h0))
end Go.Proofs.YtmejpjknofbffaaDoor
