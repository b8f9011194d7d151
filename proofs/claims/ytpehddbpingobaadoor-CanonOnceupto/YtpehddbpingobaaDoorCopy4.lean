/-
  One step of value.Copy, in plain words: an element is copied alone and put in its place; what it has itself lies in a new block.
-/
import Derived.Test.YtpehddbpingobaaDoorCopy3
namespace Go.Proofs.YtpehddbpingobaaDoor
open Go.RowKit Go.Lib
set_option linter.unusedVariables false
set_option linter.unusedSimpArgs false

/-- Six cells are put. -/
def put6 (W : World) (g p : Nat) (c : C6) : World :=
  (((((W.setCell ⟨g, p, none⟩ (.int .i64 c.k)).setCell ⟨g, p + 1, none⟩ (.bool c.y)).setCell ⟨g, p + 2, none⟩ (.int .i64 c.n)).setCell ⟨g, p + 3, none⟩ (.string c.t)).setCell ⟨g, p + 4, none⟩ (.slice c.a c.la c.ca)).setCell ⟨g, p + 5, none⟩ (.slice c.b c.lb c.cb)
theorem heap_put6_far (W : World) (g p : Nat) (c : C6) (k : Nat) (h : k ≠ g) : (put6 W g p c).heap[k]? = W.heap[k]? := by
  unfold put6
  rw [Below.heap_setCell _ _ _ _ h, Below.heap_setCell _ _ _ _ h, Below.heap_setCell _ _ _ _ h, Below.heap_setCell _ _ _ _ h, Below.heap_setCell _ _ _ _ h, Below.heap_setCell _ _ _ _ h]
theorem size_put6 (W : World) (g p : Nat) (c : C6) : (put6 W g p c).heap.size = W.heap.size := by simp [put6, World.setCell]
theorem below_put6 {B : Nat} {w W : World} (h : Below B w W) (g p : Nat) (c : C6) (hg : B ≤ g) : Below B w (put6 W g p c) :=
  (((((h.setCell (p := ⟨g, p, none⟩) hg _).setCell (p := ⟨g, p + 1, none⟩) hg _).setCell (p := ⟨g, p + 2, none⟩) hg _).setCell (p := ⟨g, p + 3, none⟩) hg _).setCell (p := ⟨g, p + 4, none⟩) hg _).setCell (p := ⟨g, p + 5, none⟩) hg _

theorem get_put (cur : Array Value) (p : Nat) (c : C6) (h : p + 6 ≤ cur.size) (i : Nat) :
    ((((((cur.setIfInBounds p (.int .i64 c.k)).setIfInBounds (p + 1) (.bool c.y)).setIfInBounds (p + 2) (.int .i64 c.n)).setIfInBounds (p + 3) (.string c.t)).setIfInBounds (p + 4) (.slice c.a c.la c.ca)).setIfInBounds (p + 5) (.slice c.b c.lb c.cb))[i]? =
      if p ≤ i ∧ i < p + 6 then c.cells[i - p]? else cur[i]? := by
  simp only [Array.getElem?_setIfInBounds, Array.size_setIfInBounds]
  by_cases hi : p ≤ i ∧ i < p + 6
  · rw [if_pos hi]
    obtain ⟨q, rfl⟩ : ∃ q, i = p + q := ⟨i - p, by omega⟩
    have : q < 6 := by omega
    rw [show p + q - p = q by omega]
    match q, this with
    | 0, _ => simp [C6.cells]; omega
    | 1, _ => simp [C6.cells]; omega
    | 2, _ => simp [C6.cells]; omega
    | 3, _ => simp [C6.cells]; omega
    | 4, _ => simp [C6.cells]; omega
    | 5, _ => simp [C6.cells]; omega
  · rw [if_neg hi, if_neg (by omega), if_neg (by omega), if_neg (by omega), if_neg (by omega), if_neg (by omega), if_neg (by omega)]

def hoff (mp : Bool) : Nat := if mp then 1 else 0
theorem Cont.set {W : World} {g : Nat} {mp : Bool} {kids : List (ByteArray × V)} {css : List C6} (h : Cont W g mp kids css) (j : Nat) (hj : j < kids.length) (o : C6) :
    Cont (put6 W g (j * esz mp + hoff mp) o) g mp kids (css.set j o) := by
  obtain ⟨hl, cur, hc, ht⟩ := h
  have hsz : kids.length * esz mp ≤ cur.size := by
    have := congrArg List.length ht
    rw [List.length_take, flat_len (fun p : (ByteArray × V) × C6 => elem mp p.1.1 p.2) (esz mp) (fun p => elem_length mp _ _), List.length_zip, hl, Nat.min_self] at this
    rw [← Array.length_toList]; omega
  have hp : j * esz mp + hoff mp + 6 ≤ cur.size := by
    have : (j + 1) * esz mp ≤ kids.length * esz mp := Nat.mul_le_mul_right _ hj
    rw [Nat.succ_mul] at this
    have : hoff mp + 6 = esz mp := by cases mp <;> rfl
    omega
  refine ⟨by simpa using hl, ((((((cur.setIfInBounds (j * esz mp + hoff mp) (.int .i64 o.k)).setIfInBounds (j * esz mp + hoff mp + 1) (.bool o.y)).setIfInBounds (j * esz mp + hoff mp + 2) (.int .i64 o.n)).setIfInBounds (j * esz mp + hoff mp + 3) (.string o.t)).setIfInBounds (j * esz mp + hoff mp + 4) (.slice o.a o.la o.ca)).setIfInBounds (j * esz mp + hoff mp + 5) (.slice o.b o.lb o.cb)), ?_, ?_⟩
  · have h0 : Whole W g (ety mp) cur := hc
    exact (((((h0.put _ _).put _ _).put _ _).put _ _).put _ _).put _ _
  · have hz : (kids.zip (css.set j o)).length = kids.length := by rw [List.length_zip]; simp [hl]
    apply List.ext_getElem?
    intro i
    by_cases hi : i < kids.length * esz mp
    · have he : 0 < esz mp := by cases mp <;> decide
      obtain ⟨a, q, rfl, hq, ha⟩ : ∃ a q, i = a * esz mp + q ∧ q < esz mp ∧ a < kids.length := ⟨i / esz mp, i % esz mp, by rw [Nat.mul_comm]; exact (Nat.div_add_mod i (esz mp)).symm, Nat.mod_lt _ he, Nat.div_lt_of_lt_mul (by rw [Nat.mul_comm]; exact hi)⟩
      rw [List.getElem?_take_of_lt hi, Array.getElem?_toList, get_put cur _ o hp, flat_get (fun p : (ByteArray × V) × C6 => elem mp p.1.1 p.2) (esz mp) (fun p => elem_length mp _ _) _ _ _ (by rw [hz]; exact ha) hq, List.getElem_zip]
      have hold : cur[a * esz mp + q]? = (elem mp kids[a].1 (css[a]'(by omega)))[q]? := by
        rw [← Array.getElem?_toList, ← List.getElem?_take_of_lt hi, ht, flat_get (fun p : (ByteArray × V) × C6 => elem mp p.1.1 p.2) (esz mp) (fun p => elem_length mp _ _) _ _ _ (by rw [List.length_zip]; omega) hq, List.getElem_zip]
      simp only [List.getElem_set]
      by_cases haj : j = a
      · subst haj
        rw [if_pos rfl]
        cases mp
        · simp only [esz, hoff, elem, Bool.false_eq_true, if_false, Nat.add_zero] at *
          rw [if_pos (by omega)]
          congr 1; omega
        · simp only [esz, hoff, elem, if_true] at *
          cases q with
          | zero => rw [if_neg (by omega), hold]; simp [mem7]
          | succ q =>
            rw [if_pos (by omega), show j * 7 + (q + 1) - (j * 7 + 1) = q by omega]
            simp [mem7]
      · rw [if_neg haj, ← hold]
        rw [if_neg]
        intro hh
        have hs : hoff mp + 6 = esz mp := by cases mp <;> rfl
        rcases Nat.lt_or_gt_of_ne haj with h1 | h1
        · have : (j + 1) * esz mp ≤ a * esz mp := Nat.mul_le_mul_right _ h1
          rw [Nat.succ_mul] at this; omega
        · have : (a + 1) * esz mp ≤ j * esz mp := Nat.mul_le_mul_right _ h1
          rw [Nat.succ_mul] at this; omega
    · rw [List.getElem?_eq_none (by rw [List.length_take]; omega), List.getElem?_eq_none]
      rw [flat_len (fun p : (ByteArray × V) × C6 => elem mp p.1.1 p.2) (esz mp) (fun p => elem_length mp _ _), hz]; omega
end Go.Proofs.YtpehddbpingobaaDoor
