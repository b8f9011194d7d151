/-
  ValueTexts: the plain part: which text is the first that is not right, and what the check of the list says of it.
-/
import Derived.Test.YtleaaipkgjjlfaaDoorMem2
namespace Go.Proofs.YtleaaipkgjjlfaaDoor
open Go.RowKit Go.Lib
set_option linter.unusedVariables false
set_option linter.unusedSimpArgs false

def textV (s : ByteArray) : V := .mk 3 false 0 s [] []
def listV (ss : List ByteArray) : V := .mk 4 false 0 ⟨#[]⟩ (ss.map textV) []
/-- Of the first j texts: none is wrong; or number i is the first that is. -/
def FirstBad (ss : List ByteArray) (j : Nat) : Option Nat → Prop
  | none => ∀ i (h : i < ss.length), i < j → validB ss[i] = true
  | some b => b < j ∧ (∃ h : b < ss.length, validB ss[b] = false) ∧ ∀ i (h : i < ss.length), i < b → validB ss[i] = true
def badCode : Option Nat → Int
  | none => 0
  | some _ => 5
def badPath : Option Nat → ByteArray
  | none => ⟨#[]⟩
  | some i => inPath (itoaB i) 5 ⟨#[]⟩
theorem chk_text (d : Nat) (s : ByteArray) : chk (d + 1) (textV s) = if validB s then none else some ([], 5) := by
  unfold chk chkHead textV
  simp
theorem chkL_texts (d : Nat) : ∀ (ss : List ByteArray) (k : Nat) (b : Option Nat), FirstBad ss ss.length b → chkL (chk (d + 1)) k (ss.map textV) = b.map fun i => ([itoaB (k + i)], 5)
  | [], k, none, h => by simp [chkL]
  | [], k, some b, h => by have := h.2.1.1; simp at this
  | s :: r, k, none, h => by
    have h0 := h 0 (by simp) (by simp)
    simp only [List.getElem_cons_zero] at h0
    have hr := chkL_texts d r (k + 1) none (fun i hi hj => by have := h (i + 1) (by simpa using hi) (by simpa using hj); simpa using this)
    simp only [List.map_cons, chkL, chk_text, h0, if_pos]
    rw [hr]; rfl
  | s :: r, k, some 0, h => by
    have h0 := h.2.1.2
    simp only [List.getElem_cons_zero] at h0
    simp [List.map_cons, chkL, chk_text, h0]
  | s :: r, k, some (b + 1), h => by
    obtain ⟨h1, ⟨h2, h3⟩, h4⟩ := h
    have h0 := h4 0 (by simp) (by omega)
    simp only [List.getElem_cons_zero] at h0
    have hr := chkL_texts d r (k + 1) (some b) ⟨by simpa using h1, ⟨by simpa using h2, by simpa using h3⟩, fun i hi hj => by have := h4 (i + 1) (by simpa using hi) (by omega); simpa using this⟩
    simp only [List.map_cons, chkL, chk_text, h0, if_pos]
    rw [hr]
    simp [Nat.add_assoc, Nat.add_comm 1 b]
theorem chk_list (ss : List ByteArray) (b : Option Nat) (h : FirstBad ss ss.length b) : chk 20 (listV ss) = b.map fun i => ([itoaB i], 5) := by
  have := chkL_texts 18 ss 0 b h
  unfold chk chkHead listV
  simp only [Nat.zero_add] at this
  simpa using this
theorem own_list {W : World} {base : Nat} {v : Value} {ss : List ByteArray} (h : W.ownsRow base 39 6 v ss.length (ss.flatMap textCells)) (hl : ss.length ≤ 1000000) (hs : ∀ i (h : i < ss.length), ss[i].size ≤ 1000000) :
    Val W (· < W.heap.size) 1000000 (listV ss) #[.int .i64 4, .bool false, .int .i64 0, .string ⟨#[]⟩, v, .slice none 0 0] := by
  unfold listV
  rw [Val]
  rcases Go.Joins.ownsRow_forms h with ⟨rfl, h0⟩ | ⟨g, cap, rfl⟩
  · obtain rfl : ss = [] := List.length_eq_zero_iff.1 h0
    exact ⟨none, 0, none, 0, by simp, ⟨by simp, by simp, by simp [ByteArray.size], by simp, by simp, fun _ => rfl, fun _ => rfl⟩, by simp [ValL], by rw [ValM]; trivial⟩
  · have hgl : g < W.heap.size ∧ ss.length ≤ cap := by
      rcases h.2 with ⟨e, _⟩ | ⟨g', cap', cur, e, _, hg, hnc, _⟩
      · cases e
      · injection e with e1 e2 e3
        injection e1 with e1
        injection e1 with e1
        subst e1 e3
        exact ⟨Whole.lt hg, hnc⟩
    refine ⟨some ⟨g, 0, none⟩, cap, none, 0, by simp, ⟨by simpa using hgl.2, by simp, by simp [ByteArray.size], by simpa using hl, by simp, (fun e => by cases e), fun _ => rfl⟩, ?_, by rw [ValM]; trivial⟩
    refine ValL.mk_ fun j hj => ?_
    have hj' : j < ss.length := by simpa using hj
    refine ⟨g, 0, #[.int .i64 3, .bool false, .int .i64 0, .string ss[j], .slice none 0 0, .slice none 0 0], rfl, hgl.1, fun q hq => ?_, ?_⟩
    · have := h.cellAt (j * 6 + q) (by omega)
      rw [flat_get textCells 6 (fun _ => rfl) _ _ _ hj' hq] at this
      rw [show 0 + (0 + j) * 6 + q = j * 6 + q by omega, this]
      simp [textCells]
    · rw [List.getElem_map, textV, Val]
      exact ⟨none, 0, none, 0, by simp, ⟨by simp, by simp, hs j hj', by simp, by simp, fun _ => rfl, fun _ => rfl⟩, by rw [ValL]; trivial, by rw [ValM]; trivial⟩
end Go.Proofs.YtleaaipkgjjlfaaDoor
