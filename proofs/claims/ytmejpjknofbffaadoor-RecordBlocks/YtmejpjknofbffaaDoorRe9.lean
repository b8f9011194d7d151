/-
  Rows of pieces in memory.
-/
import Derived.Test.YtmejpjknofbffaaDoorRe8
namespace Go.Proofs.YtmejpjknofbffaaDoor
open Go.RowKit Go.Lib
set_option linter.unusedVariables false
set_option linter.unusedSimpArgs false

/-- A piece in memory, its data in a block above lim. -/
def PAt (w : World) (g q : Nat) (p : Pc) (lim : Nat) : Prop := ∃ B c, (∀ j v, (pcs p B c)[j]? = some v → w.cell? ⟨g, q + j, none⟩ = some v) ∧ Bt w B p.da ∧ (B = none → p.da.length = 0 ∧ c = 0) ∧ p.da.length ≤ c ∧ ∀ ad, B = some ad → ∃ gb qb, ad = ⟨gb, qb, none⟩ ∧ lim ≤ gb ∧ gb < w.heap.size
theorem PAt.lt {w : World} {g q lim : Nat} {p : Pc} (h : PAt w g q p lim) : g < w.heap.size := by
  obtain ⟨B, c, h1, -⟩ := h
  exact block_lt_of_cell (a := ⟨g, q + 0, none⟩) (h1 0 _ rfl)
theorem PAt.keep {w w' : World} {g q lim : Nat} {p : Pc} (h : PAt w g q p lim) (hb : Below w.heap.size w w') : PAt w' g q p lim := by
  have hl := h.lt
  obtain ⟨B, c, h1, h2, h3, h4, h6⟩ := h
  refine ⟨B, c, fun j v hv => (hb.cell (p := ⟨g, q + j, none⟩) hl).trans (h1 j v hv), h2.keep hb, h3, h4, fun ad e => ?_⟩
  obtain ⟨gb, qb, e1, e2, e3⟩ := h6 ad e
  exact ⟨gb, qb, e1, e2, Nat.lt_of_lt_of_le e3 hb.size⟩
/-- Other cells of its block are written. -/
theorem PAt.puts {w : World} {g q lim : Nat} {p : Pc} (h : PAt w g q p lim) (hg : g < lim) (q2 : Nat) (vs : List Value) (ha : q + 6 ≤ q2 ∨ q2 + vs.length ≤ q) : PAt (w.setCells g q2 vs) g q p lim := by
  obtain ⟨B, c, h1, h2, h3, h4, h6⟩ := h
  refine ⟨B, c, fun j v hv => ?_, fun h0 => ?_, h3, h4, fun ad e => ?_⟩
  · have hj : j < 6 := (List.getElem?_eq_some_iff.1 hv).1
    have hr : w.rangeAt g (q + j) [v] := fun k u hu => by
      rcases k with _ | k
      · simp at hu; subst hu; exact h1 j v hv
      · simp at hu
    have := World.rangeAt_setCells_apart hr g q2 vs (Or.inr (by rcases ha with h | h <;> simp <;> omega))
    exact this 0 v rfl
  · obtain ⟨ad, e, hc⟩ := h2 h0
    obtain ⟨gb, qb, e1, e2, e3⟩ := h6 ad e
    subst e1
    refine ⟨_, e, fun j v hv => ?_⟩
    have := hc j v hv
    rw [Addr.add_mid] at this ⊢
    rw [World.cell?_of_block (heap_setCells _ _ _ _ _ (by show gb ≠ _; omega))]
    exact this
  · obtain ⟨gb, qb, e1, e2, e3⟩ := h6 ad e
    exact ⟨gb, qb, e1, e2, by rw [size_setCells]; exact e3⟩
/-- A piece laid. -/
theorem pat_new {w : World} {g q lim : Nat} {p : Pc} {B : Option Addr} {c : Nat} (ht : w.there g q 6) (hg : g < lim) (h2 : Bt w B p.da) (h3 : B = none → p.da.length = 0 ∧ c = 0) (h4 : p.da.length ≤ c) (h6 : ∀ ad, B = some ad → ∃ gb qb, ad = ⟨gb, qb, none⟩ ∧ lim ≤ gb ∧ gb < w.heap.size) : PAt (w.setCells g q (pcs p B c)) g q p lim := by
  have hr := World.rangeAt_setCells_same w g q (pcs p B c) ht
  refine ⟨B, c, fun j v hv => hr j v hv, fun h0 => ?_, h3, h4, fun ad e => ?_⟩
  · obtain ⟨ad, e, hc⟩ := h2 h0
    obtain ⟨gb, qb, e1, e2, e3⟩ := h6 ad e
    subst e1
    refine ⟨_, e, fun j v hv => ?_⟩
    have := hc j v hv
    rw [Addr.add_mid] at this ⊢
    rw [World.cell?_of_block (heap_setCells _ _ _ _ _ (by show gb ≠ _; omega))]
    exact this
  · obtain ⟨gb, qb, e1, e2, e3⟩ := h6 ad e
    exact ⟨gb, qb, e1, e2, by rw [size_setCells]; exact e3⟩
/-- A row of pieces. -/
def Ps (w : World) (A : Option Addr) (l : List Pc) (lim : Nat) : Prop := 0 < l.length → ∃ g q, A = some ⟨g, q, none⟩ ∧ ∀ i (h : i < l.length), PAt w g (q + i * 6) l[i] lim
theorem Ps.keep {w w' : World} {A : Option Addr} {l : List Pc} {lim : Nat} (h : Ps w A l lim) (hb : Below w.heap.size w w') : Ps w' A l lim := fun h0 => by
  obtain ⟨g, q, e, h1⟩ := h h0
  exact ⟨g, q, e, fun i hi => (h1 i hi).keep hb⟩
/-- How many pieces. -/
def partsN (n : Nat) : Nat := max 1 ((n + 41) / 42)
def pieceN (kd ep nu : Int) (x : List UInt8) (i : Nat) : Pc := ⟨kd, ep, nu, i, partsN x.length, cutL x (i * 42) (min ((i + 1) * 42) x.length)⟩
def splitL (kd ep nu : Int) (x : List UInt8) : List Pc := (List.range (partsN x.length)).map (pieceN kd ep nu x)
theorem split_len (kd ep nu : Int) (x : List UInt8) : (splitL kd ep nu x).length = partsN x.length := by simp [splitL]
theorem split_at (kd ep nu : Int) (x : List UInt8) (i : Nat) (h : i < (splitL kd ep nu x).length) : (splitL kd ep nu x)[i] = pieceN kd ep nu x i := by simp [splitL]
theorem parts_pos (n : Nat) : 1 ≤ partsN n := Nat.le_max_left _ _
theorem parts_le {n : Nat} (h : n ≤ 8400) : partsN n ≤ 200 := by unfold partsN; omega
theorem piece_len (kd ep nu : Int) (x : List UInt8) (i : Nat) : (pieceN kd ep nu x i).da.length = min ((i + 1) * 42) x.length - i * 42 := by
  simp only [pieceN]
  rw [cutL_len x (by omega)]
end Go.Proofs.YtmejpjknofbffaaDoor
