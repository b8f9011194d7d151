/-
  The law's own Real, walked: a value of the document's as one of the program's: the same, in new memory.
-/
import Derived.Test.YtpehddbpingobaaDoorMem2
import Derived.Test.YtpehddbpingobaaDoorReal1
namespace Go.Proofs.YtpehddbpingobaaDoor
open Go.RowKit Go.Lib
set_option linter.unusedVariables false
set_option linter.unusedSimpArgs false

def RealAns (v : V) (w : World) (e : Ending) (w' : World) : Prop := (∃ o : C6, e = .returned (.agg o.arr) ∧ Val w' (fun b => w.heap.size ≤ b ∧ b < w'.heap.size) 1000000 v o.arr) ∧ Below w.heap.size w w'
def RealAnsU (v : V) (w : World) (e : Ending) (w' : World) : Prop := (∃ o : C6, e = .returned (.agg o.arr) ∧ Val w' (fun b => w.heap.size ≤ b ∧ b < w'.heap.size ∧ Unfrozen w' b) 1000000 v o.arr) ∧ Below w.heap.size w w'
theorem RealAnsU.weak {v : V} {w : World} {e : Ending} {w' : World} (h : RealAnsU v w e w') : RealAns v w e w' := ⟨by obtain ⟨o, he, ho⟩ := h.1; exact ⟨o, he, ho.keep (fun _ _ => rfl) (fun b hb => ⟨hb.1, hb.2.1⟩)⟩, h.2⟩
def RealRelL (w : World) (k : Int) (y : Bool) (n : Int) (t : ByteArray) (l : List V) (box : Array Value) (kk : Nat) (i : Value) (wr : World) : Prop :=
  ∃ (j : Nat) (v : Value) (css : List C6), j + kk = l.length ∧ i = .int .i64 j ∧ css.length = j ∧ Whole wr w.heap.size 25 box ∧ Whole wr (w.heap.size + 1) 39 zero6 ∧ Whole wr (w.heap.size + 2) 39 (nil6 k y n t v (.slice none 0 0)) ∧
    wr.ownsRow (w.heap.size + 3) 39 6 v j (css.flatMap C6.cells) ∧ (∀ i (h1 : i < l.length) (h2 : i < css.length), Val wr (NewB (w.heap.size + 3) wr v) 1000000 l[i] css[i].arr) ∧ Below w.heap.size w wr
def RealRelM (w : World) (k : Int) (y : Bool) (n : Int) (t : ByteArray) (l : List V) (A : Option Addr) (c : Nat) (mp : List (ByteArray × V)) (kk : Nat) (i : Value) (wr : World) : Prop :=
  ∃ (j : Nat) (v : Value) (css : List C6), j + kk = mp.length ∧ i = .int .i64 j ∧ css.length = j ∧ Whole wr (w.heap.size + 1) 39 zero6 ∧ Whole wr (w.heap.size + 2) 39 (nil6 k y n t (.slice A l.length c) v) ∧
    wr.ownsRow (w.heap.size + 3) 46 7 v j ((mp.zip css).flatMap fun p => mem7 p.1.1 p.2) ∧ (∀ i (h1 : i < mp.length) (h2 : i < css.length), mp[i].1.size ≤ 1000000 ∧ Val wr (NewB (w.heap.size + 3) wr v) 1000000 mp[i].2 css[i].arr) ∧ ValL wr (NewB (w.heap.size + 3) wr v) 1000000 l A 0 ∧ Below w.heap.size w wr

theorem kids_snoc {P : Nat → V → C6 → Prop} {l : List V} {css : List C6} {o : C6} {j : Nat} (hcl : css.length = j) (hlt : j < l.length) (h_ : ∀ i (h1 : i < l.length) (h2 : i < css.length), P i l[i] css[i]) (hj : P j l[j] o) :
    ∀ i (h1 : i < l.length) (h2 : i < (css ++ [o]).length), P i l[i] (css ++ [o])[i] := fun i h1 h2 => by
  rcases Nat.lt_or_ge i css.length with h | h
  · rw [List.getElem_append_left h]; exact h_ i h1 h
  · obtain rfl : i = j := by simp at h2; omega
    rw [List.getElem_append_right h]; simpa using hj
theorem kids_snocM {P : Nat → (ByteArray × V) → C6 → Prop} {l : List (ByteArray × V)} {css : List C6} {o : C6} {j : Nat} (hcl : css.length = j) (hlt : j < l.length) (h_ : ∀ i (h1 : i < l.length) (h2 : i < css.length), P i l[i] css[i]) (hj : P j l[j] o) :
    ∀ i (h1 : i < l.length) (h2 : i < (css ++ [o]).length), P i l[i] (css ++ [o])[i] := fun i h1 h2 => by
  rcases Nat.lt_or_ge i css.length with h | h
  · rw [List.getElem_append_left h]; exact h_ i h1 h
  · obtain rfl : i = j := by simp at h2; omega
    rw [List.getElem_append_right h]; simpa using hj
theorem zip_snoc : ∀ {l : List (ByteArray × V)} {css : List C6} {o : C6} {j : Nat} (hcl : css.length = j) (hlt : j < l.length), (l.zip (css ++ [o])) = (l.zip css) ++ [(l[j], o)]
  | x :: r, [], o, 0, _, _ => by simp
  | x :: r, c :: cs, o, j + 1, h, hlt => by
    simp only [List.cons_append, List.zip_cons_cons, List.getElem_cons_succ]
    rw [zip_snoc (by simpa using h) (by simpa using hlt)]

theorem real_stepL {w wr W W2 w3 : World} {k m : Int} {y : Bool} {t : ByteArray} {l : List V} {box : Array Value} {j : Nat} {v : Value} {css : List C6} {g cap : Nat} {o : C6} {o2 : Obj} {i : Value} (hlt : j < l.length) (hi : i = .int .i64 ((j + 1 : Nat) : Int))
    (hX : j + (l.length - j) = l.length ∧ css.length = j ∧ Whole wr w.heap.size 25 box ∧ Whole wr (w.heap.size + 1) 39 zero6 ∧ Whole wr (w.heap.size + 2) 39 (nil6 k y m t v (.slice none 0 0)) ∧
      wr.ownsRow (w.heap.size + 3) 39 6 v j (css.flatMap C6.cells) ∧ (∀ i (h1 : i < l.length) (h2 : i < css.length), Val wr (NewB (w.heap.size + 3) wr v) 1000000 l[i] css[i].arr) ∧ Below w.heap.size w wr)
    (hWb : Below wr.heap.size wr W) (hb2 : Below W.heap.size W W2) (ho : Val W2 (fun b => W.heap.size ≤ b ∧ b < W2.heap.size ∧ Unfrozen W2 b) 1000000 l[j] o.arr)
    (hown3 : w3.ownsRow (w.heap.size + 3) 39 6 (.slice (some ⟨g, 0, none⟩) (j + 1) cap) (j + 1) (css.flatMap C6.cells ++ o.cells)) (hgrow : (W2.alloc o2).grownBy w3 v.ownBlock) (hat : v.ownBlock = some g ∨ g = W2.heap.size + 1) :
    RealRelL w k y m t l box (l.length - (j + 1)) i (w3.setCell ⟨w.heap.size + 2, 4, none⟩ (.slice (some ⟨g, 0, none⟩) (j + 1) cap)) := by
  obtain ⟨hk, hcl, hW0, hW1, hW2, hown, hkids, hb⟩ := hX
  have hz := hW2.lt
  have s1 := hWb.size
  have s2 := hb2.size
  have hG := grew_of (h0 := w.heap.size + 3) (gs := w.heap.size + 2) (i := 4) (n := j + 1) (cap := cap) (u := .slice (some ⟨g, 0, none⟩) (j + 1) cap) hWb hb2 hgrow hat (fun k e => (hown.lt k e).2) (by omega) (by omega)
  have hlow : ∀ b, b < w.heap.size + 3 → v.ownBlock ≠ some b := fun b h e => by have := (hown.lt b e).1; omega
  have hwh : ∀ {b : Nat} {T : TypeId} {cs : Array Value}, b < w.heap.size + 3 → Whole wr b T cs → Whole w3 b T cs := fun {b T cs} h hw => by
    have hl := hw.lt
    exact (hgrow.block b (by simp; omega) (fun e => hlow b h e.symm)).trans ((Below.heap_alloc _ _ _ (by omega)).trans ((hb2.block b (by omega)).trans ((hWb.block b hl).trans hw)))
  subst hi
  refine ⟨j + 1, .slice (some ⟨g, 0, none⟩) (j + 1) cap, css ++ [o], by omega, rfl, by simp [hcl], (hwh (by omega) hW0).other (by simp) _, (hwh (by omega) hW1).other (by simp) _, (hwh (by omega) hW2).put 4 _, ?_, ?_, ?_⟩
  · rw [List.flatMap_append]
    simp only [List.flatMap_cons, List.flatMap_nil, List.append_nil]
    exact ownsRow_setCell_below hown3 (by simp) _
  · exact kids_snoc (P := fun _ d c => Val _ (NewB _ _ _) 1000000 d c.arr) hcl hlt (fun i h1 h2 => hG.val (hkids i h1 h2)) (hG.kid (by omega) ho)
  · refine Below.setCell ?_ (by simp) _
    exact Below.grown ((hb.trans ((hWb.trans (hb2.mono s1)).mono (by omega))).alloc (by omega) _) hgrow (by simp; omega) (fun j hj => by have := (hown.lt _ hj).1; omega)
theorem real_stepM {w wr W W2 w3 : World} {k m : Int} {y : Bool} {t : ByteArray} {l : List V} {A : Option Addr} {c : Nat} {mp : List (ByteArray × V)} {j : Nat} {v : Value} {css : List C6} {g cap : Nat} {o : C6} {o2 : Obj} {i : Value} (hlt : j < mp.length) (hi : i = .int .i64 ((j + 1 : Nat) : Int)) (hks : mp[j].1.size ≤ 1000000)
    (hX : j + (mp.length - j) = mp.length ∧ css.length = j ∧ Whole wr (w.heap.size + 1) 39 zero6 ∧ Whole wr (w.heap.size + 2) 39 (nil6 k y m t (.slice A l.length c) v) ∧
      wr.ownsRow (w.heap.size + 3) 46 7 v j ((mp.zip css).flatMap fun p => mem7 p.1.1 p.2) ∧ (∀ i (h1 : i < mp.length) (h2 : i < css.length), mp[i].1.size ≤ 1000000 ∧ Val wr (NewB (w.heap.size + 3) wr v) 1000000 mp[i].2 css[i].arr) ∧ ValL wr (NewB (w.heap.size + 3) wr v) 1000000 l A 0 ∧ Below w.heap.size w wr)
    (hWb : Below wr.heap.size wr W) (hb2 : Below W.heap.size W W2) (ho : Val W2 (fun b => W.heap.size ≤ b ∧ b < W2.heap.size ∧ Unfrozen W2 b) 1000000 mp[j].2 o.arr)
    (hown3 : w3.ownsRow (w.heap.size + 3) 46 7 (.slice (some ⟨g, 0, none⟩) (j + 1) cap) (j + 1) (((mp.zip css).flatMap fun p => mem7 p.1.1 p.2) ++ mem7 mp[j].1 o)) (hgrow : (W2.alloc o2).grownBy w3 v.ownBlock) (hat : v.ownBlock = some g ∨ g = W2.heap.size + 1) :
    RealRelM w k y m t l A c mp (mp.length - (j + 1)) i (w3.setCell ⟨w.heap.size + 2, 5, none⟩ (.slice (some ⟨g, 0, none⟩) (j + 1) cap)) := by
  obtain ⟨hk, hcl, hW1, hW2, hown, hkids, hvl, hb⟩ := hX
  have hz := hW2.lt
  have s1 := hWb.size
  have s2 := hb2.size
  have hG := grew_of (h0 := w.heap.size + 3) (gs := w.heap.size + 2) (i := 5) (n := j + 1) (cap := cap) (u := .slice (some ⟨g, 0, none⟩) (j + 1) cap) hWb hb2 hgrow hat (fun k e => (hown.lt k e).2) (by omega) (by omega)
  have hlow : ∀ b, b < w.heap.size + 3 → v.ownBlock ≠ some b := fun b h e => by have := (hown.lt b e).1; omega
  have hwh : ∀ {b : Nat} {T : TypeId} {cs : Array Value}, b < w.heap.size + 3 → Whole wr b T cs → Whole w3 b T cs := fun {b T cs} h hw => by
    have hl := hw.lt
    exact (hgrow.block b (by simp; omega) (fun e => hlow b h e.symm)).trans ((Below.heap_alloc _ _ _ (by omega)).trans ((hb2.block b (by omega)).trans ((hWb.block b hl).trans hw)))
  subst hi
  refine ⟨j + 1, .slice (some ⟨g, 0, none⟩) (j + 1) cap, css ++ [o], by omega, rfl, by simp [hcl], (hwh (by omega) hW1).other (by simp) _, (hwh (by omega) hW2).put 5 _, ?_, ?_, hG.valL hvl, ?_⟩
  · rw [zip_snoc hcl hlt, List.flatMap_append]
    simp only [List.flatMap_cons, List.flatMap_nil, List.append_nil]
    exact ownsRow_setCell_below hown3 (by simp) _
  · exact kids_snocM (P := fun _ d c => d.1.size ≤ 1000000 ∧ Val _ (NewB _ _ _) 1000000 d.2 c.arr) hcl hlt (fun i h1 h2 => ⟨(hkids i h1 h2).1, hG.val (hkids i h1 h2).2⟩) ⟨hks, hG.kid (by omega) ho⟩
  · refine Below.setCell ?_ (by simp) _
    exact Below.grown ((hb.trans ((hWb.trans (hb2.mono s1)).mono (by omega))).alloc (by omega) _) hgrow (by simp; omega) (fun j hj => by have := (hown.lt _ hj).1; omega)

/-- The end: the result's cells are those of the value that was made. -/
theorem real_end {w wr W' : World} {k m : Int} {y : Bool} {t : ByteArray} {l : List V} {mp : List (ByteArray × V)} {AL AM : Option Addr} {cL cM : Nat} {v : Value} (ht : t.size ≤ 1000000) (hl : l.length ≤ 1000000) (hm : mp.length ≤ 1000000) (hcL : l.length ≤ cL) (hcM : mp.length ≤ cM) (hAL : AL = none → cL = 0) (hAM : AM = none → cM = 0)
    (hvL : ValL wr (NewB (w.heap.size + 3) wr v) 1000000 l AL 0) (hvM : ValM wr (fun b => w.heap.size + 3 ≤ b ∧ b < wr.heap.size ∧ Unfrozen wr b) 1000000 mp AM 0) (hsame : ∀ b, w.heap.size + 3 ≤ b → W'.heap[b]? = wr.heap[b]?) (hsz : W'.heap.size = wr.heap.size) :
    Val W' (fun b => w.heap.size ≤ b ∧ b < W'.heap.size ∧ Unfrozen W' b) 1000000 (.mk k y m t l mp) (C6.arr ⟨k, y, m, t, AL, l.length, cL, AM, mp.length, cM⟩) := by
  rw [Val]
  exact ⟨AL, cL, AM, cM, rfl, ⟨hcL, hcM, ht, hl, hm, hAL, hAM⟩, hvL.keep (fun p hp => World.cell?_of_block (hsame _ hp.1)) (fun b hb => ⟨by have := hb.1; omega, by have := hb.2.1; omega, hb.2.2.2.same (hsame b hb.1)⟩), hvM.keep (fun p hp => World.cell?_of_block (hsame _ hp.1)) (fun b hb => ⟨by have := hb.1; omega, by have := hb.2.1; omega, hb.2.2.same (hsame b hb.1)⟩)⟩
end Go.Proofs.YtpehddbpingobaaDoor
