/-
  The law's own Ref, the plain part (made out of Real's by tools/mkref.py).
-/
import Derived.Test.YtdpohklklmkjbaaDoorParts
namespace Go.Proofs.YtdpohklklmkjbaaDoor
open Go.RowKit Go.Lib
set_option linter.unusedVariables false
set_option linter.unusedSimpArgs false

theorem info_M : (Tryd.prog.info? 56).map (fun i => (i.zero, i.size, i.bytes)) = some (some (.agg #[.string ⟨#[]⟩, .int .i64 0, .bool false, .int .i64 0, .string ⟨#[]⟩, .slice none 0 0, .slice none 0 0]), 7, 104) := by kernel_rfl
def RefvRelL (w : World) (k : Int) (y : Bool) (n : Int) (t : ByteArray) (l : List V) (box : Array Value) (kk : Nat) (i : Value) (wr : World) : Prop :=
  ∃ (j : Nat) (v : Value) (css : List C6), j + kk = l.length ∧ i = .int .i64 j ∧ css.length = j ∧ Whole wr w.heap.size 38 box ∧ Whole wr (w.heap.size + 1) 25 zero6 ∧ Whole wr (w.heap.size + 2) 25 (nil6 k y n t v (.slice none 0 0)) ∧
    wr.ownsRow (w.heap.size + 3) 25 6 v j (css.flatMap C6.cells) ∧ (∀ i (h1 : i < l.length) (h2 : i < css.length), Val wr (NewB (w.heap.size + 3) wr v) 1000000 l[i] css[i].arr) ∧ Below w.heap.size w wr
def RefvRelM (w : World) (k : Int) (y : Bool) (n : Int) (t : ByteArray) (l : List V) (A : Option Addr) (c : Nat) (mp : List (ByteArray × V)) (kk : Nat) (i : Value) (wr : World) : Prop :=
  ∃ (j : Nat) (v : Value) (css : List C6), j + kk = mp.length ∧ i = .int .i64 j ∧ css.length = j ∧ Whole wr (w.heap.size + 1) 25 zero6 ∧ Whole wr (w.heap.size + 2) 25 (nil6 k y n t (.slice A l.length c) v) ∧
    wr.ownsRow (w.heap.size + 3) 56 7 v j ((mp.zip css).flatMap fun p => mem7 p.1.1 p.2) ∧ (∀ i (h1 : i < mp.length) (h2 : i < css.length), mp[i].1.size ≤ 1000000 ∧ Val wr (NewB (w.heap.size + 3) wr v) 1000000 mp[i].2 css[i].arr) ∧ ValL wr (NewB (w.heap.size + 3) wr v) 1000000 l A 0 ∧ Below w.heap.size w wr

theorem refv_stepL {w wr W W2 w3 : World} {k m : Int} {y : Bool} {t : ByteArray} {l : List V} {box : Array Value} {j : Nat} {v : Value} {css : List C6} {g cap : Nat} {o : C6} {o2 : Obj} {i : Value} (hlt : j < l.length) (hi : i = .int .i64 ((j + 1 : Nat) : Int))
    (hX : j + (l.length - j) = l.length ∧ css.length = j ∧ Whole wr w.heap.size 38 box ∧ Whole wr (w.heap.size + 1) 25 zero6 ∧ Whole wr (w.heap.size + 2) 25 (nil6 k y m t v (.slice none 0 0)) ∧
      wr.ownsRow (w.heap.size + 3) 25 6 v j (css.flatMap C6.cells) ∧ (∀ i (h1 : i < l.length) (h2 : i < css.length), Val wr (NewB (w.heap.size + 3) wr v) 1000000 l[i] css[i].arr) ∧ Below w.heap.size w wr)
    (hWb : Below wr.heap.size wr W) (hb2 : Below W.heap.size W W2) (ho : Val W2 (fun b => W.heap.size ≤ b ∧ b < W2.heap.size ∧ Unfrozen W2 b) 1000000 l[j] o.arr)
    (hown3 : w3.ownsRow (w.heap.size + 3) 25 6 (.slice (some ⟨g, 0, none⟩) (j + 1) cap) (j + 1) (css.flatMap C6.cells ++ o.cells)) (hgrow : (W2.alloc o2).grownBy w3 v.ownBlock) (hat : v.ownBlock = some g ∨ g = W2.heap.size + 1) :
    RefvRelL w k y m t l box (l.length - (j + 1)) i (w3.setCell ⟨w.heap.size + 2, 4, none⟩ (.slice (some ⟨g, 0, none⟩) (j + 1) cap)) := by
  obtain ⟨hk, hcl, hW0, hW1, hW2, hown, hkids, hb⟩ := hX
  have hz := hW2.lt
  have s1 := hWb.size
  have s2 := hb2.size
  have hG := grew_of (h0 := w.heap.size + 3) (gs := w.heap.size + 2) (i := 4) (n := j + 1) (cap := cap) (u := .slice (some ⟨g, 0, none⟩) (j + 1) cap) hWb hb2 hgrow hat (fun k e => (hown.lt k e).2) (by omega) (by omega)
  have hlow : ∀ b, b < w.heap.size + 3 → v.ownBlock ≠ some b := fun b h e => by have := (hown.lt b e).1; omega
  have hwh : ∀ {b : Nat} {T : TypeId} {cs : Array Value}, b < w.heap.size + 3 → Whole wr b T cs → Whole w3 b T cs := fun {b T cs} h hw => by
    have hl := hw.lt
    exact (hgrow.block b (by simp; omega) (fun e => hlow b h e.symm)).trans ((Below.heap_alloc _ _ _ (by omega)).trans ((hb2.block b (by omega)).trans ((hWb.block b hl).trans hw)))
  subst hi
  refine ⟨j + 1, .slice (some ⟨g, 0, none⟩) (j + 1) cap, css ++ [o], by omega, rfl, by simp [hcl], (hwh (by omega) hW0).other (by simp) _, (hwh (by omega) hW1).other (by simp) _, (hwh (by omega) hW2).put 4 _, ?_, ?_, ?_⟩
  · rw [List.flatMap_append]
    simp only [List.flatMap_cons, List.flatMap_nil, List.append_nil]
    exact ownsRow_setCell_below hown3 (by simp) _
  · exact kids_snoc (P := fun _ d c => Val _ (NewB _ _ _) 1000000 d c.arr) hcl hlt (fun i h1 h2 => hG.val (hkids i h1 h2)) (hG.kid (by omega) ho)
  · refine Below.setCell ?_ (by simp) _
    exact Below.grown ((hb.trans ((hWb.trans (hb2.mono s1)).mono (by omega))).alloc (by omega) _) hgrow (by simp; omega) (fun j hj => by have := (hown.lt _ hj).1; omega)
theorem refv_stepM {w wr W W2 w3 : World} {k m : Int} {y : Bool} {t : ByteArray} {l : List V} {A : Option Addr} {c : Nat} {mp : List (ByteArray × V)} {j : Nat} {v : Value} {css : List C6} {g cap : Nat} {o : C6} {o2 : Obj} {i : Value} (hlt : j < mp.length) (hi : i = .int .i64 ((j + 1 : Nat) : Int)) (hks : mp[j].1.size ≤ 1000000)
    (hX : j + (mp.length - j) = mp.length ∧ css.length = j ∧ Whole wr (w.heap.size + 1) 25 zero6 ∧ Whole wr (w.heap.size + 2) 25 (nil6 k y m t (.slice A l.length c) v) ∧
      wr.ownsRow (w.heap.size + 3) 56 7 v j ((mp.zip css).flatMap fun p => mem7 p.1.1 p.2) ∧ (∀ i (h1 : i < mp.length) (h2 : i < css.length), mp[i].1.size ≤ 1000000 ∧ Val wr (NewB (w.heap.size + 3) wr v) 1000000 mp[i].2 css[i].arr) ∧ ValL wr (NewB (w.heap.size + 3) wr v) 1000000 l A 0 ∧ Below w.heap.size w wr)
    (hWb : Below wr.heap.size wr W) (hb2 : Below W.heap.size W W2) (ho : Val W2 (fun b => W.heap.size ≤ b ∧ b < W2.heap.size ∧ Unfrozen W2 b) 1000000 mp[j].2 o.arr)
    (hown3 : w3.ownsRow (w.heap.size + 3) 56 7 (.slice (some ⟨g, 0, none⟩) (j + 1) cap) (j + 1) (((mp.zip css).flatMap fun p => mem7 p.1.1 p.2) ++ mem7 mp[j].1 o)) (hgrow : (W2.alloc o2).grownBy w3 v.ownBlock) (hat : v.ownBlock = some g ∨ g = W2.heap.size + 1) :
    RefvRelM w k y m t l A c mp (mp.length - (j + 1)) i (w3.setCell ⟨w.heap.size + 2, 5, none⟩ (.slice (some ⟨g, 0, none⟩) (j + 1) cap)) := by
  obtain ⟨hk, hcl, hW1, hW2, hown, hkids, hvl, hb⟩ := hX
  have hz := hW2.lt
  have s1 := hWb.size
  have s2 := hb2.size
  have hG := grew_of (h0 := w.heap.size + 3) (gs := w.heap.size + 2) (i := 5) (n := j + 1) (cap := cap) (u := .slice (some ⟨g, 0, none⟩) (j + 1) cap) hWb hb2 hgrow hat (fun k e => (hown.lt k e).2) (by omega) (by omega)
  have hlow : ∀ b, b < w.heap.size + 3 → v.ownBlock ≠ some b := fun b h e => by have := (hown.lt b e).1; omega
  have hwh : ∀ {b : Nat} {T : TypeId} {cs : Array Value}, b < w.heap.size + 3 → Whole wr b T cs → Whole w3 b T cs := fun {b T cs} h hw => by
    have hl := hw.lt
    exact (hgrow.block b (by simp; omega) (fun e => hlow b h e.symm)).trans ((Below.heap_alloc _ _ _ (by omega)).trans ((hb2.block b (by omega)).trans ((hWb.block b hl).trans hw)))
  subst hi
  refine ⟨j + 1, .slice (some ⟨g, 0, none⟩) (j + 1) cap, css ++ [o], by omega, rfl, by simp [hcl], (hwh (by omega) hW1).other (by simp) _, (hwh (by omega) hW2).put 5 _, ?_, ?_, hG.valL hvl, ?_⟩
  · rw [zip_snoc hcl hlt, List.flatMap_append]
    simp only [List.flatMap_cons, List.flatMap_nil, List.append_nil]
    exact ownsRow_setCell_below hown3 (by simp) _
  · exact kids_snocM (P := fun _ d c => d.1.size ≤ 1000000 ∧ Val _ (NewB _ _ _) 1000000 d.2 c.arr) hcl hlt (fun i h1 h2 => ⟨(hkids i h1 h2).1, hG.val (hkids i h1 h2).2⟩) ⟨hks, hG.kid (by omega) ho⟩
  · refine Below.setCell ?_ (by simp) _
    exact Below.grown ((hb.trans ((hWb.trans (hb2.mono s1)).mono (by omega))).alloc (by omega) _) hgrow (by simp; omega) (fun j hj => by have := (hown.lt _ hj).1; omega)

end Go.Proofs.YtdpohklklmkjbaaDoor
