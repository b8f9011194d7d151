/-
  The law's own Real, the plain part: which blocks hold what while the list and the map of a value are made anew. No walk stands here.
-/
import Derived.Test.YtpehddbpingobaaDoorFew
import Derived.Deep.RegionHeld3
import Derived.Deep.AppendLies
namespace Go.Proofs.YtpehddbpingobaaDoor
open Go.RowKit Go.Lib
set_option linter.unusedVariables false
set_option linter.unusedSimpArgs false

mutual
theorem Val.small {w : World} {Q : Nat → Prop} {M K : Nat} (hK : 20 * K + 20 ≤ 1000000) : ∀ {v : V} {cs : Array Value}, Val w Q M v cs → wgt v ≤ K → Val w Q 1000000 v cs
  | .mk k y n t l m, cs, h, hw => by
    rw [Val] at h ⊢
    rw [wgt] at hw
    obtain ⟨A, c, A', c', e, ⟨h1, h2, h3, h4, h5, h6, h7⟩, hl, hm⟩ := h
    have a1 := ValL.small hK hl (by omega)
    have a2 := ValM.small hK hm (by omega)
    exact ⟨A, c, A', c', e, ⟨h1, h2, by omega, by omega, by omega, h6, h7⟩, a1.1, a2.1⟩
theorem ValL.small {w : World} {Q : Nat → Prop} {M K : Nat} (hK : 20 * K + 20 ≤ 1000000) : ∀ {l : List V} {A : Option Addr} {i : Nat}, ValL w Q M l A i → wgtL l ≤ K → ValL w Q 1000000 l A i ∧ l.length ≤ wgtL l
  | [], _, _, _, _ => ⟨by rw [ValL]; trivial, by simp⟩
  | v :: r, A, i, h, hw => by
    rw [ValL] at h
    rw [wgtL] at hw
    obtain ⟨⟨b, off, cs, e, hb, hc, hx⟩, hr⟩ := h
    have a1 := Val.small hK hx (by omega)
    have a2 := ValL.small hK hr (by omega)
    have a3 := wgt_pos v
    refine ⟨?_, by rw [wgtL, List.length_cons]; have := a2.2; omega⟩
    rw [ValL]
    exact ⟨⟨b, off, cs, e, hb, hc, a1⟩, a2.1⟩
theorem ValM.small {w : World} {Q : Nat → Prop} {M K : Nat} (hK : 20 * K + 20 ≤ 1000000) : ∀ {l : List (ByteArray × V)} {A : Option Addr} {i : Nat}, ValM w Q M l A i → wgtM l ≤ K → ValM w Q 1000000 l A i ∧ l.length ≤ wgtM l
  | [], _, _, _, _ => ⟨by rw [ValM]; trivial, by simp⟩
  | (s, v) :: r, A, i, h, hw => by
    rw [ValM] at h
    rw [wgtM] at hw
    obtain ⟨⟨b, off, cs, e, hb, hs, hk, hc, hx⟩, hr⟩ := h
    have a1 := Val.small hK hx (by omega)
    have a2 := ValM.small hK hr (by omega)
    have a3 := wgt_pos v
    refine ⟨?_, by rw [wgtM, List.length_cons]; have := a2.2; omega⟩
    rw [ValM]
    exact ⟨⟨b, off, cs, e, hb, by omega, hk, hc, a1⟩, a2.1⟩
end
theorem wgtL_len : ∀ l, l.length ≤ wgtL l
  | [] => by simp
  | v :: r => by have := wgtL_len r; have := wgt_pos v; rw [wgtL, List.length_cons]; omega
theorem wgtM_len : ∀ l, l.length ≤ wgtM l
  | [] => by simp
  | (s, v) :: r => by have := wgtM_len r; have := wgt_pos v; rw [wgtM, List.length_cons]; omega

/-- New blocks, but for the one of a row that may still grow. -/
def Unfrozen (w : World) (b : Nat) : Prop := ∀ o, w.frozen? ⟨b, o, none⟩ = false
theorem Unfrozen.same {w w' : World} {b : Nat} (h : Unfrozen w b) (he : w'.heap[b]? = w.heap[b]?) : Unfrozen w' b := fun o => (World.frozen?_of_block (a := ⟨b, o, none⟩) he).trans (h o)
def NewB (h0 : Nat) (wr : World) (v : Value) (b : Nat) : Prop := h0 ≤ b ∧ b < wr.heap.size ∧ v.ownBlock ≠ some b ∧ Unfrozen wr b
def nil6 (k : Int) (y : Bool) (n : Int) (t : ByteArray) (v v' : Value) : Array Value := #[.int .i64 k, .bool y, .int .i64 n, .string t, v, v']

/-- A step: the world W2 (behind the call that made the child), then a block for it, then the append to the row v, then a cell of block h0 - 1. -/
structure Grew (h0 : Nat) (wr W2 w4 : World) (v v' : Value) (lo : Nat) : Prop where
  lo1 : wr.heap.size ≤ lo
  sz : W2.heap.size ≤ w4.heap.size
  lo2 : lo ≤ W2.heap.size
  old : ∀ b, h0 ≤ b → b < wr.heap.size → v.ownBlock ≠ some b → w4.heap[b]? = wr.heap[b]?
  new : ∀ b, lo ≤ b → b < W2.heap.size → w4.heap[b]? = W2.heap[b]?
  own : ∀ g, v.ownBlock = some g → g < wr.heap.size
  own' : ∀ g, v'.ownBlock = some g → v.ownBlock = some g ∨ W2.heap.size ≤ g

theorem Grew.val {h0 lo : Nat} {wr W2 w4 : World} {v v' : Value} (h : Grew h0 wr W2 w4 v v' lo) {M : Nat} {d : V} {cs : Array Value} (hv : Val wr (NewB h0 wr v) M d cs) : Val w4 (NewB h0 w4 v') M d cs := by
  have h1 := h.lo1; have h2 := h.sz; have h3 := h.lo2
  refine hv.keep (fun p hp => World.cell?_of_block (h.old _ hp.1 hp.2.1 hp.2.2.1)) (fun b hb => ⟨hb.1, by have := hb.2.1; omega, fun e => ?_, hb.2.2.2.same (h.old b hb.1 hb.2.1 hb.2.2.1)⟩)
  rcases h.own' b e with e | e
  · exact hb.2.2.1 e
  · have := hb.2.1; omega
theorem Grew.valL {h0 lo : Nat} {wr W2 w4 : World} {v v' : Value} (h : Grew h0 wr W2 w4 v v' lo) {M : Nat} {d : List V} {A : Option Addr} {i : Nat} (hv : ValL wr (NewB h0 wr v) M d A i) : ValL w4 (NewB h0 w4 v') M d A i := by
  have h1 := h.lo1; have h2 := h.sz; have h3 := h.lo2
  refine hv.keep (fun p hp => World.cell?_of_block (h.old _ hp.1 hp.2.1 hp.2.2.1)) (fun b hb => ⟨hb.1, by have := hb.2.1; omega, fun e => ?_, hb.2.2.2.same (h.old b hb.1 hb.2.1 hb.2.2.1)⟩)
  rcases h.own' b e with e | e
  · exact hb.2.2.1 e
  · have := hb.2.1; omega
theorem Grew.kid {h0 lo : Nat} {wr W2 w4 : World} {v v' : Value} (h : Grew h0 wr W2 w4 v v' lo) (hlo : h0 ≤ lo) {M : Nat} {d : V} {cs : Array Value} (hv : Val W2 (fun b => lo ≤ b ∧ b < W2.heap.size ∧ Unfrozen W2 b) M d cs) : Val w4 (NewB h0 w4 v') M d cs := by
  have h1 := h.lo1; have h2 := h.sz; have h3 := h.lo2
  refine hv.keep (fun p hp => World.cell?_of_block (h.new _ hp.1 hp.2.1)) (fun b hb => ⟨by have := hb.1; omega, by have := hb.2.1; omega, fun e => ?_, hb.2.2.same (h.new b hb.1 hb.2.1)⟩)
  rcases h.own' b e with e | e
  · have := h.own b e; have := hb.1; omega
  · have := hb.2.1; omega

theorem grown_cell {W2 w3 : World} {o : Obj} {row : Option Nat} (hg : (W2.alloc o).grownBy w3 row) {p : Addr} {u : Value} (hp : p.block < W2.heap.size) (hne : row ≠ some p.block) (h : W2.cell? p = some u) : w3.cell? p = some u :=
  (hg.cell_far p (by simp; omega) (fun e => hne e.symm)).trans ((World.cell?_alloc_lt _ _ _ hp).trans h)
theorem grown_frozen {W2 w3 : World} {o : Obj} {row : Option Nat} (hg : (W2.alloc o).grownBy w3 row) {p : Addr} {u : Bool} (hp : p.block < W2.heap.size) (hne : row ≠ some p.block) (h : W2.frozen? p = u) : w3.frozen? p = u :=
  (hg.frozen_far p (by simp; omega) (fun e => hne e.symm)).trans ((World.frozen?_alloc_old _ _ _ (Nat.ne_of_lt hp)).trans h)
/-- What a round does: a block for the element, the call, a block for its answer, the append, the store. -/
theorem grew_of {h0 gs i : Nat} {wr W W2 w3 : World} {v : Value} {g n cap : Nat} {o2 : Obj} {u : Value} (hW : Below wr.heap.size wr W) (hb2 : Below W.heap.size W W2) (hgrow : (W2.alloc o2).grownBy w3 v.ownBlock) (hat : v.ownBlock = some g ∨ g = W2.heap.size + 1) (hown : ∀ k, v.ownBlock = some k → k < wr.heap.size) (hgs : gs < h0) (hgw : gs < wr.heap.size) :
    Grew h0 wr W2 (w3.setCell ⟨gs, i, none⟩ u) v (.slice (some ⟨g, 0, none⟩) n cap) W.heap.size where
  lo1 := hW.size
  lo2 := hb2.size
  sz := by have := hgrow.size; simp at this; simp; omega
  old := fun b h1 h2 h3 => by
    rw [Below.heap_setCell _ _ _ _ (show b ≠ gs by omega), hgrow.block b (by have := hW.size; have := hb2.size; simp; omega) (fun e => h3 e.symm), Below.heap_alloc _ _ _ (by have := hW.size; have := hb2.size; omega), hb2.block b (by have := hW.size; omega), hW.block b h2]
  new := fun b h1 h2 => by
    have h3 := hW.size
    rw [Below.heap_setCell _ _ _ _ (show b ≠ gs by omega), hgrow.block b (by simp; omega) (fun e => by have := hown b e.symm; omega), Below.heap_alloc _ _ _ (by omega)]
  own := hown
  own' := fun k e => by
    rcases hat with h | h
    · left; rw [h]; simpa [Value.ownBlock] using e
    · right; simp [Value.ownBlock] at e; omega

/-- The list's row is whole: the list. -/
theorem rowL {W : World} {h0 : Nat} {v v' : Value} {l : List V} {css : List C6} {T : TypeId} (hown : W.ownsRow h0 T 6 v l.length (css.flatMap C6.cells)) (hcl : css.length = l.length) (hv : ∀ i (h1 : i < l.length) (h2 : i < css.length), Val W (NewB h0 W v) 1000000 l[i] css[i].arr) (hv' : v'.ownBlock = none) :
    ∃ A c, v = .slice A l.length c ∧ l.length ≤ c ∧ (A = none → c = 0) ∧ ValL W (NewB h0 W v') 1000000 l A 0 := by
  rcases hown.2 with ⟨e, h0'⟩ | ⟨g, cap, cur, e, hbg, hcur, hnc, hcm, hcs, htk⟩
  · obtain rfl : l = [] := List.length_eq_zero_iff.1 h0'
    exact ⟨none, 0, by rw [e]; simp, by simp, fun _ => rfl, by rw [ValL]; trivial⟩
  · have hg : g < W.heap.size := Whole.lt hcur
    refine ⟨some ⟨g, 0, none⟩, cap, e, hnc, (fun h => by cases h), ValL.mk_ fun j hj => ?_⟩
    refine ⟨g, 0, (css[j]'(by omega)).arr, rfl, ⟨hbg, hg, by rw [hv']; simp, fun o => Whole.frozen hcur o⟩, fun q hq => ?_, ?_⟩
    · subst e
      have := hown.cellAt (j * 6 + q) (by omega)
      rw [flat_get C6.cells 6 C6.length _ _ _ (by omega) hq] at this
      rw [show 0 + (0 + j) * 6 + q = j * 6 + q by omega, this, C6.arr_get]
    · refine (hv j hj (by omega)).keep (fun _ _ => rfl) (fun b hb => ⟨hb.1, hb.2.1, by rw [hv']; simp, hb.2.2.2⟩)
theorem rowM {W : World} {h0 : Nat} {v : Value} {l : List (ByteArray × V)} {css : List C6} {T : TypeId} (hown : W.ownsRow h0 T 7 v l.length ((l.zip css).flatMap fun p => mem7 p.1.1 p.2)) (hcl : css.length = l.length) (hv : ∀ i (h1 : i < l.length) (h2 : i < css.length), l[i].1.size ≤ 1000000 ∧ Val W (NewB h0 W v) 1000000 l[i].2 css[i].arr) :
    ∃ A c, v = .slice A l.length c ∧ l.length ≤ c ∧ (A = none → c = 0) ∧ ValM W (fun b => h0 ≤ b ∧ b < W.heap.size ∧ Unfrozen W b) 1000000 l A 0 := by
  rcases hown.2 with ⟨e, h0'⟩ | ⟨g, cap, cur, e, hbg, hcur, hnc, hcm, hcs, htk⟩
  · obtain rfl : l = [] := List.length_eq_zero_iff.1 h0'
    exact ⟨none, 0, by rw [e]; simp, by simp, fun _ => rfl, by rw [ValM]; trivial⟩
  · have hg : g < W.heap.size := Whole.lt hcur
    have hz : (l.zip css).length = l.length := by rw [List.length_zip]; omega
    refine ⟨some ⟨g, 0, none⟩, cap, e, hnc, (fun h => by cases h), ValM.mk_ fun j hj => ?_⟩
    have hcell : ∀ q, q < 7 → W.cell? ⟨g, j * 7 + q, none⟩ = (mem7 l[j].1 (css[j]'(by omega)))[q]? := fun q hq => by
      subst e
      have := hown.cellAt (j * 7 + q) (by omega)
      rw [flat_get (fun p : (ByteArray × V) × C6 => mem7 p.1.1 p.2) 7 (fun _ => rfl) _ _ _ (by omega) hq, List.getElem_zip] at this
      exact this
    refine ⟨g, 0, (css[j]'(by omega)).arr, rfl, ⟨hbg, hg, fun o => Whole.frozen hcur o⟩, (hv j hj (by omega)).1, ?_, fun q hq => ?_, ?_⟩
    · have := hcell 0 (by omega)
      rw [show 0 + (0 + j) * 7 = j * 7 + 0 by omega, this]; rfl
    · have := hcell (1 + q) (by omega)
      rw [show 0 + (0 + j) * 7 + (1 + q) = j * 7 + (1 + q) by omega, this, C6.arr_get]
      simp [mem7, Nat.add_comm 1 q]
    · exact (hv j hj (by omega)).2.keep (fun _ _ => rfl) (fun b hb => ⟨hb.1, hb.2.1, hb.2.2.2⟩)
end Go.Proofs.YtpehddbpingobaaDoor
