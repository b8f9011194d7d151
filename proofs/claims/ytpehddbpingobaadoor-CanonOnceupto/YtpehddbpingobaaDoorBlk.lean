/-
  Blocks that are known whole; rows of six cells an element; what value.Texts makes.
-/
import Derived.Test.YtpehddbpingobaaDoorDigits
import Derived.Maps.AppendAt
import Derived.Deep.AppendLies
import Derived.OwnWalk
import Derived.Laws.OwnMore
import Derived.Lib.SmallJoins
namespace Go.Proofs.YtpehddbpingobaaDoor
open Go.RowKit Go.Lib
set_option linter.unusedVariables false
set_option linter.unusedSimpArgs false

/-- Block g is just these cells, and none of them is frozen. -/
def Whole (w : World) (g : Nat) (t : TypeId) (cs : Array Value) : Prop := w.heap[g]? = some (.cells cs t (0, 0))
section
variable {w w' : World} {g : Nat} {t : TypeId} {cs : Array Value}
theorem Whole.cell (h : Whole w g t cs) (i : Nat) : w.cell? ⟨g, i, none⟩ = cs[i]? := by
  unfold Whole at h
  simp [World.cell?, h]
theorem Whole.frozen (h : Whole w g t cs) (i : Nat) : w.frozen? ⟨g, i, none⟩ = false := by
  unfold Whole at h
  simp [World.frozen?, h]
theorem Whole.lt (h : Whole w g t cs) : g < w.heap.size := by
  rcases Nat.lt_or_ge g w.heap.size with h1 | h1
  · exact h1
  · unfold Whole at h
    rw [Array.getElem?_eq_none h1] at h
    exact absurd h (by simp)
theorem Whole.made (w : World) (t : TypeId) (cs : Array Value) : Whole (w.alloc (.cells cs t)) w.heap.size t cs := by
  unfold Whole World.alloc
  simp
theorem Whole.alloc (h : Whole w g t cs) (o : Obj) : Whole (w.alloc o) g t cs := (Below.heap_alloc w o g h.lt).trans h
theorem Whole.put (h : Whole w g t cs) (i : Nat) (u : Value) : Whole (w.setCell ⟨g, i, none⟩ u) g t (cs.setIfInBounds i u) := by
  unfold Whole at h ⊢
  simp [World.setCell, Array.getElem?_modify, h]
theorem Whole.other (h : Whole w g t cs) {p : Addr} (hp : g ≠ p.block) (u : Value) : Whole (w.setCell p u) g t cs := (Below.heap_setCell w p u g hp).trans h
theorem Whole.below {B : Nat} (h : Whole w g t cs) (hb : Below B w w') (hg : g < B) : Whole w' g t cs := (hb.block g hg).trans h
theorem Whole.grown {row : Option Nat} (h : Whole w g t cs) (hb : w.grownBy w' row) (hg : some g ≠ row) : Whole w' g t cs := (hb.block g h.lt hg).trans h
end

theorem Whole.six {w : World} {g : Nat} {t : TypeId} {a b c d e f : Value} (h : Whole w g t #[a, b, c, d, e, f]) :
    w.cell? ⟨g, 0, none⟩ = some a ∧ w.cell? ⟨g, 1, none⟩ = some b ∧ w.cell? ⟨g, 2, none⟩ = some c ∧ w.cell? ⟨g, 3, none⟩ = some d ∧ w.cell? ⟨g, 4, none⟩ = some e ∧ w.cell? ⟨g, 5, none⟩ = some f :=
  ⟨h.cell 0, h.cell 1, h.cell 2, h.cell 3, h.cell 4, h.cell 5⟩
/-- The cells of an array literal that was laid new. -/
theorem cells_new (w : World) (cs : Array Value) (t : TypeId) : ∀ j u, cs.toList[j]? = some u → (w.alloc (.cells cs t)).cell? ((⟨w.heap.size, 0, none⟩ : Addr).add j) = some u := by
  intro j u hj
  have e : (⟨w.heap.size, 0, none⟩ : Addr).add j = ⟨w.heap.size, j, none⟩ := by
    unfold Addr.add
    split
    · subst_vars; rfl
    · simp
  rw [e, World.cell?_alloc_new]
  simpa using hj

def textCells (s : ByteArray) : List Value := [.int .i64 3, .bool false, .int .i64 0, .string s, .slice none 0 0, .slice none 0 0]
theorem info_Value : (Tryd.prog.info? 39).map (fun i => (i.zero, i.size, i.bytes)) = some (some (.agg #[.int .i64 0, .bool false, .int .i64 0, .string ⟨#[]⟩, .slice none 0 0, .slice none 0 0]), 6, 88) := by kernel_rfl

/-- Texts in memory: a slice of strings. -/
def Strs (w : World) (ss : List ByteArray) (A : Option Addr) : Prop := ss ≠ [] → ∃ b off, A = some ⟨b, off, none⟩ ∧ b < w.heap.size ∧ ∀ j (hj : j < ss.length), w.cell? ⟨b, off + j, none⟩ = some (.string ss[j])
theorem Strs.below {w w' : World} {ss : List ByteArray} {A : Option Addr} (h : Strs w ss A) (hb : Below w.heap.size w w') : Strs w' ss A := fun hn => by
  obtain ⟨b, off, e, hl, hc⟩ := h hn
  exact ⟨b, off, e, Nat.lt_of_lt_of_le hl hb.size, fun j hj => (hb.cell hl).trans (hc j hj)⟩

def TextsRel (w : World) (ss : List ByteArray) (k : Nat) (i : Value) (wr : World) : Prop :=
  ∃ (j : Nat) (v : Value), j + k = ss.length ∧ i = .int .i64 j ∧ Whole wr w.heap.size 39 #[.int .i64 0, .bool false, .int .i64 0, .string ⟨#[]⟩, .slice none 0 0, .slice none 0 0] ∧
    Whole wr (w.heap.size + 1) 39 #[.int .i64 4, .bool false, .int .i64 0, .string ⟨#[]⟩, v, .slice none 0 0] ∧ wr.ownsRow (w.heap.size + 2) 39 6 v j ((ss.take j).flatMap textCells) ∧ Below w.heap.size w wr

set_option maxRecDepth 100000 in
set_option maxHeartbeats 4000000 in
theorem texts_any (ss : List ByteArray) (A : Option Addr) (c : Nat) (w : World) (hA : Strs w ss A) (hlen : ss.length ≤ 1000000) :
    Calls Tryd.prog 11 #[.slice A ss.length c] w fun e w' => (∃ v, e = .returned (.agg #[.int .i64 4, .bool false, .int .i64 0, .string ⟨#[]⟩, v, .slice none 0 0]) ∧ w'.ownsRow (w.heap.size + 2) 39 6 v ss.length (ss.flatMap textCells)) ∧ Below w.heap.size w w' := by
  obtain ⟨i0, hi, hz0, hz1, hz2⟩ := info_parts info_Value
  have HA := Lib.hid hA
  clear hA
  go_enter Tryd.func11, Tryd.ntmps11
  go_wp2_with fail
  go_loopg [9] ss.length (TextsRel w ss)
  case atStart =>
    refine ⟨0, .slice none 0 0, by simp, rfl, (Whole.made w _ _).alloc _, ?_, World.ownsRow_nil _ _ _ _, ((Below.refl _ _).alloc (Nat.le_refl _) _).alloc (by simp) _⟩
    have := Whole.made (w.alloc (.cells #[.int .i64 0, .bool false, .int .i64 0, .string ⟨#[]⟩, .slice none 0 0, .slice none 0 0] 39)) 39 #[.int .i64 4, .bool false, .int .i64 0, .string ⟨#[]⟩, .slice none 0 0, .slice none 0 0]
    simpa using this
  case round =>
    obtain ⟨j, v, hk, rfl, hW0, hW1, hown, hb⟩ := hrel
    by_cases hlt : j < ss.length
    · obtain ⟨b, off, rfl, hbl, hc⟩ := HA.out (by intro h; subst h; simp at hlt)
      have hcj : wr.cell? ⟨b, off + j, none⟩ = some (.string ss[j]) := (hb.cell hbl).trans (hc j hlt)
      have hc4 := hW1.cell 4
      simp at hc4
      have hf4 := hW1.frozen 4
      have hz : w.heap.size + 1 < wr.heap.size := hW1.lt
      have hnb : v.ownBlock ≠ some (w.heap.size + 1) := fun e => by have := (hown.lt _ e).1; omega
      have hnb0 : v.ownBlock ≠ some w.heap.size := fun e => by have := (hown.lt _ e).1; omega
      obtain ⟨s, hs⟩ : ∃ s, ss[j] = s := ⟨_, rfl⟩
      rw [hs] at hcj
      have HX := Lib.hid (And.intro hk (And.intro hs (And.intro hW0 (And.intro hW1 hown))))
      clear hc hk hs hW0 hW1 hown
      go_wp2_with (first
        | (at_builtin; refine wpList_append_own _ rfl _ _ 36 rfl (w.heap.size + 2) 39 i0 (.agg #[.int .i64 0, .bool false, .int .i64 0, .string ⟨#[]⟩, .slice none 0 0, .slice none 0 0]) 6 88 Tryd.underlying36 hi hz0 hz1 hz2 rfl (by decide) _ _ _ rfl (HX.out.2.2.2.2.alloc _) ⟨wr.heap.size, 0, none⟩ 1 1 (textCells s) rfl rfl (cells_new _ _ _) (fun x hx => by simp [textCells] at hx; rcases hx with rfl | rfl | rfl | rfl | rfl | rfl <;> rfl) (by unfold maxLen; omega) (by omega) (by simp; omega) ?_; intro v' w3 hown' hgrow3 hnil3
           obtain ⟨g2, cap2, rfl, hg2, hg2'⟩ := hown'.form (Nat.succ_pos _)
           have X : Hid (w3.ownsRow (w.heap.size + 2) 39 6 (.slice (some ⟨g2, 0, none⟩) (j + 1) cap2) (j + 1) ((ss.take j).flatMap textCells ++ textCells s) ∧ Whole w3 w.heap.size 39 #[.int .i64 0, .bool false, .int .i64 0, .string ⟨#[]⟩, .slice none 0 0, .slice none 0 0] ∧ Whole w3 (w.heap.size + 1) 39 #[.int .i64 4, .bool false, .int .i64 0, .string ⟨#[]⟩, v, .slice none 0 0] ∧ Below w.heap.size w w3) := ⟨hown', (HX.out.2.2.1.alloc _).grown hgrow3 (fun e => hnb0 e.symm), (HX.out.2.2.2.1.alloc _).grown hgrow3 (fun e => hnb e.symm), Below.grown (hb.alloc hb.size _) hgrow3 (by simp; omega) (fun j hj => by have := (HX.out.2.2.2.2.lt _ hj).1; omega)⟩
           have hd4 := X.out.2.2.1.cell 4
           simp at hd4
           have he4 := X.out.2.2.1.frozen 4
           have hz3 := X.out.2.2.1.lt
           clear hown' hgrow3 hnil3))
      go_roundg (ss.length - (j + 1))
      case rel =>
        obtain ⟨X1, X2, X3, X4⟩ := X.out
        refine ⟨j + 1, _, by omega, by go_num, X2.other (by simp) _, X3.put 4 _, ?_, X4.setCell (by simp) _⟩
        have e : (ss.take (j + 1)).flatMap textCells = (ss.take j).flatMap textCells ++ textCells s := by
          rw [List.take_succ_eq_append_getElem hlt, List.flatMap_append, HX.out.2.1]; simp
        rw [e]
        exact ownsRow_setCell_below X1 (by simp) _
      case measure => have := HX.out.1; omega
    · obtain rfl : j = ss.length := by omega
      obtain ⟨a0, a1, a2, a3, a4, a5⟩ := hW0.six
      obtain ⟨b0, b1, b2, b3, b4, b5⟩ := hW1.six
      have f0 := hW0.frozen 0
      have f1 := hW0.frozen 1
      have f2 := hW0.frozen 2
      have f3 := hW0.frozen 3
      have f4 := hW0.frozen 4
      have f5 := hW0.frozen 5
      have hz : w.heap.size < wr.heap.size := hW0.lt
      have hv : ∃ a n' c', v = .slice a n' c' := by
        rcases Go.Joins.ownsRow_forms hown with ⟨rfl, _⟩ | ⟨g, cap, rfl⟩ <;> exact ⟨_, _, _, rfl⟩
      have HO := Lib.hid hown
      clear HA hown hW0 hW1 hk
      obtain ⟨a, n', c', rfl⟩ := hv
      go_wp2_with fail
      refine bodyPost_ret (v := .agg #[.int .i64 4, .bool false, .int .i64 0, .string ⟨#[]⟩, .slice a n' c', .slice none 0 0]) (by simp [results, Tryd.results11, go_sem, a0, a1, a2, a3, a4, a5]) rfl ⟨⟨_, rfl, ?_⟩, ?_⟩
      · have h := HO.out
        rw [List.take_length] at h
        exact ownsRow_setCell_below (ownsRow_setCell_below (ownsRow_setCell_below (ownsRow_setCell_below (ownsRow_setCell_below (ownsRow_setCell_below h (by simp) _) (by simp) _) (by simp) _) (by simp) _) (by simp) _) (by simp) _
      · exact (((((hb.setCell (by simp) _).setCell (by simp) _).setCell (by simp) _).setCell (by simp) _).setCell (by simp) _).setCell (by simp) _
end Go.Proofs.YtpehddbpingobaaDoor
