/-
  value.each: what waits.
-/
import Derived.Test.YtdpohklklmkjbaaDoorEach1
namespace Go.Proofs.YtdpohklklmkjbaaDoor
open Go.RowKit Go.Lib
set_option linter.unusedVariables false
set_option linter.unusedSimpArgs false

theorem info_Nested : (Tryd.prog.info? 115).map (fun i => (i.zero, i.size, i.bytes)) = some (some (.agg #[.int .i64 0, .bool false, .int .i64 0, .string ⟨#[]⟩, .slice none 0 0, .slice none 0 0, .int .i64 0]), 7, 96) := by kernel_rfl
/-- What holds whenever something waits to be shown. -/
structure Wait (w : World) (B g : Nat) (st : List Node) (ov : Value) (acc : Nat) (wr : World) : Prop where
  own : wr.ownsRow (w.heap.size + 1) 115 7 ov st.length (st.flatMap node7)
  vals : ∀ p ∈ st, Val w (· < B) 1000000 p.1.1 p.1.2.arr
  abt : ∀ p ∈ st, p.2 + vsize p.1.1 ≤ 1000000
  cell : wr.cell? ⟨g, 0, none⟩ = some (.int .i64 acc)
  frz : wr.frozen? ⟨g, 0, none⟩ = false
  only : Only g w wr
def EachRel (w : World) (B g : Nat) (tot : Nat → List (V × Nat) → Nat) (T k : Nat) (ov : Value) (wr : World) : Prop :=
  ∃ (st : List Node) (acc : Nat), Wait w B g st ov acc wr ∧ tot acc (st.map nodeV) = T ∧ nSize (st.map nodeV) = k ∧ k ≤ 1000000
theorem Wait.pop {w wr : World} {B g : Nat} {st : List Node} {x : Node} {gO cap acc : Nat} (h : Wait w B g (st ++ [x]) (.slice (some ⟨gO, 0, none⟩) (st.length + 1) cap) acc wr) (hg : g < w.heap.size) (o5 : Obj) :
    Wait w B g st (.slice (some ⟨gO, 0, none⟩) st.length cap) acc (wr.alloc o5) := by
  have hgl := lt_of_cell h.cell
  refine ⟨?_, fun p hp => h.vals p (List.mem_append_left _ hp), fun p hp => h.abt p (List.mem_append_left _ hp), (World.cell?_alloc_lt _ _ _ hgl).trans h.cell, (World.frozen?_alloc_old _ _ _ (Nat.ne_of_lt hgl)).trans h.frz, h.only.step ((Below.refl _ _).alloc (Nat.le_refl _) _)⟩
  apply World.ownsRow.alloc
  obtain ⟨hl, hr⟩ := h.own
  refine ⟨by rw [flat_len node7 7 node7_len], .inr ?_⟩
  rcases hr with ⟨e, _⟩ | ⟨g', cap', cur, e, h1, h2, h3, h4, h5, h6⟩
  · cases e
  · injection e with e1 e2 e3
    injection e1 with e1
    injection e1 with e1
    subst e1 e3
    refine ⟨gO, cap, cur, rfl, h1, h2, by simp at h3; omega, h4, h5, ?_⟩
    have := congrArg (List.take (st.length * 7)) h6
    rw [List.take_take, Nat.min_eq_left (by simp; omega)] at this
    rw [this, List.flatMap_append, List.take_append_of_le_length (by rw [flat_len node7 7 node7_len]; exact Nat.le_refl _), List.take_of_length_le (by rw [flat_len node7 7 node7_len]; exact Nat.le_refl _)]
theorem Only.trans {g : Nat} {w w1 w2 : World} (h1 : Only g w w1) (h2 : Only g w1 w2) : Only g w w2 :=
  ⟨Nat.le_trans h1.1 h2.1, fun k hk hg => (h2.2.1 k (Nat.lt_of_lt_of_le hk h1.1) hg).trans (h1.2.1 k hk hg), fun B W hW hb hs => h2.2.2 B W (h1.2.2 B W hW hb hs) hb (Nat.le_trans hs h1.1)⟩
theorem own_only {W W' : World} {g base : Nat} {e : TypeId} {size : Nat} {v : Value} {n : Nat} {xs : List Value} (h : W.ownsRow base e size v n xs) (ho : Only g W W') (hg : v.ownBlock ≠ some g) : W'.ownsRow base e size v n xs := by
  refine ⟨h.1, ?_⟩
  rcases h.2 with h0 | ⟨g', cap, cur, he, hb, hc, hr⟩
  · exact .inl h0
  · exact .inr ⟨g', cap, cur, he, hb, (ho.2.1 g' (Whole.lt hc) (fun e => hg (by rw [he, ← e]; rfl))).trans hc, hr⟩
/-- Shown: the closure's call. -/
theorem Wait.shown {w W W2 : World} {B g : Nat} {st : List Node} {ov : Value} {acc acc2 : Nat} (h : Wait w B g st ov acc W) (hg : g < w.heap.size) (ho : Only g W W2) (hc : W2.cell? ⟨g, 0, none⟩ = some (.int .i64 acc2)) (hf : W2.frozen? ⟨g, 0, none⟩ = false) : Wait w B g st ov acc2 W2 :=
  ⟨own_only h.own ho (fun e => by have := (h.own.lt _ e).1; omega), h.vals, h.abt, hc, hf, h.only.trans ho⟩
/-- One more waits. -/
theorem Wait.push {w wr w3 : World} {B g : Nat} {st : List Node} {ov v' : Value} {acc : Nat} {p : Node} {o1 o2 : Obj} (h : Wait w B g st ov acc wr) (hg : g < w.heap.size) (hv : Val w (· < B) 1000000 p.1.1 p.1.2.arr) (ha : p.2 + vsize p.1.1 ≤ 1000000)
    (hown : w3.ownsRow (w.heap.size + 1) 115 7 v' (st.length + 1) (st.flatMap node7 ++ node7 p)) (hgrow : ((wr.alloc o1).alloc o2).grownBy w3 ov.ownBlock) : Wait w B g (st ++ [p]) v' acc w3 := by
  have hgl := lt_of_cell h.cell
  have hne : ov.ownBlock ≠ some g := fun e => by have := (h.own.lt _ e).1; omega
  have hbl : ∀ k, k < wr.heap.size → ov.ownBlock ≠ some k → w3.heap[k]? = wr.heap[k]? := fun k hk hn =>
    (hgrow.block k (by simp; omega) (fun e => hn e.symm)).trans ((Below.heap_alloc _ _ _ (by simp; omega)).trans (Below.heap_alloc _ _ _ hk))
  refine ⟨?_, fun q hq => ?_, fun q hq => ?_, (World.cell?_of_block (hbl g hgl hne)).trans h.cell, (World.frozen?_of_block (hbl g hgl hne)).trans h.frz, ?_⟩
  · rw [List.flatMap_append]
    simpa using hown
  · rcases List.mem_append.1 hq with hq | hq
    · exact h.vals q hq
    · obtain rfl : q = p := by simpa using hq
      exact hv
  · rcases List.mem_append.1 hq with hq | hq
    · exact h.abt q hq
    · obtain rfl : q = p := by simpa using hq
      exact ha
  · refine ⟨?_, fun k hk hkg => ?_, fun B' W hW h1 h2 => ?_⟩
    · have := hgrow.size; have := h.only.1; simp at *; omega
    · refine (hbl k (Nat.lt_of_lt_of_le hk h.only.1) (fun e => ?_)).trans (h.only.2.1 k hk hkg)
      have := (h.own.lt _ e).1; omega
    · have hb := h.only.2.2 B' W hW h1 h2
      have hs := h.only.1
      exact Below.grown ((hb.alloc (by omega) _).alloc (by simp; omega) _) hgrow (by simp; omega) (fun j hj => by have := (h.own.lt _ hj).1; omega)

def InE (w : World) (B g g5 : Nat) (st : List Node) (l : List V) (a acc : Nat) (cs7 : Array Value) (kk : Nat) (ov i : Value) (wr : World) : Prop :=
  ∃ (j : Nat) (v : Value) (ns : List Node), j + kk = l.length ∧ i = .int .i64 j ∧ v = ov ∧ ns.map nodeV = (l.take j).map (fun y => (y, a + 1)) ∧ Whole wr g5 115 cs7 ∧ v.ownBlock ≠ some g5 ∧ Wait w B g (st ++ ns) v acc wr
theorem vsizeL_mem {x : V} : ∀ {l : List V}, x ∈ l → vsize x ≤ vsizeL l
  | v :: r, h => by
    rw [vsizeL]
    rcases List.mem_cons.1 h with rfl | h
    · omega
    · have := vsizeL_mem h; omega
theorem vsizeL_len : ∀ l : List V, l.length ≤ vsizeL l
  | [] => by simp
  | v :: r => by have := vsize_pos v; have := vsizeL_len r; rw [vsizeL, List.length_cons]; omega
end Go.Proofs.YtdpohklklmkjbaaDoor
