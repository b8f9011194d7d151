/-
  A step of value.Copy keeps the invariant: the new block of the element that is copied alone comes to those that H tells of.
-/
import Derived.Test.YtpehddbpingobaaDoorCopy4
namespace Go.Proofs.YtpehddbpingobaaDoor
open Go.RowKit Go.Lib
set_option linter.unusedVariables false
set_option linter.unusedSimpArgs false

def nodeOf : V → C6 → Option Nat
  | .mk k _ _ _ l m, o => if k = 4 then (if l = [] then none else o.a.map (·.block)) else if k = 5 then (if m = [] then none else o.b.map (·.block)) else none
def stBlocks (st : List (V × C6)) : List Nat := st.filterMap fun p => nodeOf p.1 p.2

theorem zip_flat {α : Type} (f : C6 → List Value) : ∀ (l : List α) (css : List C6), css.length = l.length → (l.zip css).flatMap (fun p => f p.2) = css.flatMap f
  | [], [], _ => rfl
  | a :: r, c :: cs, h => by simp only [List.zip_cons_cons, List.flatMap_cons]; rw [zip_flat f r cs (by simpa using h)]

theorem alone_hold {w0 W W1 : World} {M : Nat} {H : Hold} (d : V) (o : C6) (ha : AloneOut W (· < w0.heap.size) M d W1 o) (hb0 : Below w0.heap.size w0 W) (hH : ∀ g x, H g = some x → g < W.heap.size) :
    ∃ H' : Hold, (∀ g x, H g = some x → H' g = some x) ∧ Alone H' d o ∧ (∀ g, nodeOf d o = some g → W.heap.size ≤ g ∧ g < W1.heap.size ∧ ∃ x, H' g = some x) ∧
      (∀ g mp kids, H' g = some (mp, kids) → H g = some (mp, kids) ∨ (nodeOf d o = some g ∧ ∃ css, Cont W1 g mp kids css ∧ ∀ i (h1 : i < kids.length) (h2 : i < css.length), Val w0 (· < w0.heap.size) M kids[i].2 css[i].arr)) := by
  have back : ∀ {v : V} {cs : Array Value}, Val W (· < w0.heap.size) M v cs → Val w0 (· < w0.heap.size) M v cs := fun h => h.keep (fun p hp => (hb0.cell hp).symm) (fun _ h => h)
  cases d with
  | mk k y n t l m =>
  obtain ⟨a1, a2, a3⟩ := ha
  by_cases k4 : k = 4
  · subst k4
    rw [if_pos rfl] at a2
    rw [if_neg (by omega)] at a3
    obtain ⟨css, hcl, hcv, hrow⟩ := a2
    by_cases hl : l = []
    · subst hl
      refine ⟨H, fun _ _ h => h, ⟨a1, ?_, by rw [if_neg (by omega)]; exact a3⟩, fun g hg => by simp [nodeOf] at hg, fun g mp kids h => .inl h⟩
      rw [if_pos rfl]
      rcases hrow.2 with ⟨e, _⟩ | ⟨g, cap, cur, e, _, _, hnc, _⟩
      · injection e with e1 e2 e3
        exact ⟨e2, by simp [noKey], fun _ => e3, fun h => by simp [noKey] at h⟩
      · injection e with e1 e2 e3
        refine ⟨e2, by simp [noKey], (fun h => by rw [e1] at h; cases h), fun h => by simp [noKey] at h⟩
    · rcases hrow.2 with ⟨_, e⟩ | ⟨g, cap, cur, e, hbg, hcur, hnc, hcm, hcs, htk⟩
      · exact absurd (List.eq_nil_of_length_eq_zero e) hl
      · injection e with e1 e2 e3
        have hgl : g < W1.heap.size := by
          rcases Nat.lt_or_ge g W1.heap.size with h1 | h1
          · exact h1
          · rw [Array.getElem?_eq_none h1] at hcur; cases hcur
        have hno : H g = none := by
          cases hh : H g with
          | none => rfl
          | some x => have := hH g x hh; omega
        refine ⟨fun x => if x = g then some (false, noKey l) else H x, fun g' x h => ?_, ⟨a1, ?_, by rw [if_neg (by omega)]; exact a3⟩, fun g' hg' => ?_, fun g' mp kids h => ?_⟩
        · have : g' ≠ g := fun e => by rw [e, hno] at h; cases h
          simp [this, h]
        · rw [if_pos rfl]
          refine ⟨by simpa [noKey] using e2, by rw [e3]; simpa [noKey] using hnc, (fun h => by rw [e1] at h; cases h), fun _ => ⟨g, e1, by simp⟩⟩
        · simp only [nodeOf, if_pos, if_neg hl, e1, Option.map_some, Option.some.injEq] at hg'
          subst hg'
          exact ⟨hbg, hgl, _, by simp; rfl⟩
        · by_cases hgg : g' = g
          · subst hgg
            simp only [if_pos, Option.some.injEq, Prod.mk.injEq] at h
            obtain ⟨rfl, rfl⟩ := h
            refine .inr ⟨by simp [nodeOf, hl, e1], css, ⟨by simpa [noKey] using hcl, cur, hcur, ?_⟩, fun i h1 h2 => ?_⟩
            · rw [show (noKey l).length * esz false = l.length * 6 by simp [noKey, esz], htk]
              exact (zip_flat C6.cells (noKey l) css (by simpa [noKey] using hcl)).symm
            · have := back (hcv i (by simpa [noKey] using h1) h2)
              simpa [noKey] using this
          · simp only [if_neg hgg] at h
            exact .inl h
  · rw [if_neg k4] at a2
    by_cases k5 : k = 5
    · subst k5
      rw [if_pos rfl] at a3
      obtain ⟨css, hcl, hcv, hrow⟩ := a3
      by_cases hl : m = []
      · subst hl
        refine ⟨H, fun _ _ h => h, ⟨a1, by rw [if_neg (by omega)]; exact a2, ?_⟩, fun g hg => by simp [nodeOf] at hg, fun g mp kids h => .inl h⟩
        rw [if_pos rfl]
        rcases hrow.2 with ⟨e, _⟩ | ⟨g, cap, cur, e, _, _, hnc, _⟩
        · injection e with e1 e2 e3
          exact ⟨e2, by simp, fun _ => e3, fun h => absurd rfl h⟩
        · injection e with e1 e2 e3
          exact ⟨e2, by simp, (fun h => by rw [e1] at h; cases h), fun h => absurd rfl h⟩
      · rcases hrow.2 with ⟨_, e⟩ | ⟨g, cap, cur, e, hbg, hcur, hnc, hcm, hcs, htk⟩
        · exact absurd (List.eq_nil_of_length_eq_zero e) hl
        · injection e with e1 e2 e3
          have hgl : g < W1.heap.size := by
            rcases Nat.lt_or_ge g W1.heap.size with h1 | h1
            · exact h1
            · rw [Array.getElem?_eq_none h1] at hcur; cases hcur
          have hno : H g = none := by
            cases hh : H g with
            | none => rfl
            | some x => have := hH g x hh; omega
          refine ⟨fun x => if x = g then some (true, m) else H x, fun g' x h => ?_, ⟨a1, by rw [if_neg (by omega)]; exact a2, ?_⟩, fun g' hg' => ?_, fun g' mp kids h => ?_⟩
          · have : g' ≠ g := fun e => by rw [e, hno] at h; cases h
            simp [this, h]
          · rw [if_pos rfl]
            exact ⟨e2, by rw [e3]; exact hnc, (fun h => by rw [e1] at h; cases h), fun _ => ⟨g, e1, by simp⟩⟩
          · simp only [nodeOf, if_neg k4, if_pos, if_neg hl, e1, Option.map_some, Option.some.injEq] at hg'
            subst hg'
            exact ⟨hbg, hgl, _, by simp; rfl⟩
          · by_cases hgg : g' = g
            · subst hgg
              simp only [if_pos, Option.some.injEq, Prod.mk.injEq] at h
              obtain ⟨rfl, rfl⟩ := h
              exact .inr ⟨by simp [nodeOf, hl, e1], css, ⟨hcl, cur, hcur, htk⟩, fun i h1 h2 => back (hcv i h1 h2).2⟩
            · simp only [if_neg hgg] at h
              exact .inl h
    · rw [if_neg k5] at a3
      exact ⟨H, fun _ _ h => h, ⟨a1, by rw [if_neg k4]; exact a2, by rw [if_neg k5]; exact a3⟩, fun g hg => by simp [nodeOf, k4, k5] at hg, fun g mp kids h => .inl h⟩

/-- While a block g is gone through, up to j; the blocks of what waits are as they were. -/
def dnAt (g j : Nat) (st : List (V × C6)) (g' i : Nat) : Prop := (g' = g ∧ i < j) ∨ (g' ≠ g ∧ g' ∉ stBlocks st)

theorem copy_step {w0 W W1 W2 : World} {M : Nat} {H : Hold} {st : List (V × C6)} {g : Nat} {mp : Bool} {kids : List (ByteArray × V)} {j : Nat} {o : C6} {ob : Option Nat}
    (hI : Inv w0 W M H (dnAt g j st)) (hg : H g = some (mp, kids)) (hj : j < kids.length) (hgS : g ∉ stBlocks st) (hst : ∀ p ∈ st, Alone H p.1 p.2) (hnd : (stBlocks st).Nodup) (hlt : ∀ b ∈ stBlocks st, b < W.heap.size)
    (hb0 : Below w0.heap.size w0 W) (ha : AloneOut W (· < w0.heap.size) M kids[j].2 W1 o) (h1 : ∀ k, k < W.heap.size → W1.heap[k]? = W.heap[k]?) (hsz : W.heap.size ≤ W1.heap.size)
    (hob : ∀ k x, H k = some x → some k ≠ ob) (hobl : ∀ k, ob = some k → k < W.heap.size)
    (h2 : ∀ k, k ≠ g → k < W1.heap.size → some k ≠ ob → W2.heap[k]? = W1.heap[k]?) (h2g : W2.heap[g]? = (put6 W1 g (j * esz mp + hoff mp) o).heap[g]?) :
    ∃ H' : Hold, (∀ g x, H g = some x → H' g = some x) ∧ Inv w0 W2 M H' (dnAt g (j + 1) (st ++ [(kids[j].2, o)])) ∧ H' g = some (mp, kids) ∧ g ∉ stBlocks (st ++ [(kids[j].2, o)]) ∧ (∀ p ∈ st ++ [(kids[j].2, o)], Alone H' p.1 p.2) ∧
      (stBlocks (st ++ [(kids[j].2, o)])).Nodup ∧ (∀ b ∈ stBlocks (st ++ [(kids[j].2, o)]), b < W1.heap.size) ∧ (∀ k x, H' k = some x → H k = some x ∨ (W.heap.size ≤ k ∧ k < W1.heap.size)) := by
  have hHlt : ∀ g x, H g = some x → g < W.heap.size := fun g x h => hI.lt h
  obtain ⟨H', hext, hal, hnode, hcase⟩ := alone_hold kids[j].2 o ha hb0 hHlt
  have hglt := hHlt g _ hg
  have hS : stBlocks (st ++ [(kids[j].2, o)]) = stBlocks st ++ (nodeOf kids[j].2 o).toList := by
    simp only [stBlocks, List.filterMap_append]
    cases hn : nodeOf kids[j].2 o <;> simp [hn]
  have hgn : g ∉ stBlocks (st ++ [(kids[j].2, o)]) := by
    rw [hS, List.mem_append]
    rintro (h | h)
    · exact hgS h
    · simp only [Option.mem_toList] at h
      have := (hnode g h).1; omega
  refine ⟨H', hext, ?_, hext g _ hg, hgn, ?_, ?_, ?_, fun k x hk => ?_⟩
  · intro g' mp' kids' hg'
    rcases hcase g' mp' kids' hg' with hold | ⟨hn, css, hcont, hel⟩
    · obtain ⟨hb, css, hcont, hel⟩ := hI g' mp' kids' hold
      have hg'lt := hHlt g' _ hold
      refine ⟨hb, ?_⟩
      by_cases hgg : g' = g
      · subst hgg
        obtain ⟨rfl, rfl⟩ : mp = mp' ∧ kids = kids' := by rw [hg] at hold; simpa using hold
        have hc1 : Cont W1 g' mp kids css := ⟨hcont.1, by obtain ⟨cur, hc, ht⟩ := hcont.2; exact ⟨cur, (h1 g' hg'lt).trans hc, ht⟩⟩
        have hc2 := hc1.set j hj o
        refine ⟨css.set j o, ⟨hc2.1, by obtain ⟨cur, hc, ht⟩ := hc2.2; exact ⟨cur, h2g.trans hc, ht⟩⟩, fun i e1 e2 => ?_⟩
        rw [List.getElem_set]
        by_cases hij : j = i
        · subst hij
          rw [if_pos rfl]
          exact .inl ⟨.inl ⟨rfl, by omega⟩, hal⟩
        · rw [if_neg hij]
          rcases hel i e1 (by simpa using e2) with ⟨h5, h6⟩ | ⟨h5, h6⟩
          · refine .inl ⟨?_, h6.more hext⟩
            rcases h5 with ⟨_, h5⟩ | ⟨h5, _⟩
            · exact .inl ⟨rfl, by omega⟩
            · exact absurd rfl h5
          · refine .inr ⟨?_, h6⟩
            rintro (⟨_, h7⟩ | ⟨h7, _⟩)
            · exact h5 (.inl ⟨rfl, by omega⟩)
            · exact h7 rfl
      · have hc2 : Cont W2 g' mp' kids' css := ⟨hcont.1, by obtain ⟨cur, hc, ht⟩ := hcont.2; exact ⟨cur, (h2 g' hgg (by omega) (hob g' _ hold)).trans ((h1 g' hg'lt).trans hc), ht⟩⟩
        refine ⟨css, hc2, fun i e1 e2 => ?_⟩
        have hmem : g' ∈ stBlocks (st ++ [(kids[j].2, o)]) ↔ g' ∈ stBlocks st := by
          rw [hS, List.mem_append]
          constructor
          · rintro (h | h)
            · exact h
            · simp only [Option.mem_toList] at h
              have := (hnode g' h).1; omega
          · exact .inl
        rcases hel i e1 e2 with ⟨h5, h6⟩ | ⟨h5, h6⟩
        · refine .inl ⟨?_, h6.more hext⟩
          rcases h5 with ⟨h5, _⟩ | ⟨_, h5⟩
          · exact absurd h5 hgg
          · exact .inr ⟨hgg, fun h => h5 (hmem.1 h)⟩
        · refine .inr ⟨?_, h6⟩
          rintro (⟨h7, _⟩ | ⟨_, h7⟩)
          · exact hgg h7
          · exact h5 (.inr ⟨hgg, fun h => h7 (hmem.2 h)⟩)
    · obtain ⟨hge, hgl1, -⟩ := hnode g' hn
      have hgg : g' ≠ g := by omega
      refine ⟨Nat.le_trans hb0.size hge, css, ⟨hcont.1, by obtain ⟨cur, hc, ht⟩ := hcont.2; exact ⟨cur, (h2 g' hgg hgl1 (fun e => by have := hobl g' e.symm; omega)).trans hc, ht⟩⟩, fun i e1 e2 => .inr ⟨?_, hel i e1 e2⟩⟩
      rintro (⟨h7, _⟩ | ⟨_, h7⟩)
      · exact hgg h7
      · apply h7; rw [hS, List.mem_append]; exact .inr (by simp [hn])
  · intro p hp
    rcases List.mem_append.1 hp with hp | hp
    · exact (hst p hp).more hext
    · simp at hp; subst hp; exact hal
  · rw [hS]
    refine List.nodup_append.2 ⟨hnd, ?_, ?_⟩
    · cases nodeOf kids[j].2 o <;> simp
    · intro a ha' b hb' e
      simp only [Option.mem_toList] at hb'
      have h8 := hlt a ha'
      have h9 := (hnode b hb').1
      omega
  · intro b hb
    rw [hS] at hb
    rcases List.mem_append.1 hb with hb | hb
    · have := hlt b hb; omega
    · simp only [Option.mem_toList] at hb
      exact (hnode b hb).2.1
  · obtain ⟨mp', kids'⟩ := x
    rcases hcase k mp' kids' hk with h | ⟨h, _⟩
    · exact .inl h
    · exact .inr ⟨(hnode k h).1, (hnode k h).2.1⟩
end Go.Proofs.YtpehddbpingobaaDoor
