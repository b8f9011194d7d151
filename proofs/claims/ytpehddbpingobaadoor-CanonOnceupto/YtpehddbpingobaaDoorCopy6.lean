/-
  value.Copy, walked.
-/
import Derived.Test.YtpehddbpingobaaDoorCopy5
import Derived.Deep.RegionHeld3
import Derived.OneCell
namespace Go.Proofs.YtpehddbpingobaaDoor
open Go.RowKit Go.Lib
set_option linter.unusedVariables false
set_option linter.unusedSimpArgs false

def stSize : List (V × C6) → Nat
  | [] => 0
  | p :: r => vsize p.1 + stSize r
theorem stSize_append : ∀ a b, stSize (a ++ b) = stSize a + stSize b
  | [], b => by simp [stSize]
  | p :: r, b => by simp only [List.cons_append, stSize, stSize_append r b]; omega
theorem vsize_pos : ∀ d, 1 ≤ vsize d
  | .mk _ _ _ _ _ _ => by rw [vsize]; omega
theorem st_le : ∀ st, st.length ≤ stSize st
  | [] => by simp [stSize]
  | p :: r => by have := vsize_pos p.1; have := st_le r; simp only [stSize, List.length_cons]; omega
def zero6 : Array Value := #[.int .i64 0, .bool false, .int .i64 0, .string ⟨#[]⟩, .slice none 0 0, .slice none 0 0]
def flatSt (st : List (V × C6)) : List Value := st.flatMap fun p => p.2.cells

/-- What holds whenever nothing is under way: all blocks that H tells of, but those of what waits, are copied. -/
structure Base (w : World) (g3 : Nat) (otop : C6) (d : V) (H : Hold) (st : List (V × C6)) (ov : Value) (wr : World) : Prop where
  top : Alone H d otop
  al : ∀ p ∈ st, Alone H p.1 p.2
  nd : (stBlocks st).Nodup
  own : wr.ownsRow (w.heap.size + 2) 39 6 ov st.length (flatSt st)
  far : ∀ g x, H g = some x → some g ≠ ov.ownBlock ∧ g ≠ g3 ∧ g ≠ w.heap.size + 1
  ov3 : ov.ownBlock ≠ some g3
  res : Whole wr (w.heap.size + 1) 39 zero6
  t3 : Whole wr g3 39 otop.arr
  bel : Below w.heap.size w wr
  ok : ∀ p ∈ st, VOk 1000000 p.1
  g3w : w.heap.size + 2 ≤ g3

def CopyRel (w : World) (d : V) (g3 : Nat) (otop : C6) (k : Nat) (ov : Value) (wr : World) : Prop :=
  ∃ (H : Hold) (st : List (V × C6)), Inv w wr 1000000 H (fun g _ => g ∉ stBlocks st) ∧ Base w g3 otop d H st ov wr ∧ stSize st = k ∧ k ≤ 1000000000

theorem flatSt_snoc (st : List (V × C6)) (d : V) (o : C6) : flatSt (st ++ [(d, o)]) = flatSt st ++ o.cells := by simp [flatSt]
theorem C6.eta (c : C6) : c.arr = #[.int .i64 c.k, .bool c.y, .int .i64 c.n, .string c.t, .slice c.a c.la c.ca, .slice c.b c.lb c.cb] := rfl

theorem own_put6 {W : World} {base : Nat} {e : TypeId} {size : Nat} {v : Value} {n : Nat} {xs : List Value} (h : W.ownsRow base e size v n xs) {g : Nat} (hg : v.ownBlock ≠ some g) (p : Nat) (c : C6) : (put6 W g p c).ownsRow base e size v n xs := by
  unfold put6
  exact ownsRow_setCell_other (ownsRow_setCell_other (ownsRow_setCell_other (ownsRow_setCell_other (ownsRow_setCell_other (ownsRow_setCell_other h hg _) hg _) hg _) hg _) hg _) hg _
theorem own_below {W W' : World} {base : Nat} {e : TypeId} {size : Nat} {v : Value} {n : Nat} {xs : List Value} (h : W.ownsRow base e size v n xs) (hb : Below W.heap.size W W') : W'.ownsRow base e size v n xs := by
  cases ho : v.ownBlock with
  | none => exact h.kept (row := none) ⟨hb.os, hb.tape, hb.output, hb.size, fun k hk _ => hb.block k hk⟩ (.inl ho)
  | some b => exact h.kept (row := none) ⟨hb.os, hb.tape, hb.output, hb.size, fun k hk _ => hb.block k hk⟩ (.inr (by rw [ho]; simp))
theorem cell_put6_far (W : World) (g p : Nat) (c : C6) (a : Addr) (h : g ≠ a.block) : (put6 W g p c).cell? a = W.cell? a := World.cell?_of_block (heap_put6_far W g p c a.block (fun e => h e.symm))
theorem nil_or_snoc {α : Type} (l : List α) : l = [] ∨ ∃ L b, l = L ++ [b] := by
  rcases List.eq_nil_or_concat l with h | ⟨L, b, h⟩
  · exact .inl h
  · exact .inr ⟨L, b, by rw [h, List.concat_eq_append]⟩
theorem copy_start {d : V} {w wA W1 : World} {o : C6} (ha : AloneOut wA (· < w.heap.size) 1000000 d W1 o) (hb1 : Below wA.heap.size wA W1) (hbA : Below w.heap.size w wA) (hzA : wA.heap.size = w.heap.size + 2) (hres : Whole wA (w.heap.size + 1) 39 zero6) (hok : VOk 1000000 d) (hsz : vsize d ≤ 1000000000) :
    CopyRel w d W1.heap.size o (vsize d) (.slice (some ⟨W1.heap.size + 1, 0, none⟩) 1 1) ((W1.alloc (.cells o.arr 39)).alloc (.cells o.arr 39)) := by
  obtain ⟨H', hext, hal, hnode, hcase⟩ := alone_hold (H := fun _ => none) d o ha hbA (fun g x h => by cases h)
  have hz1 := hb1.size
  have hS : stBlocks [(d, o)] = (nodeOf d o).toList := by cases hn : nodeOf d o <;> simp [stBlocks, hn]
  have hlt : ∀ g x, H' g = some x → wA.heap.size ≤ g ∧ g < W1.heap.size := fun g x h => by
    obtain ⟨mp, kids⟩ := x
    rcases hcase g mp kids h with h | ⟨h, _⟩
    · cases h
    · exact ⟨(hnode g h).1, (hnode g h).2.1⟩
  refine ⟨H', [(d, o)], ?_, ⟨hal, fun p hp => by simp at hp; subst hp; exact hal, by rw [hS]; cases nodeOf d o <;> simp, ?_, fun g x h => ?_, by simp [Value.ownBlock], ((hres.below hb1 (by omega)).alloc _).alloc _, ?_, ?_, fun p hp => by simp at hp; subst hp; exact hok, by omega⟩, by simp [stSize], hsz⟩
  · intro g mp kids h
    rcases hcase g mp kids h with h | ⟨hn, css, hcont, hel⟩
    · cases h
    · refine ⟨by have := (hnode g hn).1; omega, css, ⟨hcont.1, by obtain ⟨cur, hc, ht⟩ := hcont.2; exact ⟨cur, ((Whole.alloc (Whole.alloc hc _) _)), ht⟩⟩, fun i h1 h2 => .inr ⟨?_, hel i h1 h2⟩⟩
      intro hh
      exact hh (by rw [hS]; simp [hn])
  · have := World.ownsRow_lit (base := w.heap.size + 2) (e := 39) (size := 6) (W1.alloc (.cells o.arr 39)) o.arr 1 (by simp; omega) (by unfold maxLen; omega) rfl
    simpa [flatSt, C6.arr, C6.cells] using this
  · have := hlt g x h
    exact ⟨by simp [Value.ownBlock]; omega, by omega, by omega⟩
  · exact (Whole.made W1 _ _).alloc _
  · exact ((hbA.trans (hb1.mono (by omega))).alloc (by omega) _).alloc (by simp; omega) _

/-- A copy that is done: its own cells, and blocks for its elements, each for one list or map. -/
def Made (w W : World) (d : V) (o : C6) : Prop := ∃ H : Hold, Inv w W 1000000 H (fun _ _ => True) ∧ Alone H d o ∧ VOk 1000000 d
theorem Made.val {w W : World} {d : V} {o : C6} (h : Made w W d o) : Val W (fun b => w.heap.size ≤ b ∧ b < W.heap.size) 1000000 (canon d) o.arr := by
  obtain ⟨H, hI, hal, hok⟩ := h
  exact Alone.val hI (K := vsize d) (fun b mp kids hb _ => ⟨(hI b mp kids hb).1, hI.lt hb⟩) d o hal hok (Nat.le_refl _)
theorem copy_end {w wr W' : World} {d : V} {o : C6} {H : Hold} (hI : Inv w wr 1000000 H (fun g _ => g ∉ stBlocks [])) (hal : Alone H d o) (hok : VOk 1000000 d) (hf : ∀ g x, H g = some x → W'.heap[g]? = wr.heap[g]?) (hz : wr.heap.size ≤ W'.heap.size) :
    Made w W' d o := by
  have hI' : Inv w W' 1000000 H (fun _ _ => True) := fun g mp kids hg => by
    obtain ⟨h1, css, hc, hel⟩ := hI.frame hf g mp kids hg
    refine ⟨h1, css, hc, fun i e1 e2 => ?_⟩
    rcases hel i e1 e2 with ⟨_, h⟩ | ⟨h, _⟩
    · exact .inl ⟨trivial, h⟩
    · exact absurd (by simp [stBlocks]) h
  exact ⟨H, hI', hal, hok⟩

theorem Base.pop {w wr : World} {g3 : Nat} {otop : C6} {d : V} {H : Hold} {st : List (V × C6)} {x : V × C6} {gO cap : Nat} (h : Base w g3 otop d H (st ++ [x]) (.slice (some ⟨gO, 0, none⟩) (st.length + 1) cap) wr) (o5 : Obj) :
    Base w g3 otop d H st (.slice (some ⟨gO, 0, none⟩) st.length cap) (wr.alloc o5) := by
  refine ⟨h.top, fun p hp => h.al p (List.mem_append_left _ hp), ?_, ?_, fun g y hg => h.far g y hg, h.ov3, h.res.alloc _, h.t3.alloc _, h.bel.alloc h.bel.size _, fun p hp => h.ok p (List.mem_append_left _ hp), h.g3w⟩
  · have := h.nd
    rw [stBlocks, List.filterMap_append] at this
    exact (List.nodup_append.1 this).1
  · apply World.ownsRow.alloc
    obtain ⟨hl, hr⟩ := h.own
    refine ⟨by rw [flatSt, flat_len (fun p : V × C6 => p.2.cells) 6 (fun _ => rfl)], .inr ?_⟩
    rcases hr with ⟨e, _⟩ | ⟨g, cap', cur, e, h1, h2, h3, h4, h5, h6⟩
    · cases e
    · injection e with e1 e2 e3
      injection e1 with e1
      injection e1 with e1
      subst e1 e3
      refine ⟨gO, cap, cur, rfl, h1, h2, by simp at h3; omega, h4, h5, ?_⟩
      have := congrArg (List.take (st.length * 6)) h6
      rw [List.take_take, Nat.min_eq_left (by simp; omega)] at this
      rw [this, flatSt, List.flatMap_append, List.take_append_of_le_length (by rw [flat_len (fun p : V × C6 => p.2.cells) 6 (fun _ => rfl)]; exact Nat.le_refl _), List.take_of_length_le (by rw [flat_len (fun p : V × C6 => p.2.cells) 6 (fun _ => rfl)]; exact Nat.le_refl _)]
      rfl

/-- What holds while the elements of block g are gone through. -/
def InnerRel (w : World) (d : V) (g3 : Nat) (otop : C6) (g5 : Nat) (oc : C6) (g : Nat) (mp : Bool) (kids : List (ByteArray × V)) (K : Nat) (k : Nat) (ov i : Value) (wr : World) : Prop :=
  ∃ (H : Hold) (st : List (V × C6)) (j : Nat), j + k = kids.length ∧ i = .int .i64 j ∧ Inv w wr 1000000 H (dnAt g j st) ∧ H g = some (mp, kids) ∧ g ∉ stBlocks st ∧ (∀ b ∈ stBlocks st, b < wr.heap.size) ∧ Base w g3 otop d H st ov wr ∧ Whole wr g5 39 oc.arr ∧
    (∀ g' x, H g' = some x → g' ≠ g5) ∧ ov.ownBlock ≠ some g5 ∧ stSize st + kSize (kids.drop j) = K ∧ (∀ p ∈ kids, VOk 1000000 p.2) ∧ g5 ≠ w.heap.size + 1 ∧ g5 ≠ g3

theorem VOkL.all {M : Nat} : ∀ {l : List V}, VOkL M l → ∀ p ∈ noKey l, VOk M p.2
  | v :: r, h, p, hp => by
    rcases List.mem_cons.1 hp with rfl | hp
    · exact h.1
    · exact VOkL.all h.2 p hp
theorem VOkM.all {M : Nat} : ∀ {l : List (ByteArray × V)}, VOkM M l → ∀ p ∈ l, VOk M p.2
  | (s, v) :: r, h, p, hp => by
    rcases List.mem_cons.1 hp with rfl | hp
    · exact h.2.1
    · exact VOkM.all h.2.2 p hp
theorem Inv.to {w0 W : World} {M : Nat} {H : Hold} {dn dn' : Nat → Nat → Prop} (h : Inv w0 W M H dn) (hd : ∀ g mp kids i, H g = some (mp, kids) → i < kids.length → (dn g i ↔ dn' g i)) : Inv w0 W M H dn' := fun g mp kids hg => by
  obtain ⟨h1, css, hc, hel⟩ := h g mp kids hg
  refine ⟨h1, css, hc, fun i e1 e2 => ?_⟩
  rcases hel i e1 e2 with ⟨a, b⟩ | ⟨a, b⟩
  · exact .inl ⟨(hd g mp kids i hg e1).1 a, b⟩
  · exact .inr ⟨fun h => a ((hd g mp kids i hg e1).2 h), b⟩

theorem inner_start {w wr : World} {d dc : V} {g3 : Nat} {otop oc : C6} {H : Hold} {st : List (V × C6)} {gO cap g gk : Nat} {mp : Bool} {kids : List (ByteArray × V)}
    (hI : Inv w wr 1000000 H (fun g _ => g ∉ stBlocks (st ++ [(dc, oc)]))) (hb : Base w g3 otop d H (st ++ [(dc, oc)]) (.slice (some ⟨gO, 0, none⟩) (st.length + 1) cap) wr) (hk : stSize (st ++ [(dc, oc)]) = gk)
    (hn : nodeOf dc oc = some g) (hg : H g = some (mp, kids)) (hs : vsize dc = 1 + kSize kids) (hok : ∀ p ∈ kids, VOk 1000000 p.2) :
    InnerRel w d g3 otop wr.heap.size oc g mp kids (gk - 1) kids.length (.slice (some ⟨gO, 0, none⟩) st.length cap) (.int .i64 0) (wr.alloc (.cells oc.arr 39)) := by
  have hS : stBlocks (st ++ [(dc, oc)]) = stBlocks st ++ [g] := by simp [stBlocks, List.filterMap_append, hn]
  have hnd := hb.nd
  rw [hS] at hnd
  obtain ⟨-, -, hdis⟩ := List.nodup_append.1 hnd
  have hgS : g ∉ stBlocks st := fun h => hdis g h g (by simp) rfl
  have hgO : gO < wr.heap.size := (hb.own.lt gO rfl).2
  refine ⟨H, st, 0, by simp, rfl, ?_, hg, hgS, fun b hbm => ?_, hb.pop _, Whole.made _ _ _, fun g' x h => Nat.ne_of_lt (hI.lt h), by simp [Value.ownBlock]; omega, ?_, hok, ?_, ?_⟩
  · refine (hI.frame (W' := wr.alloc (.cells oc.arr 39)) fun g' x h => Below.heap_alloc _ _ _ (hI.lt h)).to fun g' mp' kids' i h hi => ?_
    rw [hS]
    unfold dnAt
    constructor
    · intro h1
      refine .inr ⟨fun e => h1 (by subst e; simp), fun h2 => h1 (List.mem_append_left _ h2)⟩
    · rintro (⟨_, h1⟩ | ⟨h1, h2⟩)
      · omega
      · intro h3
        rcases List.mem_append.1 h3 with h3 | h3
        · exact h2 h3
        · simp at h3; exact h1 h3
  · have : b ∈ stBlocks (st ++ [(dc, oc)]) := by rw [hS]; exact List.mem_append_left _ hbm
    unfold stBlocks at hbm
    obtain ⟨p, hp, hpn⟩ := List.mem_filterMap.1 hbm
    have hal := hb.al p (List.mem_append_left _ hp)
    have : ∃ x, H b = some x := by
      obtain ⟨pd, po⟩ := p
      cases pd with
      | mk k y n t l m =>
      obtain ⟨-, a2, a3⟩ := hal
      dsimp only [nodeOf] at hpn
      by_cases k4 : k = 4
      · rw [if_pos k4] at hpn a2
        by_cases hl : l = []
        · rw [if_pos hl] at hpn; cases hpn
        · rw [if_neg hl] at hpn
          obtain ⟨g', e, hg'⟩ := a2.2.2.2 (by simpa [noKey] using hl)
          dsimp only at e
          rw [e] at hpn
          simp at hpn; subst hpn; exact ⟨_, hg'⟩
      · rw [if_neg k4] at hpn
        by_cases k5 : k = 5
        · rw [if_pos k5] at hpn a3
          by_cases hl : m = []
          · rw [if_pos hl] at hpn; cases hpn
          · rw [if_neg hl] at hpn
            obtain ⟨g', e, hg'⟩ := a3.2.2.2 hl
            dsimp only at e
            rw [e] at hpn
            simp at hpn; subst hpn; exact ⟨_, hg'⟩
        · rw [if_neg k5] at hpn; cases hpn
    obtain ⟨x, hx⟩ := this
    have := hI.lt hx
    simp; omega
  · rw [stSize_append] at hk
    simp only [stSize, List.drop_zero] at hk ⊢
    omega
  · have := hb.res.lt; omega
  · have := hb.t3.lt; omega

theorem inner_end {w wr : World} {d : V} {g3 g5 g K : Nat} {otop oc : C6} {mp : Bool} {kids : List (ByteArray × V)} {ov i : Value} (h : InnerRel w d g3 otop g5 oc g mp kids K 0 ov i wr) (hK : K ≤ 1000000000) : CopyRel w d g3 otop K ov wr := by
  obtain ⟨H, st, j, hj, -, hI, hg, hgS, -, hb, -, -, -, hs, -⟩ := h
  refine ⟨H, st, hI.to fun g' mp' kids' i h hi => ?_, hb, ?_, hK⟩
  · unfold dnAt
    constructor
    · rintro (⟨rfl, _⟩ | ⟨_, h2⟩)
      · exact hgS
      · exact h2
    · intro h1
      by_cases e : g' = g
      · subst e
        obtain ⟨rfl, rfl⟩ : mp = mp' ∧ kids = kids' := by rw [hg] at h; simpa using h
        exact .inl ⟨rfl, by omega⟩
      · exact .inr ⟨e, h1⟩
  · rw [List.drop_of_length_le (by omega)] at hs
    simpa [kSize] using hs

theorem inner_step {w wr W W1 W2 : World} {d : V} {g3 g5 g K : Nat} {otop oc o : C6} {mp : Bool} {kids : List (ByteArray × V)} {ov ov' : Value} {H : Hold} {st : List (V × C6)} {j : Nat} (hj : j < kids.length)
    (hI : Inv w wr 1000000 H (dnAt g j st)) (hg : H g = some (mp, kids)) (hgS : g ∉ stBlocks st) (hlt : ∀ b ∈ stBlocks st, b < wr.heap.size) (hb : Base w g3 otop d H st ov wr) (h5 : Whole wr g5 39 oc.arr)
    (hH5 : ∀ g' x, H g' = some x → g' ≠ g5) (hov5 : ov.ownBlock ≠ some g5) (hs : stSize st + kSize (kids.drop j) = K) (hok : ∀ p ∈ kids, VOk 1000000 p.2) (h5w : g5 ≠ w.heap.size + 1) (h53 : g5 ≠ g3)
    (hW : ∀ k, k < wr.heap.size → W.heap[k]? = wr.heap[k]?) (hWs : wr.heap.size ≤ W.heap.size) (hWb : Below w.heap.size w W)
    (ha : AloneOut W (· < w.heap.size) 1000000 kids[j].2 W1 o) (hb1 : Below W.heap.size W W1)
    (h2 : ∀ k, k ≠ g → k < W1.heap.size → some k ≠ ov.ownBlock → W2.heap[k]? = W1.heap[k]?) (h2g : W2.heap[g]? = (put6 W1 g (j * esz mp + hoff mp) o).heap[g]?) (h2s : W1.heap.size ≤ W2.heap.size) (h2b : Below w.heap.size w W2)
    (hown : W2.ownsRow (w.heap.size + 2) 39 6 ov' (st.length + 1) (flatSt st ++ o.cells)) (hov : ov'.ownBlock = ov.ownBlock ∨ ∃ b, ov'.ownBlock = some b ∧ W1.heap.size ≤ b) :
    InnerRel w d g3 otop g5 oc g mp kids K (kids.length - (j + 1)) ov' (.int .i64 ((j + 1 : Nat) : Int)) W2 := by
  have hobl : ∀ k, ov.ownBlock = some k → k < wr.heap.size := fun k e => (hb.own.lt k e).2
  obtain ⟨H', hext, hI', hg', hgS', hal', hnd', hlt', hnew⟩ := copy_step (W2 := W2) (hI.frame (W' := W) fun g' x h => hW g' (hI.lt h)) hg hj hgS hb.al hb.nd (fun b h => Nat.lt_of_lt_of_le (hlt b h) hWs) hWb ha (fun k hk => hb1.block k hk) hb1.size (fun k x h => (hb.far k x h).1) (fun k e => Nat.lt_of_lt_of_le (hobl k e) hWs) h2 h2g
  have hs1 := hb1.size
  have hfarH : ∀ k x, H' k = some x → k < W1.heap.size ∧ some k ≠ ov'.ownBlock ∧ k ≠ g3 ∧ k ≠ w.heap.size + 1 ∧ k ≠ g5 := fun k x hk => by
    rcases hnew k x hk with h | ⟨h6, h7⟩
    · have hkl := hI.lt h
      obtain ⟨f1, f2, f3⟩ := hb.far k x h
      refine ⟨by omega, ?_, f2, f3, hH5 k x h⟩
      rcases hov with e | ⟨b, e, hbb⟩
      · rw [e]; exact f1
      · rw [e]; intro e2; injection e2 with e2; omega
    · refine ⟨h7, ?_, ?_, ?_, ?_⟩
      · rcases hov with e | ⟨b, e, hbb⟩
        · rw [e]; intro e2; have := hobl k e2.symm; omega
        · rw [e]; intro e2; injection e2 with e2; omega
      · have := hb.t3.lt; omega
      · have := hb.res.lt; omega
      · have := h5.lt; omega
  have keep : ∀ k t cs, Whole wr k t cs → k ≠ g → some k ≠ ov.ownBlock → Whole W2 k t cs := fun k t cs hk hkg hko => by
    have hkl := hk.lt
    exact (h2 k hkg (by omega) hko).trans ((hb1.block k (by omega)).trans ((hW k hkl).trans hk))
  have hgf := hb.far g _ hg
  have hlen : (st ++ [(kids[j].2, o)]).length = st.length + 1 := by simp
  refine ⟨H', st ++ [(kids[j].2, o)], j + 1, by omega, rfl, hI', hg', hgS', fun b h => Nat.lt_of_lt_of_le (hlt' b h) h2s, ⟨hb.top.more hext, hal', hnd', ?_, fun k x hk => ⟨(hfarH k x hk).2.1, (hfarH k x hk).2.2.1, (hfarH k x hk).2.2.2.1⟩, ?_, ?_, ?_, h2b, ?_, hb.g3w⟩, ?_, fun k x hk => (hfarH k x hk).2.2.2.2, ?_, ?_, hok, h5w, h53⟩
  · rw [hlen, flatSt_snoc]; exact hown
  · rcases hov with e | ⟨b, e, hbb⟩
    · rw [e]; exact hb.ov3
    · rw [e]; intro e2; injection e2 with e2; have := hb.t3.lt; omega
  · exact keep _ _ _ hb.res (fun e => hgf.2.2 e.symm) (fun e => by have := (hb.own.lt _ e.symm).1; omega)
  · exact keep _ _ _ hb.t3 (fun e => hgf.2.1 e.symm) (fun e => hb.ov3 e.symm)
  · intro p hp
    rcases List.mem_append.1 hp with hp | hp
    · exact hb.ok p hp
    · simp at hp; subst hp; exact hok _ (List.getElem_mem hj)
  · exact keep _ _ _ h5 (fun e => hH5 g _ hg e.symm) (fun e => hov5 e.symm)
  · rcases hov with e | ⟨b, e, hbb⟩
    · rw [e]; exact hov5
    · rw [e]; intro e2; injection e2 with e2; have := h5.lt; omega
  · rw [stSize_append]
    rw [List.drop_eq_getElem_cons hj] at hs
    simp only [stSize, kSize] at hs ⊢
    omega
end Go.Proofs.YtpehddbpingobaaDoor
