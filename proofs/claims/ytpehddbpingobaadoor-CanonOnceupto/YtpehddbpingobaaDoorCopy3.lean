/-
  The plain part of value.Copy: which blocks hold which elements while it goes on, and what they are at its end. No walk stands here.
-/
import Derived.Test.YtpehddbpingobaaDoorCopy2
namespace Go.Proofs.YtpehddbpingobaaDoor
open Go.RowKit Go.Lib
set_option linter.unusedVariables false
set_option linter.unusedSimpArgs false

def V.kind : V → Int | .mk k _ _ _ _ _ => k
def V.lst : V → List V | .mk _ _ _ _ l _ => l
def V.mp : V → List (ByteArray × V) | .mk _ _ _ _ _ m => m
mutual
/-- How many values a value is, by what counts. -/
def vsize : V → Nat
  | .mk k _ _ _ l m => 1 + (if k = 4 then vsizeL l else 0) + (if k = 5 then vsizeM m else 0)
def vsizeL : List V → Nat
  | [] => 0
  | v :: r => vsize v + vsizeL r
def vsizeM : List (ByteArray × V) → Nat
  | [] => 0
  | (_, v) :: r => vsize v + vsizeM r
end
mutual
/-- What counts of a value. -/
def canon : V → V
  | .mk k y n t l m => .mk k (if k = 1 then y else false) (if k = 2 then n else 0) (if k = 3 then t else ⟨#[]⟩) (if k = 4 then canonL l else []) (if k = 5 then canonM m else [])
def canonL : List V → List V
  | [] => []
  | v :: r => canon v :: canonL r
def canonM : List (ByteArray × V) → List (ByteArray × V)
  | [] => []
  | (s, v) :: r => (s, canon v) :: canonM r
end
theorem canonL_length : ∀ l, (canonL l).length = l.length
  | [] => rfl
  | v :: r => by rw [canonL, List.length_cons, canonL_length r, List.length_cons]
theorem canonM_length : ∀ l, (canonM l).length = l.length
  | [] => rfl
  | (s, v) :: r => by rw [canonM, List.length_cons, canonM_length r, List.length_cons]
theorem canonL_get : ∀ (l : List V) (i : Nat) (h : i < (canonL l).length) (h2 : i < l.length), (canonL l)[i] = canon l[i]
  | v :: r, 0, h, h2 => by simp [canonL]
  | v :: r, i + 1, h, h2 => by simp only [canonL, List.getElem_cons_succ]; exact canonL_get r i _ _
theorem canonM_get : ∀ (l : List (ByteArray × V)) (i : Nat) (h : i < (canonM l).length) (h2 : i < l.length), (canonM l)[i] = (l[i].1, canon l[i].2)
  | (s, v) :: r, 0, h, h2 => by simp [canonM]
  | (s, v) :: r, i + 1, h, h2 => by simp only [canonM, List.getElem_cons_succ]; exact canonM_get r i _ _

/-- Which new blocks hold the elements of which lists and maps. -/
abbrev Hold := Nat → Option (Bool × List (ByteArray × V))
def noKey (l : List V) : List (ByteArray × V) := l.map fun v => (⟨#[]⟩, v)
def elem (mp : Bool) (s : ByteArray) (c : C6) : List Value := if mp then mem7 s c else c.cells
def esz (mp : Bool) : Nat := if mp then 7 else 6
def ety (mp : Bool) : TypeId := if mp then 46 else 39
theorem elem_length (mp : Bool) (s : ByteArray) (c : C6) : (elem mp s c).length = esz mp := by cases mp <;> rfl

def Arr (H : Hold) (mp : Bool) (kids : List (ByteArray × V)) (a : Option Addr) (la ca : Nat) : Prop :=
  la = kids.length ∧ kids.length ≤ ca ∧ (a = none → ca = 0) ∧ (kids ≠ [] → ∃ g, a = some ⟨g, 0, none⟩ ∧ H g = some (mp, kids))
/-- A value whose own cells are a copy's; its elements lie in a block that H tells of. -/
def Alone (H : Hold) : V → C6 → Prop
  | .mk k y n t l m, o => (o.k = k ∧ o.y = (if k = 1 then y else false) ∧ o.n = (if k = 2 then n else 0) ∧ o.t = (if k = 3 then t else ⟨#[]⟩)) ∧
    (if k = 4 then Arr H false (noKey l) o.a o.la o.ca else (o.a = none ∧ o.la = 0 ∧ o.ca = 0)) ∧ (if k = 5 then Arr H true m o.b o.lb o.cb else (o.b = none ∧ o.lb = 0 ∧ o.cb = 0))
def Cont (W : World) (g : Nat) (mp : Bool) (kids : List (ByteArray × V)) (css : List C6) : Prop :=
  css.length = kids.length ∧ ∃ cur, W.heap[g]? = some (.cells cur (ety mp) (0, 0)) ∧ cur.toList.take (kids.length * esz mp) = (kids.zip css).flatMap fun p => elem mp p.1.1 p.2
/-- Each element is copied (dn), or is as it was. -/
def Inv (w0 W : World) (M : Nat) (H : Hold) (dn : Nat → Nat → Prop) : Prop :=
  ∀ g mp kids, H g = some (mp, kids) → w0.heap.size ≤ g ∧ ∃ css, Cont W g mp kids css ∧ ∀ i (h1 : i < kids.length) (h2 : i < css.length), ((dn g i ∧ Alone H kids[i].2 css[i]) ∨ (¬ dn g i ∧ Val w0 (· < w0.heap.size) M kids[i].2 css[i].arr))

theorem Arr.more {H H' : Hold} {mp : Bool} {kids : List (ByteArray × V)} {a : Option Addr} {la ca : Nat} (h : Arr H mp kids a la ca) (hH : ∀ g x, H g = some x → H' g = some x) : Arr H' mp kids a la ca :=
  ⟨h.1, h.2.1, h.2.2.1, fun hn => by obtain ⟨g, e, hg⟩ := h.2.2.2 hn; exact ⟨g, e, hH _ _ hg⟩⟩
theorem Alone.more {H H' : Hold} {d : V} {o : C6} (h : Alone H d o) (hH : ∀ g x, H g = some x → H' g = some x) : Alone H' d o := by
  cases d with
  | mk k y n t l m =>
  obtain ⟨h1, h2, h3⟩ := h
  refine ⟨h1, ?_, ?_⟩
  · split
    · rename_i hk; rw [if_pos hk] at h2; exact h2.more hH
    · rename_i hk; rw [if_neg hk] at h2; exact h2
  · split
    · rename_i hk; rw [if_pos hk] at h3; exact h3.more hH
    · rename_i hk; rw [if_neg hk] at h3; exact h3
theorem Inv.frame {w0 W W' : World} {M : Nat} {H : Hold} {dn : Nat → Nat → Prop} (h : Inv w0 W M H dn) (hf : ∀ g x, H g = some x → W'.heap[g]? = W.heap[g]?) : Inv w0 W' M H dn := fun g mp kids hg => by
  obtain ⟨h1, css, ⟨hl, cur, hc, ht⟩, h2⟩ := h g mp kids hg
  exact ⟨h1, css, ⟨hl, cur, (hf g _ hg).trans hc, ht⟩, h2⟩
theorem Inv.lt {w0 W : World} {M : Nat} {H : Hold} {dn : Nat → Nat → Prop} (h : Inv w0 W M H dn) {g : Nat} {x : Bool × List (ByteArray × V)} (hg : H g = some x) : g < W.heap.size := by
  obtain ⟨mp, kids⟩ := x
  obtain ⟨-, css, ⟨hl, cur, hc, ht⟩, h2⟩ := h g mp kids hg
  rcases Nat.lt_or_ge g W.heap.size with h1 | h1
  · exact h1
  · rw [Array.getElem?_eq_none h1] at hc; cases hc
/-- An element's cells. -/
theorem Cont.cell {W : World} {g : Nat} {mp : Bool} {kids : List (ByteArray × V)} {css : List C6} (h : Cont W g mp kids css) (i q : Nat) (h1 : i < kids.length) (h2 : i < css.length) (hq : q < esz mp) :
    W.cell? ⟨g, i * esz mp + q, none⟩ = (elem mp kids[i].1 css[i])[q]? := by
  obtain ⟨hl, cur, hc, ht⟩ := h
  have e : W.cell? ⟨g, i * esz mp + q, none⟩ = cur.toList[i * esz mp + q]? := by simp [World.cell?, hc]
  have hz : i < (kids.zip css).length := by rw [List.length_zip]; omega
  have hlt : i * esz mp + q < kids.length * esz mp := by
    have : (i + 1) * esz mp ≤ kids.length * esz mp := Nat.mul_le_mul_right _ h1
    rw [Nat.succ_mul] at this; omega
  rw [e, ← List.getElem?_take_of_lt hlt, ht, flat_get (fun p : (ByteArray × V) × C6 => elem mp p.1.1 p.2) (esz mp) (fun p => elem_length mp _ _) _ _ _ hz hq, List.getElem_zip]

mutual
def VOk (M : Nat) : V → Prop
  | .mk _ _ _ t l m => t.size ≤ M ∧ l.length ≤ M ∧ m.length ≤ M ∧ VOkL M l ∧ VOkM M m
def VOkL (M : Nat) : List V → Prop
  | [] => True
  | v :: r => VOk M v ∧ VOkL M r
def VOkM (M : Nat) : List (ByteArray × V) → Prop
  | [] => True
  | (s, v) :: r => s.size ≤ M ∧ VOk M v ∧ VOkM M r
end
mutual
theorem Val.ok {w : World} {Q : Nat → Prop} {M : Nat} : ∀ {v : V} {cs : Array Value}, Val w Q M v cs → VOk M v
  | .mk _ _ _ _ _ _, _, h => by
    rw [Val] at h
    obtain ⟨A, c, A', c', e, ⟨-, -, h1, h2, h3, -, -⟩, hl, hm⟩ := h
    exact ⟨h1, h2, h3, ValL.ok hl, ValM.ok hm⟩
theorem ValL.ok {w : World} {Q : Nat → Prop} {M : Nat} : ∀ {l : List V} {A : Option Addr} {i : Nat}, ValL w Q M l A i → VOkL M l
  | [], _, _, _ => by rw [VOkL]; trivial
  | v :: r, A, i, h => by
    rw [ValL] at h
    obtain ⟨⟨b, off, cs, -, -, -, hv⟩, hr⟩ := h
    exact ⟨Val.ok hv, ValL.ok hr⟩
theorem ValM.ok {w : World} {Q : Nat → Prop} {M : Nat} : ∀ {l : List (ByteArray × V)} {A : Option Addr} {i : Nat}, ValM w Q M l A i → VOkM M l
  | [], _, _, _ => by rw [VOkM]; trivial
  | (s, v) :: r, A, i, h => by
    rw [ValM] at h
    obtain ⟨⟨b, off, cs, -, -, hs, -, -, hv⟩, hr⟩ := h
    exact ⟨hs, Val.ok hv, ValM.ok hr⟩
end

def kSize : List (ByteArray × V) → Nat
  | [] => 0
  | (_, v) :: r => vsize v + kSize r
theorem kSize_M : ∀ m, kSize m = vsizeM m
  | [] => by rw [kSize, vsizeM]
  | (s, v) :: r => by rw [kSize, vsizeM, kSize_M r]
theorem kSize_L : ∀ l, kSize (noKey l) = vsizeL l
  | [] => by rw [vsizeL]; rfl
  | v :: r => by rw [vsizeL, ← kSize_L r]; rfl

/-- Of the held blocks, those that hold few enough. -/
def FinalQ (H : Hold) (K : Nat) (Q : Nat → Prop) : Prop := ∀ b mp kids, H b = some (mp, kids) → kSize kids < K → Q b
mutual
/-- The end: every element is copied; so what is read is what counts of the value, all in new memory. -/
theorem Alone.val {w0 W : World} {M : Nat} {H : Hold} (hI : Inv w0 W M H (fun _ _ => True)) {K : Nat} {Q : Nat → Prop} (hQ : FinalQ H K Q) : ∀ (d : V) (o : C6), Alone H d o → VOk M d → vsize d ≤ K → Val W Q M (canon d) o.arr
  | .mk k y n t l m, ⟨ok, oy, on_, ot, oa, ola, oca, ob, olb, ocb⟩, h, hok, hK => by
    rw [vsize] at hK
    obtain ⟨⟨e1, e2, e3, e4⟩, h2, h3⟩ := h
    obtain ⟨ht, hl, hm, hvl, hvm⟩ := hok
    dsimp only at e1 e2 e3 e4 h2 h3
    subst e1 e2 e3 e4
    rw [canon, Val]
    by_cases k4 : ok = 4
    · subst k4
      rw [if_pos rfl] at h2
      obtain ⟨r1, r2, r3, r4⟩ := h2
      simp only [noKey, List.length_map] at r1 r2
      subst r1
      simp only [if_neg (show ¬ (4 : Int) = 5 by omega)] at h3
      obtain ⟨rfl, rfl, rfl⟩ := h3
      refine ⟨oa, oca, none, 0, ?_, ?_, ?_, ?_⟩
      · simp [C6.arr, canonL_length]
      · simp only [if_pos, canonL_length]
        exact ⟨r2, by simp, Nat.zero_le _, by simpa using hl, by simp, r3, by simp⟩
      · simp only [if_pos]
        refine ValL.mk_ fun j hj => ?_
        have hj' : j < l.length := by rwa [canonL_length] at hj
        obtain ⟨g, rfl, hg⟩ := r4 (fun e => by simp [noKey] at e; subst e; simp at hj')
        obtain ⟨hb, css, hc, hel⟩ := hI g _ _ hg
        have hcl : css.length = l.length := by have := hc.1; simpa [noKey] using this
        rw [if_pos rfl] at hK
        refine ⟨g, 0, (css[j]'(by omega)).arr, rfl, hQ g _ _ hg (by rw [kSize_L]; omega), fun q hq => ?_, ?_⟩
        · have := hc.cell j q (by simpa [noKey] using hj') (by omega) (by simpa [esz] using hq)
          rw [C6.arr_get]
          simpa [esz, elem] using this
        · rw [canonL_get l j hj hj']
          have h5 := hel j (by simpa [noKey] using hj') (by omega)
          rcases h5 with ⟨-, h5⟩ | ⟨h5, -⟩
          · exact Alone.valL hI hQ l hvl (by omega) j hj' _ (by simpa [noKey] using h5)
          · exact absurd trivial h5
      · simp only [if_neg (show ¬ (4 : Int) = 5 by omega)]; rw [ValM]; trivial
    · rw [if_neg k4] at h2
      obtain ⟨rfl, rfl, rfl⟩ := h2
      by_cases k5 : ok = 5
      · subst k5
        rw [if_pos rfl] at h3
        obtain ⟨r1, r2, r3, r4⟩ := h3
        subst r1
        refine ⟨none, 0, ob, ocb, ?_, ?_, ?_, ?_⟩
        · simp [C6.arr, canonM_length]
        · simp only [if_pos, canonM_length]
          exact ⟨by simp, r2, Nat.zero_le _, by simp, by simpa using hm, by simp, r3⟩
        · simp only [if_neg (show ¬ (5 : Int) = 4 by omega)]; rw [ValL]; trivial
        · simp only [if_pos]
          refine ValM.mk_ fun j hj => ?_
          have hj' : j < m.length := by rwa [canonM_length] at hj
          obtain ⟨g, rfl, hg⟩ := r4 (fun e => by subst e; simp at hj')
          obtain ⟨hb, css, hc, hel⟩ := hI g _ _ hg
          have hcl : css.length = m.length := hc.1
          rw [if_pos rfl] at hK
          obtain ⟨hks, hrec⟩ := Alone.valM hI hQ m hvm (by omega) j hj'
          refine ⟨g, 0, (css[j]'(by omega)).arr, rfl, hQ g _ _ hg (by rw [kSize_M]; omega), ?_, ?_, fun q hq => ?_, ?_⟩
          · rw [canonM_get m j hj hj']; exact hks
          · have := hc.cell j 0 hj' (by omega) (by simp [esz])
            rw [canonM_get m j hj hj']
            simpa [esz, elem, mem7] using this
          · have := hc.cell j (1 + q) hj' (by omega) (by simp [esz]; omega)
            rw [C6.arr_get]
            simpa [esz, elem, mem7, Nat.add_comm 1 q] using this
          · rw [canonM_get m j hj hj']
            have h5 := hel j hj' (by omega)
            rcases h5 with ⟨-, h5⟩ | ⟨h5, -⟩
            · exact hrec _ h5
            · exact absurd trivial h5
      · rw [if_neg k5] at h3
        obtain ⟨rfl, rfl, rfl⟩ := h3
        simp only [if_neg k4, if_neg k5]
        refine ⟨none, 0, none, 0, rfl, ⟨by simp, by simp, ?_, by simp, by simp, fun _ => rfl, fun _ => rfl⟩, ?_, ?_⟩
        · split
          · exact ht
          · simp [ByteArray.size]
        · rw [ValL]; trivial
        · rw [ValM]; trivial
theorem Alone.valL {w0 W : World} {M : Nat} {H : Hold} (hI : Inv w0 W M H (fun _ _ => True)) {Q : Nat → Prop} {K : Nat} (hQ : FinalQ H K Q) : ∀ (l : List V), VOkL M l → vsizeL l ≤ K → ∀ (i : Nat) (h : i < l.length) (o : C6), Alone H l[i] o → Val W Q M (canon l[i]) o.arr
  | v :: r, hok, hK, 0, h, o, ha => Alone.val hI hQ v o ha hok.1 (by rw [vsizeL] at hK; omega)
  | v :: r, hok, hK, i + 1, h, o, ha => Alone.valL hI hQ r hok.2 (by rw [vsizeL] at hK; omega) i (by simpa using h) o ha
theorem Alone.valM {w0 W : World} {M : Nat} {H : Hold} (hI : Inv w0 W M H (fun _ _ => True)) {Q : Nat → Prop} {K : Nat} (hQ : FinalQ H K Q) : ∀ (l : List (ByteArray × V)), VOkM M l → vsizeM l ≤ K → ∀ (i : Nat) (h : i < l.length), l[i].1.size ≤ M ∧ ∀ (o : C6), Alone H l[i].2 o → Val W Q M (canon l[i].2) o.arr
  | (s, v) :: r, hok, hK, 0, h => ⟨hok.1, fun o ha => Alone.val hI hQ v o ha hok.2.1 (by rw [vsizeM] at hK; omega)⟩
  | (s, v) :: r, hok, hK, i + 1, h => Alone.valM hI hQ r hok.2.2 (by rw [vsizeM] at hK; omega) i (by simpa using h)
end
end Go.Proofs.YtpehddbpingobaaDoor
