/-
  The cells of a value as a record; what copyAlone makes of a value: what counts of it, its list's or map's elements in a new row.
-/
import Derived.Test.YtpehddbpingobaaDoorBlk
import Derived.Laws.AppendOwnNone
namespace Go.Proofs.YtpehddbpingobaaDoor
open Go.RowKit Go.Lib
set_option linter.unusedVariables false
set_option linter.unusedSimpArgs false

/-- The six cells of a value. -/
structure C6 where
  k : Int
  y : Bool
  n : Int
  t : ByteArray
  a : Option Addr
  la : Nat
  ca : Nat
  b : Option Addr
  lb : Nat
  cb : Nat
def C6.cells (c : C6) : List Value := [.int .i64 c.k, .bool c.y, .int .i64 c.n, .string c.t, .slice c.a c.la c.ca, .slice c.b c.lb c.cb]
def C6.arr (c : C6) : Array Value := #[.int .i64 c.k, .bool c.y, .int .i64 c.n, .string c.t, .slice c.a c.la c.ca, .slice c.b c.lb c.cb]
def mem7 (s : ByteArray) (c : C6) : List Value := .string s :: c.cells
theorem C6.length (c : C6) : c.cells.length = 6 := rfl
theorem C6.one (c : C6) : ∀ u ∈ c.cells, u.oneCell' = true := by
  intro u hu
  simp [C6.cells] at hu
  rcases hu with rfl | rfl | rfl | rfl | rfl | rfl <;> rfl
theorem mem7_one (s : ByteArray) (c : C6) : ∀ u ∈ mem7 s c, u.oneCell' = true := by
  intro u hu
  rcases List.mem_cons.1 hu with rfl | h
  · rfl
  · exact c.one u h
theorem C6.arr_get (c : C6) (j : Nat) : c.arr[j]? = c.cells[j]? := by
  unfold C6.arr C6.cells
  simp
theorem Val.c6 {w : World} {Q : Nat → Prop} {M : Nat} {v : V} {cs : Array Value} (h : Val w Q M v cs) : ∃ c : C6, cs = c.arr := by
  cases v with
  | mk k y n t l m =>
  rw [Val] at h
  obtain ⟨A, c, A', c', e, -⟩ := h
  exact ⟨⟨k, y, n, t, A, l.length, c, A', m.length, c'⟩, e⟩

theorem flat_get {α : Type} (f : α → List Value) (sz : Nat) (hf : ∀ x, (f x).length = sz) : ∀ (l : List α) (i q : Nat) (hi : i < l.length), q < sz → (l.flatMap f)[i * sz + q]? = (f l[i])[q]?
  | x :: r, 0, q, _, hq => by
    simp only [List.flatMap_cons, Nat.zero_mul, Nat.zero_add, List.getElem_cons_zero]
    exact List.getElem?_append_left (by rw [hf]; exact hq)
  | x :: r, i + 1, q, hi, hq => by
    simp only [List.flatMap_cons, List.getElem_cons_succ]
    rw [List.getElem?_append_right (by rw [hf, Nat.succ_mul]; omega), hf, show (i + 1) * sz + q - sz = i * sz + q by rw [Nat.succ_mul]; omega]
    exact flat_get f sz hf r i q (by simpa using hi) hq
theorem flat_len {α : Type} (f : α → List Value) (sz : Nat) (hf : ∀ x, (f x).length = sz) : ∀ (l : List α), (l.flatMap f).length = l.length * sz
  | [] => by simp
  | x :: r => by simp only [List.flatMap_cons, List.length_append, flat_len f sz hf r, hf, List.length_cons, Nat.succ_mul]; omega

/-- The cells of a list's elements, together. -/
theorem ValL.rows {w : World} {Q : Nat → Prop} {M : Nat} {l : List V} {A : Option Addr} (h : ValL w Q M l A 0) :
    ∃ css : List C6, css.length = l.length ∧ (∀ i (h1 : i < l.length) (h2 : i < css.length), Val w Q M l[i] css[i].arr) ∧
      (l ≠ [] → ∃ b off, A = some ⟨b, off, none⟩ ∧ Q b ∧ ∀ j u, (css.flatMap C6.cells)[j]? = some u → w.cell? ⟨b, off + j, none⟩ = some u) := by
  have hx : ∀ i : Fin l.length, ∃ c : C6, ∃ b off, A = some ⟨b, off, none⟩ ∧ Q b ∧ (∀ q, q < 6 → w.cell? ⟨b, off + i.val * 6 + q, none⟩ = c.arr[q]?) ∧ Val w Q M l[i.val] c.arr := fun i => by
    obtain ⟨b, off, cs, e, hb, hc, hv⟩ := h.get i.val i.isLt
    obtain ⟨c, rfl⟩ := hv.c6
    exact ⟨c, b, off, e, hb, by simpa using hc, hv⟩
  refine ⟨List.ofFn fun i => Classical.choose (hx i), by simp, fun i h1 h2 => ?_, fun hn => ?_⟩
  · rw [List.getElem_ofFn]
    obtain ⟨b, off, e, hb, hc, hv⟩ := Classical.choose_spec (hx ⟨i, h1⟩)
    exact hv
  · have hp : 0 < l.length := List.length_pos_iff.2 hn
    obtain ⟨b, off, e, hb, -, -⟩ := Classical.choose_spec (hx ⟨0, hp⟩)
    refine ⟨b, off, e, hb, fun j u hu => ?_⟩
    have hj : j < l.length * 6 := by
      have := (List.getElem?_eq_some_iff.1 hu).1
      rwa [flat_len C6.cells 6 C6.length, List.length_ofFn] at this
    have hi : j / 6 < l.length := by omega
    have ej : j = j / 6 * 6 + j % 6 := by omega
    have h6 : j % 6 < 6 := by omega
    obtain ⟨b', off', e', -, hc, -⟩ := Classical.choose_spec (hx ⟨j / 6, hi⟩)
    obtain ⟨rfl, rfl⟩ : b = b' ∧ off = off' := by rw [e] at e'; simpa using e'
    rw [ej] at hu
    rw [flat_get C6.cells 6 C6.length _ _ _ (by simpa using hi) h6, List.getElem_ofFn] at hu
    have := hc (j % 6) h6
    rw [C6.arr_get, hu] at this
    rw [show off + j = off + j / 6 * 6 + j % 6 by omega]
    exact this
theorem ValM.rows {w : World} {Q : Nat → Prop} {M : Nat} {l : List (ByteArray × V)} {A : Option Addr} (h : ValM w Q M l A 0) :
    ∃ css : List C6, css.length = l.length ∧ (∀ i (h1 : i < l.length) (h2 : i < css.length), l[i].1.size ≤ M ∧ Val w Q M l[i].2 css[i].arr) ∧
      (l ≠ [] → ∃ b off, A = some ⟨b, off, none⟩ ∧ Q b ∧ ∀ j u, ((l.zip css).flatMap fun p => mem7 p.1.1 p.2)[j]? = some u → w.cell? ⟨b, off + j, none⟩ = some u) := by
  have hx : ∀ i : Fin l.length, ∃ c : C6, ∃ b off, A = some ⟨b, off, none⟩ ∧ Q b ∧ l[i.val].1.size ≤ M ∧ w.cell? ⟨b, off + i.val * 7, none⟩ = some (.string l[i.val].1) ∧ (∀ q, q < 6 → w.cell? ⟨b, off + i.val * 7 + (1 + q), none⟩ = c.arr[q]?) ∧ Val w Q M l[i.val].2 c.arr := fun i => by
    obtain ⟨b, off, cs, e, hb, hs, hk, hc, hv⟩ := h.get i.val i.isLt
    obtain ⟨c, rfl⟩ := hv.c6
    exact ⟨c, b, off, e, hb, hs, by simpa using hk, by simpa using hc, hv⟩
  refine ⟨List.ofFn fun i => Classical.choose (hx i), by simp, fun i h1 h2 => ?_, fun hn => ?_⟩
  · rw [List.getElem_ofFn]
    obtain ⟨b, off, e, hb, hs, hk, hc, hv⟩ := Classical.choose_spec (hx ⟨i, h1⟩)
    exact ⟨hs, hv⟩
  · have hp : 0 < l.length := List.length_pos_iff.2 hn
    obtain ⟨b, off, e, hb, -⟩ := Classical.choose_spec (hx ⟨0, hp⟩)
    refine ⟨b, off, e, hb, fun j u hu => ?_⟩
    have hz : ∀ css : List C6, css.length = l.length → ((l.zip css).flatMap fun p => mem7 p.1.1 p.2).length = l.length * 7 := fun css hl => by
      rw [flat_len (fun p : (ByteArray × V) × C6 => mem7 p.1.1 p.2) 7 (fun _ => rfl), List.length_zip, hl, Nat.min_self]
    have hj : j < l.length * 7 := by
      have := (List.getElem?_eq_some_iff.1 hu).1
      rwa [hz _ (by simp)] at this
    have hi : j / 7 < l.length := by omega
    have ej : j = j / 7 * 7 + j % 7 := by omega
    have h7 : j % 7 < 7 := by omega
    obtain ⟨b', off', e', -, -, hk, hc, -⟩ := Classical.choose_spec (hx ⟨j / 7, hi⟩)
    obtain ⟨rfl, rfl⟩ : b = b' ∧ off = off' := by rw [e] at e'; simpa using e'
    rw [ej] at hu
    rw [flat_get (fun p : (ByteArray × V) × C6 => mem7 p.1.1 p.2) 7 (fun _ => rfl) _ _ _ (by simpa using hi) h7, List.getElem_zip, List.getElem_ofFn] at hu
    rw [show off + j = off + j / 7 * 7 + j % 7 by omega]
    rcases Nat.eq_zero_or_pos (j % 7) with h0 | h0
    · rw [h0] at hu ⊢
      rw [show off + j / 7 * 7 + 0 = off + j / 7 * 7 from rfl, hk]
      simpa [mem7] using hu
    · obtain ⟨q, hq⟩ : ∃ q, j % 7 = 1 + q := ⟨j % 7 - 1, by omega⟩
      rw [hq] at hu ⊢
      have := hc q (by omega)
      rw [C6.arr_get] at this
      rw [this]
      simpa [mem7, Nat.add_comm 1 q] using hu
end Go.Proofs.YtpehddbpingobaaDoor
