/-
  Values as trees, and what it means that memory holds one; what is wrong with one, by the words of the document (its keys and numbers on the way, and the code).
-/
import Derived.Test.YtpehddbpingobaaDoorVTree
import Derived.Test.YtpehddbpingobaaDoorTell
import Derived.Test.YtpehddbpingobaaDoorPlain
import Derived.WalkSmall
namespace Go.Proofs.YtpehddbpingobaaDoor
open Go.RowKit Go.Lib

mutual
/-- The six cells hold the value; all blocks of its memory are such as Q says; no text and no list of it is longer than M. -/
def Val (w : World) (Q : Nat → Prop) (M : Nat) : V → Array Value → Prop
  | .mk k y n t l m, cs => ∃ A c A' c', cs = #[.int .i64 k, .bool y, .int .i64 n, .string t, .slice A l.length c, .slice A' m.length c'] ∧ (l.length ≤ c ∧ m.length ≤ c' ∧ t.size ≤ M ∧ l.length ≤ M ∧ m.length ≤ M ∧ (A = none → c = 0) ∧ (A' = none → c' = 0)) ∧ ValL w Q M l A 0 ∧ ValM w Q M m A' 0
def ValL (w : World) (Q : Nat → Prop) (M : Nat) : List V → Option Addr → Nat → Prop
  | [], _, _ => True
  | v :: r, A, i => (∃ b off cs, A = some ⟨b, off, none⟩ ∧ Q b ∧ (∀ j, j < 6 → w.cell? ⟨b, off + i * 6 + j, none⟩ = cs[j]?) ∧ Val w Q M v cs) ∧ ValL w Q M r A (i + 1)
def ValM (w : World) (Q : Nat → Prop) (M : Nat) : List (ByteArray × V) → Option Addr → Nat → Prop
  | [], _, _ => True
  | (s, v) :: r, A, i => (∃ b off cs, A = some ⟨b, off, none⟩ ∧ Q b ∧ s.size ≤ M ∧ w.cell? ⟨b, off + i * 7, none⟩ = some (.string s) ∧ (∀ j, j < 6 → w.cell? ⟨b, off + i * 7 + (1 + j), none⟩ = cs[j]?) ∧ Val w Q M v cs) ∧ ValM w Q M r A (i + 1)
end

mutual
theorem Val.keep {w w' : World} {Q Q' : Nat → Prop} {M : Nat} (h : ∀ p : Addr, Q p.block → w'.cell? p = w.cell? p) (hB : ∀ b, Q b → Q' b) : ∀ {v : V} {cs : Array Value}, Val w Q M v cs → Val w' Q' M v cs
  | .mk _ _ _ _ _ _, _, hv => by
    rw [Val] at hv ⊢
    obtain ⟨A, c, A', c', e, hs, hl, hm⟩ := hv
    exact ⟨A, c, A', c', e, hs, ValL.keep h hB hl, ValM.keep h hB hm⟩
theorem ValL.keep {w w' : World} {Q Q' : Nat → Prop} {M : Nat} (h : ∀ p : Addr, Q p.block → w'.cell? p = w.cell? p) (hB : ∀ b, Q b → Q' b) : ∀ {l : List V} {A : Option Addr} {i : Nat}, ValL w Q M l A i → ValL w' Q' M l A i
  | [], _, _, _ => by rw [ValL]; trivial
  | v :: r, A, i, hv => by
    rw [ValL] at hv ⊢
    obtain ⟨⟨b, off, cs, e, hb, hc, hx⟩, hr⟩ := hv
    exact ⟨⟨b, off, cs, e, hB _ hb, fun j hj => (h _ hb).trans (hc j hj), Val.keep h hB hx⟩, ValL.keep h hB hr⟩
theorem ValM.keep {w w' : World} {Q Q' : Nat → Prop} {M : Nat} (h : ∀ p : Addr, Q p.block → w'.cell? p = w.cell? p) (hB : ∀ b, Q b → Q' b) : ∀ {l : List (ByteArray × V)} {A : Option Addr} {i : Nat}, ValM w Q M l A i → ValM w' Q' M l A i
  | [], _, _, _ => by rw [ValM]; trivial
  | (s, v) :: r, A, i, hv => by
    rw [ValM] at hv ⊢
    obtain ⟨⟨b, off, cs, e, hb, hs, hk, hc, hx⟩, hr⟩ := hv
    exact ⟨⟨b, off, cs, e, hB _ hb, hs, (h _ hb).trans hk, fun j hj => (h _ hb).trans (hc j hj), Val.keep h hB hx⟩, ValM.keep h hB hr⟩
end

theorem ValL.get {w : World} {Q : Nat → Prop} {M : Nat} : ∀ {l : List V} {A : Option Addr} {i : Nat}, ValL w Q M l A i → ∀ (j : Nat) (hj : j < l.length),
    ∃ b off cs, A = some ⟨b, off, none⟩ ∧ Q b ∧ (∀ q, q < 6 → w.cell? ⟨b, off + (i + j) * 6 + q, none⟩ = cs[q]?) ∧ Val w Q M l[j] cs
  | v :: r, A, i, hv, 0, _ => by
    rw [ValL] at hv
    exact hv.1
  | v :: r, A, i, hv, j + 1, hj => by
    rw [ValL] at hv
    obtain ⟨b, off, cs, e, hb, hc, hx⟩ := ValL.get hv.2 j (by simpa using hj)
    exact ⟨b, off, cs, e, hb, fun q hq => by rw [show i + (j + 1) = i + 1 + j by omega]; exact hc q hq, by simpa using hx⟩
theorem ValM.get {w : World} {Q : Nat → Prop} {M : Nat} : ∀ {l : List (ByteArray × V)} {A : Option Addr} {i : Nat}, ValM w Q M l A i → ∀ (j : Nat) (hj : j < l.length),
    ∃ b off cs, A = some ⟨b, off, none⟩ ∧ Q b ∧ l[j].1.size ≤ M ∧ w.cell? ⟨b, off + (i + j) * 7, none⟩ = some (.string l[j].1) ∧ (∀ q, q < 6 → w.cell? ⟨b, off + (i + j) * 7 + (1 + q), none⟩ = cs[q]?) ∧ Val w Q M l[j].2 cs
  | (s, v) :: r, A, i, hv, 0, _ => by
    rw [ValM] at hv
    exact hv.1
  | (s, v) :: r, A, i, hv, j + 1, hj => by
    rw [ValM] at hv
    obtain ⟨b, off, cs, e, hb, hs, hk, hc, hx⟩ := ValM.get hv.2 j (by simpa using hj)
    exact ⟨b, off, cs, e, hb, by simpa using hs, by rw [show i + (j + 1) = i + 1 + j by omega]; simpa using hk, fun q hq => by rw [show i + (j + 1) = i + 1 + j by omega]; exact hc q hq, by simpa using hx⟩

/-- Elements that are read one by one make a list; the way back from 'get'. -/
theorem ValL.mk_ {w : World} {Q : Nat → Prop} {M : Nat} : ∀ {l : List V} {A : Option Addr} {i : Nat}, (∀ (j : Nat) (hj : j < l.length), ∃ b off cs, A = some ⟨b, off, none⟩ ∧ Q b ∧ (∀ q, q < 6 → w.cell? ⟨b, off + (i + j) * 6 + q, none⟩ = cs[q]?) ∧ Val w Q M l[j] cs) → ValL w Q M l A i
  | [], _, _, _ => by rw [ValL]; trivial
  | v :: r, A, i, h => by
    rw [ValL]
    refine ⟨h 0 (Nat.succ_pos _), ValL.mk_ fun j hj => ?_⟩
    obtain ⟨b, off, cs, e, hb, hc, hx⟩ := h (j + 1) (by simpa using hj)
    exact ⟨b, off, cs, e, hb, fun q hq => by rw [show i + 1 + j = i + (j + 1) by omega]; exact hc q hq, by simpa using hx⟩
theorem ValM.mk_ {w : World} {Q : Nat → Prop} {M : Nat} : ∀ {l : List (ByteArray × V)} {A : Option Addr} {i : Nat}, (∀ (j : Nat) (hj : j < l.length), ∃ b off cs, A = some ⟨b, off, none⟩ ∧ Q b ∧ l[j].1.size ≤ M ∧ w.cell? ⟨b, off + (i + j) * 7, none⟩ = some (.string l[j].1) ∧ (∀ q, q < 6 → w.cell? ⟨b, off + (i + j) * 7 + (1 + q), none⟩ = cs[q]?) ∧ Val w Q M l[j].2 cs) → ValM w Q M l A i
  | [], _, _, _ => by rw [ValM]; trivial
  | (s, v) :: r, A, i, h => by
    rw [ValM]
    refine ⟨h 0 (Nat.succ_pos _), ValM.mk_ fun j hj => ?_⟩
    obtain ⟨b, off, cs, e, hb, hs, hk, hc, hx⟩ := h (j + 1) (by simpa using hj)
    exact ⟨b, off, cs, e, hb, by simpa using hs, by rw [show i + 1 + j = i + (j + 1) by omega]; simpa using hk, fun q hq => by rw [show i + 1 + j = i + (j + 1) by omega]; exact hc q hq, by simpa using hx⟩

/-- What the package variables of the library hold. -/
def Glob (w : World) : Prop := ErrVar w ∧ Lib.Utf8Tabs 1 2 w ∧ Lib.TabIs Tryd.prog w "internal/strconv.uint64pow10" .u64 Lib.pow10Tab
end Go.Proofs.YtpehddbpingobaaDoor
