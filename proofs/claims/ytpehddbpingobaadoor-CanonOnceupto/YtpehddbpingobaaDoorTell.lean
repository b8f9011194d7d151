/-
  What the texts take of errors where none is told (a translation without errors.As): chains of faults; small facts.
-/
import Derived.Test.YtpehddbpingobaaDoorRows
import Derived.WalkKit
import Derived.LaidEql
import Derived.Stop.Asserts
import Derived.RowKitTokens
import Derived.Deep.LoopGhost
import Derived.Lib.Hide
import Derived.Laws.ResultCell
import Derived.Deep.RegionHeld
import Derived.Outline
namespace Go.Proofs.YtpehddbpingobaaDoor
open Go.RowKit Go.Extern.Stop Go.Stop Go.Extern
set_option linter.unusedVariables false

/-- An error value: a code behind so many faults (place, field), outermost first. -/
def Chain (w : World) : List (Int × ByteArray) → Int → Value → Prop
  | [], c, v => v = .iface 66 (.int .i64 c)
  | (n, s) :: r, c, v => ∃ b why, v = .iface 87 (.pointer (some ⟨b, 0, none⟩)) ∧ w.cell? ⟨b, 0, none⟩ = some (.int .i64 n) ∧ w.cell? ⟨b, 1, none⟩ = some (.string s) ∧ w.cell? ⟨b, 2, none⟩ = some why ∧ Chain w r c why

theorem Chain.keep {w w' : World} (h : ∀ p : Addr, p.block < w.heap.size → w'.cell? p = w.cell? p) : ∀ {l c v}, Chain w l c v → Chain w' l c v
  | [], _, _, hv => hv
  | (n, s) :: r, c, v, hv => by
    obtain ⟨b, why, rfl, h0, h1, h2, hr⟩ := hv
    have hb : b < w.heap.size := by
      rcases Nat.lt_or_ge b w.heap.size with hlt | hge
      · exact hlt
      · simp [World.cell?, Array.getElem?_eq_none hge] at h0
    exact ⟨b, why, rfl, by rw [h _ hb]; exact h0, by rw [h _ hb]; exact h1, by rw [h _ hb]; exact h2, Chain.keep h hr⟩
theorem Chain.below {w w' : World} {l : List (Int × ByteArray)} {c : Int} {v : Value} (h : Chain w l c v) (hb : Below w.heap.size w w') : Chain w' l c v :=
  h.keep fun _ hp => hb.cell hp

theorem Chain.held {w : World} {l : List (Int × ByteArray)} {c : Int} {v : Value} (h : Chain w l c v) : ∃ T x, v = .iface T x := by
  cases l with
  | nil => exact ⟨_, _, h⟩
  | cons p r => obtain ⟨n, s⟩ := p; obtain ⟨b, why, rfl, _⟩ := h; exact ⟨_, _, rfl⟩

theorem lt_of_cell {w : World} {a : Addr} {v : Value} (h : w.cell? a = some v) : a.block < w.heap.size := by
  rcases Nat.lt_or_ge a.block w.heap.size with hlt | hge
  · exact hlt
  · simp [World.cell?, Array.getElem?_eq_none hge] at h

def ErrVar (w : World) : Prop := True
theorem ErrVar.below {w w' : World} (h : ErrVar w) (hb : Below w.heap.size w w') : ErrVar w' := trivial
theorem size_of_nil {s : ByteArray} (h : s.toList = []) : s.size = 0 := by
  have h2 : s.toList.length = 0 := by rw [h]; rfl
  rw [Go.ByteArray.toList_eq, Array.length_toList] at h2
  exact h2
theorem size_of_some {s : ByteArray} (h : ¬ s.toList = []) : s.size ≠ 0 := fun h0 => h (List.eq_nil_of_length_eq_zero (by rw [Go.ByteArray.toList_eq, Array.length_toList]; exact h0))

end Go.Proofs.YtpehddbpingobaaDoor
