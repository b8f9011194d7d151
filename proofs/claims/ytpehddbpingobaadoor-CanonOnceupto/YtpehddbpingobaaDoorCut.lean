/-
  A cut around a region that is the last of its sequence: its ways meet again; what the region writes into the frame is forgotten.
-/
import Derived.Test.YtpehddbpingobaaDoorFew
namespace Go.Proofs.YtpehddbpingobaaDoor
open Go.RowKit Go.Lib

def putAll (a : Act) : List (Nat × Value) → Act
  | [] => a
  | (n, v) :: r => putAll (a.put (some n) v) r
def CutPost (a : Act) (ds : List Nat) (R : World → Prop) : Exit → Act → World → Prop
  | .normal, a', w' => (∃ us : List Value, us.length = ds.length ∧ a' = putAll a (ds.zip us)) ∧ R w'
  | _, _, _ => False
theorem wp_cut_last {P : Program} {c : Code} {Q : Exit → Act → World → Prop} {a : Act} {w : World} (ds : List Nat) (R : World → Prop)
    (rest : ∀ us w', us.length = ds.length → R w' → Q .normal (putAll a (ds.zip us)) w')
    (first : c.wp P (CutPost a ds R) a w) : c.wp P Q a w :=
  wp_mono first fun e a' w' h => by
    cases e with
    | normal => obtain ⟨⟨us, hu, ha⟩, hR⟩ := h; subst ha; exact rest us w' hu hR
    | _ => exact (h : False).elim
theorem len7 {us : List Value} (h : us.length = 7) : ∃ a b c d e f g, us = [a, b, c, d, e, f, g] := by
  match us, h with
  | [a, b, c, d, e, f, g], _ => exact ⟨a, b, c, d, e, f, g, rfl⟩
theorem len11 {us : List Value} (h : us.length = 11) : ∃ a b c d e f g a' b' c' d', us = [a, b, c, d, e, f, g, a', b', c', d'] := by
  match us, h with
  | [a, b, c, d, e, f, g, a', b', c', d'], _ => exact ⟨a, b, c, d, e, f, g, a', b', c', d', rfl⟩
end Go.Proofs.YtpehddbpingobaaDoor
