/-
  DERIVED. GIVEN WITH THE SEED: THE CARDS: each row of YtakibkbmikkpdaaDoorRows.lean that lists a variable, with what it lists TIED to the program's text (the seventh form; the later family's looks); each row that meets fmt, with fmt's text TOLD by the authors' own Lean function (tested against real Go, not proved from fmt's source: count such statements apart). THE CARD IS WHAT COUNTS. Prove the row's statement (the work); the ties are given (YtakibkbmikkpdaaDoorTie.lean); close each card by the builder's one call (the guide's Derived/Test/ToyasCard.lean, 'card_holds'). Laid BY PROGRAM, IN A SANDBOX (cutbox-door.mjs). By AI agents, Wed Nov 11 2026. No macro, syntax, notation, axiom, sorry.
-/
import Derived.Test.YtakibkbmikkpdaaDoorRows
import GoSem.ClaimSeven
namespace Go.Proofs.YtakibkbmikkpdaaDoor
namespace Rows

/-- THE TIED CARD OF 'enfiladelaw04.IdentIs'. -/
def identIsCard : Claim7 := { stood := { row := identIsRow, standIns := [], harness := (true, "5fcf13c3eac0f48e0cfde28741c3bf3607c5294528e55931bbfffc10c8c42c22"), looks := true }, kinds := [], alts := [], laidByText := true, laidKinds := [.handle], laidTests := true, laidLooks := .later }
def IdentIsCardSaid : Prop := Claim7.holds Tryd.pinned (.plain (OpenSpec.ofChange identIsSpec)) identIsCard

/-- THE TIED CARD OF 'enfiladelaw04.IdentSplits'. -/
def identSplitsCard : Claim7 := { stood := { row := identSplitsRow, standIns := [], harness := (true, "5fcf13c3eac0f48e0cfde28741c3bf3607c5294528e55931bbfffc10c8c42c22"), looks := true }, kinds := [], alts := [], laidByText := true, laidKinds := [.handle], laidTests := true, laidLooks := .later }
def IdentSplitsCardSaid : Prop := Claim7.holds Tryd.pinned (.plain (OpenSpec.ofChange identSplitsSpec)) identSplitsCard

/-- THE SECOND FORM's CARD OF 'enfiladelaw04.IdentIs'. -/
def identIsUptoCard : Claim7 := { stood := { row := identIsUptoRow, standIns := [], harness := (true, "5fcf13c3eac0f48e0cfde28741c3bf3607c5294528e55931bbfffc10c8c42c22"), looks := true }, kinds := [], alts := [], laidByText := true, laidKinds := [.handle], laidTests := true, laidLooks := .later }
def IdentIsUptoCardSaid : Prop := Claim7.holds Tryd.pinned (.plain (OpenSpec.upto identIsSpec)) identIsUptoCard

/-- THE SECOND FORM's CARD OF 'enfiladelaw04.IdentSplits'. -/
def identSplitsUptoCard : Claim7 := { stood := { row := identSplitsUptoRow, standIns := [], harness := (true, "5fcf13c3eac0f48e0cfde28741c3bf3607c5294528e55931bbfffc10c8c42c22"), looks := true }, kinds := [], alts := [], laidByText := true, laidKinds := [.handle], laidTests := true, laidLooks := .later }
def IdentSplitsUptoCardSaid : Prop := Claim7.holds Tryd.pinned (.plain (OpenSpec.upto identSplitsSpec)) identSplitsUptoCard
end Rows
end Go.Proofs.YtakibkbmikkpdaaDoor
