/-
  DERIVED. GIVEN WITH THE SEED: THE CARDS: each row of YtpehddbpingobaaDoorRows.lean that lists a variable, with what it lists TIED to the program's text (the seventh form; the later family's looks); each row that meets fmt, with fmt's text TOLD by the authors' own Lean function (tested against real Go, not proved from fmt's source: count such statements apart). THE CARD IS WHAT COUNTS. Prove the row's statement (the work); the ties are given (YtpehddbpingobaaDoorTie.lean); close each card by the builder's one call (the guide's Derived/Test/ToyasCard.lean, 'card_holds'). Laid BY PROGRAM, IN A SANDBOX (cutbox-door.mjs). By AI agents, Wed Nov 11 2026. No macro, syntax, notation, axiom, sorry.
-/
import Derived.Test.YtpehddbpingobaaDoorRows
import GoSem.ClaimSeven
namespace Go.Proofs.YtpehddbpingobaaDoor
namespace Rows

/-- THE TIED CARD OF 'enfiladelaw03.CanonOnce'. -/
def canonOnceCard : Claim7 := { stood := { row := canonOnceRow, standIns := [], harness := (true, "7149efa641f7277e47b1edb2ca66158f47fa6bf14b565da2235ed9802a11458c"), looks := false }, kinds := [], alts := [], laidByText := true, laidKinds := [.data, .data, .data, .data, .pinned], laidTests := true, laidLooks := .later }
def CanonOnceCardSaid : Prop := Claim7.holds Tryd.pinned (.plain (OpenSpec.ofChange canonOnceSpec)) canonOnceCard

/-- THE SECOND FORM's CARD OF 'enfiladelaw03.CanonOnce'. -/
def canonOnceUptoCard : Claim7 := { stood := { row := canonOnceUptoRow, standIns := [], harness := (true, "7149efa641f7277e47b1edb2ca66158f47fa6bf14b565da2235ed9802a11458c"), looks := false }, kinds := [], alts := [], laidByText := true, laidKinds := [.data, .data, .data, .data, .pinned], laidTests := true, laidLooks := .later }
def CanonOnceUptoCardSaid : Prop := Claim7.holds Tryd.pinned (.plain (OpenSpec.upto canonOnceSpec)) canonOnceUptoCard
end Rows
end Go.Proofs.YtpehddbpingobaaDoor
