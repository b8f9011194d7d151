/-
  DERIVED. GIVEN WITH THE SEED: THE CARDS: each row of YtleaaipkgjjlfaaDoorRows.lean that lists a variable, with what it lists TIED to the program's text (the seventh form; the later family's looks); each row that meets fmt, with fmt's text TOLD by the authors' own Lean function (tested against real Go, not proved from fmt's source: count such statements apart). THE CARD IS WHAT COUNTS. Prove the row's statement (the work); the ties are given (YtleaaipkgjjlfaaDoorTie.lean); close each card by the builder's one call (the guide's Derived/Test/ToyasCard.lean, 'card_holds'). Laid BY PROGRAM, IN A SANDBOX (cutbox-door.mjs). By AI agents, Wed Nov 11 2026. No macro, syntax, notation, axiom, sorry.
-/
import Derived.Test.YtleaaipkgjjlfaaDoorRows
import GoSem.ClaimSeven
namespace Go.Proofs.YtleaaipkgjjlfaaDoor
namespace Rows

/-- THE TIED CARD OF 'enfiladelaw03.CanonOnce'. -/
def canonOnceCard : Claim7 := { stood := { row := canonOnceRow, standIns := [], harness := (true, "ddfef9fb4835f4021c7394f3667e04eb79ba303d9d498e6d7096590e82083966"), looks := false }, kinds := [], alts := [], laidByText := true, laidKinds := [.data, .data, .data, .data, .pinned], laidTests := true, laidLooks := .later }
def CanonOnceCardSaid : Prop := Claim7.holds Tryd.pinned (.plain (OpenSpec.ofChange canonOnceSpec)) canonOnceCard

/-- THE TIED CARD OF 'enfiladelaw03.CanonSums'. -/
def canonSumsCard : Claim7 := { stood := { row := canonSumsRow, standIns := [], harness := (true, "ddfef9fb4835f4021c7394f3667e04eb79ba303d9d498e6d7096590e82083966"), looks := false }, kinds := [], alts := [], laidByText := true, laidKinds := [.data, .data, .data, .data, .pinned], laidTests := true, laidLooks := .later }
def CanonSumsCardSaid : Prop := Claim7.holds Tryd.pinned (.plain (OpenSpec.ofChange canonSumsSpec)) canonSumsCard

/-- THE SECOND FORM's CARD OF 'enfiladelaw03.CanonOnce'. -/
def canonOnceUptoCard : Claim7 := { stood := { row := canonOnceUptoRow, standIns := [], harness := (true, "ddfef9fb4835f4021c7394f3667e04eb79ba303d9d498e6d7096590e82083966"), looks := false }, kinds := [], alts := [], laidByText := true, laidKinds := [.data, .data, .data, .data, .pinned], laidTests := true, laidLooks := .later }
def CanonOnceUptoCardSaid : Prop := Claim7.holds Tryd.pinned (.plain (OpenSpec.upto canonOnceSpec)) canonOnceUptoCard

/-- THE SECOND FORM's CARD OF 'enfiladelaw03.CanonSums'. -/
def canonSumsUptoCard : Claim7 := { stood := { row := canonSumsUptoRow, standIns := [], harness := (true, "ddfef9fb4835f4021c7394f3667e04eb79ba303d9d498e6d7096590e82083966"), looks := false }, kinds := [], alts := [], laidByText := true, laidKinds := [.data, .data, .data, .data, .pinned], laidTests := true, laidLooks := .later }
def CanonSumsUptoCardSaid : Prop := Claim7.holds Tryd.pinned (.plain (OpenSpec.upto canonSumsSpec)) canonSumsUptoCard
end Rows
end Go.Proofs.YtleaaipkgjjlfaaDoor
