/-
  DERIVED. GIVEN WITH THE SEED: THE CARDS: each row of YtmejpjknofbffaaDoorRows.lean that lists a variable, with what it lists TIED to the program's text (the seventh form; the later family's looks); each row that meets fmt, with fmt's text TOLD by the authors' own Lean function (tested against real Go, not proved from fmt's source: count such statements apart). THE CARD IS WHAT COUNTS. Prove the row's statement (the work); the ties are given (YtmejpjknofbffaaDoorTie.lean); close each card by the builder's one call (the guide's Derived/Test/ToyasCard.lean, 'card_holds'). Laid BY PROGRAM, IN A SANDBOX (cutbox-door.mjs). By AI agents, Wed Nov 11 2026. No macro, syntax, notation, axiom, sorry.
-/
import Derived.Test.YtmejpjknofbffaaDoorRows
import GoSem.ClaimSeven
namespace Go.Proofs.YtmejpjknofbffaaDoor
namespace Rows

/-- THE TIED CARD OF 'enfiladelaw07.RecordBlocks'. -/
def recordBlocksCard : Claim7 := { stood := { row := recordBlocksRow, standIns := [], harness := (true, "2bd5a033eba3374f32941d614739b6fd8b98a4a532d59eaf7d7264a86778cf81"), looks := true }, kinds := [], alts := [], laidByText := true, laidKinds := [.data, .data, .data, .handle, .sentinel, .sentinel], laidTests := true, laidLooks := .later }
def RecordBlocksCardSaid : Prop := Claim7.holds Tryd.pinned (.plain (OpenSpec.ofChange recordBlocksSpec)) recordBlocksCard

/-- THE SECOND FORM's CARD OF 'enfiladelaw07.RecordBlocks'. -/
def recordBlocksUptoCard : Claim7 := { stood := { row := recordBlocksUptoRow, standIns := [], harness := (true, "2bd5a033eba3374f32941d614739b6fd8b98a4a532d59eaf7d7264a86778cf81"), looks := true }, kinds := [], alts := [], laidByText := true, laidKinds := [.data, .data, .data, .handle, .sentinel, .sentinel], laidTests := true, laidLooks := .later }
def RecordBlocksUptoCardSaid : Prop := Claim7.holds Tryd.pinned (.plain (OpenSpec.upto recordBlocksSpec)) recordBlocksUptoCard
end Rows
end Go.Proofs.YtmejpjknofbffaaDoor
