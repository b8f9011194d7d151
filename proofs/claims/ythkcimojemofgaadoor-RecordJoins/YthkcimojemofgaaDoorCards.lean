/-
  DERIVED. GIVEN WITH THE SEED: THE CARDS: each row of YthkcimojemofgaaDoorRows.lean that lists a variable, with what it lists TIED to the program's text (the seventh form; the later family's looks); each row that meets fmt, with fmt's text TOLD by the authors' own Lean function (tested against real Go, not proved from fmt's source: count such statements apart). THE CARD IS WHAT COUNTS. Prove the row's statement (the work); the ties are given (YthkcimojemofgaaDoorTie.lean); close each card by the builder's one call (the guide's Derived/Test/ToyasCard.lean, 'card_holds'). Laid BY PROGRAM, IN A SANDBOX (cutbox-door.mjs). By AI agents, Wed Nov 11 2026. No macro, syntax, notation, axiom, sorry.
-/
import Derived.Test.YthkcimojemofgaaDoorRows
import GoSem.ClaimSeven
namespace Go.Proofs.YthkcimojemofgaaDoor
namespace Rows

/-- THE TIED CARD OF 'enfiladelaw07.RecordBlocks'. -/
def recordBlocksCard : Claim7 := { stood := { row := recordBlocksRow, standIns := [], harness := (true, "82f09d04b30aaf75f015462494270aa3f69de795d704bf9e2d17f6f862bd29f4"), looks := true }, kinds := [], alts := [], laidByText := true, laidKinds := [.data, .data, .data, .handle, .sentinel, .sentinel], laidTests := true, laidLooks := .later }
def RecordBlocksCardSaid : Prop := Claim7.holds Tryd.pinned (.plain (OpenSpec.ofChange recordBlocksSpec)) recordBlocksCard

/-- THE TIED CARD OF 'enfiladelaw07.RecordReads'. -/
def recordReadsCard : Claim7 := { stood := { row := recordReadsRow, standIns := [], harness := (true, "82f09d04b30aaf75f015462494270aa3f69de795d704bf9e2d17f6f862bd29f4"), looks := true }, kinds := [], alts := [], laidByText := true, laidKinds := [.data, .data, .data, .handle, .sentinel, .sentinel], laidTests := true, laidLooks := .later }
def RecordReadsCardSaid : Prop := Claim7.holds Tryd.pinned (.plain (OpenSpec.ofChange recordReadsSpec)) recordReadsCard

/-- THE TIED CARD OF 'enfiladelaw07.RecordSplits'. -/
def recordSplitsCard : Claim7 := { stood := { row := recordSplitsRow, standIns := [], harness := (true, "82f09d04b30aaf75f015462494270aa3f69de795d704bf9e2d17f6f862bd29f4"), looks := true }, kinds := [], alts := [], laidByText := true, laidKinds := [.data, .data, .data, .handle, .sentinel, .sentinel], laidTests := true, laidLooks := .later }
def RecordSplitsCardSaid : Prop := Claim7.holds Tryd.pinned (.plain (OpenSpec.ofChange recordSplitsSpec)) recordSplitsCard

/-- THE TIED CARD OF 'enfiladelaw07.RecordJoins'. -/
def recordJoinsCard : Claim7 := { stood := { row := recordJoinsRow, standIns := [], harness := (true, "82f09d04b30aaf75f015462494270aa3f69de795d704bf9e2d17f6f862bd29f4"), looks := true }, kinds := [], alts := [], laidByText := true, laidKinds := [.data, .data, .data, .handle, .sentinel, .sentinel], laidTests := true, laidLooks := .later }
def RecordJoinsCardSaid : Prop := Claim7.holds Tryd.pinned (.plain (OpenSpec.ofChange recordJoinsSpec)) recordJoinsCard

/-- THE TIED CARD OF 'enfiladelaw07.RecordTorn'. -/
def recordTornCard : Claim7 := { stood := { row := recordTornRow, standIns := [], harness := (true, "82f09d04b30aaf75f015462494270aa3f69de795d704bf9e2d17f6f862bd29f4"), looks := true }, kinds := [], alts := [], laidByText := true, laidKinds := [.data, .data, .data, .sentinel, .sentinel], laidTests := true, laidLooks := .later }
def RecordTornCardSaid : Prop := Claim7.holds Tryd.pinned (.plain (OpenSpec.ofChange recordTornSpec)) recordTornCard

/-- THE TIED CARD OF 'enfiladelaw07.RecordApart'. -/
def recordApartCard : Claim7 := { stood := { row := recordApartRow, standIns := [], harness := (true, "82f09d04b30aaf75f015462494270aa3f69de795d704bf9e2d17f6f862bd29f4"), looks := true }, kinds := [], alts := [], laidByText := true, laidKinds := [.data, .data, .data, .sentinel, .sentinel], laidTests := true, laidLooks := .later }
def RecordApartCardSaid : Prop := Claim7.holds Tryd.pinned (.plain (OpenSpec.ofChange recordApartSpec)) recordApartCard

/-- THE SECOND FORM's CARD OF 'enfiladelaw07.RecordBlocks'. -/
def recordBlocksUptoCard : Claim7 := { stood := { row := recordBlocksUptoRow, standIns := [], harness := (true, "82f09d04b30aaf75f015462494270aa3f69de795d704bf9e2d17f6f862bd29f4"), looks := true }, kinds := [], alts := [], laidByText := true, laidKinds := [.data, .data, .data, .handle, .sentinel, .sentinel], laidTests := true, laidLooks := .later }
def RecordBlocksUptoCardSaid : Prop := Claim7.holds Tryd.pinned (.plain (OpenSpec.upto recordBlocksSpec)) recordBlocksUptoCard

/-- THE SECOND FORM's CARD OF 'enfiladelaw07.RecordReads'. -/
def recordReadsUptoCard : Claim7 := { stood := { row := recordReadsUptoRow, standIns := [], harness := (true, "82f09d04b30aaf75f015462494270aa3f69de795d704bf9e2d17f6f862bd29f4"), looks := true }, kinds := [], alts := [], laidByText := true, laidKinds := [.data, .data, .data, .handle, .sentinel, .sentinel], laidTests := true, laidLooks := .later }
def RecordReadsUptoCardSaid : Prop := Claim7.holds Tryd.pinned (.plain (OpenSpec.upto recordReadsSpec)) recordReadsUptoCard

/-- THE SECOND FORM's CARD OF 'enfiladelaw07.RecordSplits'. -/
def recordSplitsUptoCard : Claim7 := { stood := { row := recordSplitsUptoRow, standIns := [], harness := (true, "82f09d04b30aaf75f015462494270aa3f69de795d704bf9e2d17f6f862bd29f4"), looks := true }, kinds := [], alts := [], laidByText := true, laidKinds := [.data, .data, .data, .handle, .sentinel, .sentinel], laidTests := true, laidLooks := .later }
def RecordSplitsUptoCardSaid : Prop := Claim7.holds Tryd.pinned (.plain (OpenSpec.upto recordSplitsSpec)) recordSplitsUptoCard

/-- THE SECOND FORM's CARD OF 'enfiladelaw07.RecordJoins'. -/
def recordJoinsUptoCard : Claim7 := { stood := { row := recordJoinsUptoRow, standIns := [], harness := (true, "82f09d04b30aaf75f015462494270aa3f69de795d704bf9e2d17f6f862bd29f4"), looks := true }, kinds := [], alts := [], laidByText := true, laidKinds := [.data, .data, .data, .handle, .sentinel, .sentinel], laidTests := true, laidLooks := .later }
def RecordJoinsUptoCardSaid : Prop := Claim7.holds Tryd.pinned (.plain (OpenSpec.upto recordJoinsSpec)) recordJoinsUptoCard

/-- THE SECOND FORM's CARD OF 'enfiladelaw07.RecordTorn'. -/
def recordTornUptoCard : Claim7 := { stood := { row := recordTornUptoRow, standIns := [], harness := (true, "82f09d04b30aaf75f015462494270aa3f69de795d704bf9e2d17f6f862bd29f4"), looks := true }, kinds := [], alts := [], laidByText := true, laidKinds := [.data, .data, .data, .sentinel, .sentinel], laidTests := true, laidLooks := .later }
def RecordTornUptoCardSaid : Prop := Claim7.holds Tryd.pinned (.plain (OpenSpec.upto recordTornSpec)) recordTornUptoCard

/-- THE SECOND FORM's CARD OF 'enfiladelaw07.RecordApart'. -/
def recordApartUptoCard : Claim7 := { stood := { row := recordApartUptoRow, standIns := [], harness := (true, "82f09d04b30aaf75f015462494270aa3f69de795d704bf9e2d17f6f862bd29f4"), looks := true }, kinds := [], alts := [], laidByText := true, laidKinds := [.data, .data, .data, .sentinel, .sentinel], laidTests := true, laidLooks := .later }
def RecordApartUptoCardSaid : Prop := Claim7.holds Tryd.pinned (.plain (OpenSpec.upto recordApartSpec)) recordApartUptoCard
end Rows
end Go.Proofs.YthkcimojemofgaaDoor
