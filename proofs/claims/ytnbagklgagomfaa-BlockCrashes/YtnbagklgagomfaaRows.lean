/-
  No cell of these rows narrows 'for every input' (looked for: loops, veiled, ifaces, maps, wideKeys, modest, calm, conditions, laid).
  DERIVED. THE GIVEN ROWS OF THIS SEAT. 3 by the template 'for every input the law returns true; each argument reads behind the call as it read before'; 0 by the template 'total and deterministic' (their statements: YtnbagklgagomfaaTotals.lean).
  GIVEN WITH THE SEED: the statements are not yours to turn. If you find one false, say at which input.
  Laid BY PROGRAM, IN A SANDBOX (cutbox-rows.mjs): the forced cells as the released guide's own fill.sh prints them over the translation 8db2faccfc037b8d… (all of the seat's roots in one cut). By AI agents, Wed Nov 11 2026. No macro, syntax, notation, axiom, sorry.
-/
import Derived.Test.YtnbagklgagomfaaChecked
import GoSem.Claim
import GoSem.ClaimJoined
import GoSem.ClaimMapViews
import Derived.JoinedTies
import Derived.KernelRfl
namespace Go.Proofs.Ytnbagklgagomfaa
/- THE CELL 'sum', in the pinned program and in every row, IS THE sha256 OF THE DUMP (.gsa) THAT YtnbagklgagomfaaProg.lean LOADS. Nothing in Lean hashes anything: it is a label: what it is worth is what the hold of that sum in a sandbox is worth. -/
noncomputable def Try.pinned : Pinned := { name := "ytnbagklgagomfaa", sum := "8db2faccfc037b8d8989c4d9b871d02266a239e73d63ee6743ed270f6dd1e49f", checked := Try.checked }
namespace Rows
def none {H : Type} : Left H := { results := [], args := [] }

/-- 'enfiladelaw06.BlockCrashes': WHATEVER THE INPUT: true; the input reads as it did. -/
def blockCrashesSpec : ChangeSpec := { name := "blockCrashes", fn := fun _ => fun
  | [d1, d2, d3] => { results := [.lit (.bool true)], args := [d1, d2, d3] }
  | _ => none }
def blockCrashesRow : OpenClaim := { program := "ytnbagklgagomfaa", sum := "8db2faccfc037b8d8989c4d9b871d02266a239e73d63ee6743ed270f6dd1e49f", func := "enfilade/enfiladelaw06.BlockCrashes", spec := "blockCrashes", inPlace := ["internal/reflectlite.TypeOf"], unfollowed := true, recurses := true, apart := false }
def BlockCrashesSaid : Prop := blockCrashesRow.holds Try.pinned (OpenSpec.ofChange blockCrashesSpec)

/-- ITS FALSE NEIGHBOUR: 'it returns false'. Refute it at one input. -/
def blockCrashesWrong : ChangeSpec := { name := "blockCrashes", fn := fun _ => fun
  | [d1, d2, d3] => { results := [.lit (.bool false)], args := [d1, d2, d3] }
  | _ => none }
def BlockCrashesWrongFalsely : Prop := blockCrashesRow.holds Try.pinned (OpenSpec.ofChange blockCrashesWrong)

/-- 'enfiladelaw06.BlockFuse': WHATEVER THE INPUT: true; the input reads as it did. -/
def blockFuseSpec : ChangeSpec := { name := "blockFuse", fn := fun _ => fun
  | [d1, d2] => { results := [.lit (.bool true)], args := [d1, d2] }
  | _ => none }
def blockFuseRow : OpenClaim := { program := "ytnbagklgagomfaa", sum := "8db2faccfc037b8d8989c4d9b871d02266a239e73d63ee6743ed270f6dd1e49f", func := "enfilade/enfiladelaw06.BlockFuse", spec := "blockFuse", inPlace := ["internal/reflectlite.TypeOf"], unfollowed := true, recurses := true, apart := false }
def BlockFuseSaid : Prop := blockFuseRow.holds Try.pinned (OpenSpec.ofChange blockFuseSpec)

/-- ITS FALSE NEIGHBOUR: 'it returns false'. Refute it at one input. -/
def blockFuseWrong : ChangeSpec := { name := "blockFuse", fn := fun _ => fun
  | [d1, d2] => { results := [.lit (.bool false)], args := [d1, d2] }
  | _ => none }
def BlockFuseWrongFalsely : Prop := blockFuseRow.holds Try.pinned (OpenSpec.ofChange blockFuseWrong)

/-- 'enfiladelaw06.BlockApart': WHATEVER THE INPUT: true; the input reads as it did. -/
def blockApartSpec : ChangeSpec := { name := "blockApart", fn := fun _ => fun
  | [d1, d2, d3] => { results := [.lit (.bool true)], args := [d1, d2, d3] }
  | _ => none }
def blockApartRow : OpenClaim := { program := "ytnbagklgagomfaa", sum := "8db2faccfc037b8d8989c4d9b871d02266a239e73d63ee6743ed270f6dd1e49f", func := "enfilade/enfiladelaw06.BlockApart", spec := "blockApart", inPlace := ["internal/reflectlite.TypeOf"], unfollowed := true, recurses := true, apart := false }
def BlockApartSaid : Prop := blockApartRow.holds Try.pinned (OpenSpec.ofChange blockApartSpec)

/-- ITS FALSE NEIGHBOUR: 'it returns false'. Refute it at one input. -/
def blockApartWrong : ChangeSpec := { name := "blockApart", fn := fun _ => fun
  | [d1, d2, d3] => { results := [.lit (.bool false)], args := [d1, d2, d3] }
  | _ => none }
def BlockApartWrongFalsely : Prop := blockApartRow.holds Try.pinned (OpenSpec.ofChange blockApartWrong)

/- THE SECOND FORM. 'bulk': how many values and letters a reading holds, each counted each time it is reached (what is shared counts as often as it is met; a slice's spare places count too). A statement '..UptoSaid' is the law's where the arguments, and the package variables that the reading takes, are together of bulk at most 1048576: NARROWER than '..Said'. Prove '..Said' where nothing that the law and all that it calls make is longer than what came in: it says more and counts as full. Else prove '..UptoSaid'. A law counts once. -/
mutual
def uptoBulk {H : Type} : DataW H → Nat
  | .lit (.string bytes) => bytes.length + 1
  | .lit _ => 1
  | .nil => 1
  | .ptr d => uptoBulk d + 1
  | .slice elems spare => uptoBulkAll elems + uptoBulkAll spare + 1
  | .agg parts => uptoBulkAll parts + 1
  | .iface _ d => uptoBulk d + 1
  | .map entries => uptoBulkEntries entries + 1
  | .held _ => 1
def uptoBulkAll {H : Type} : List (DataW H) → Nat
  | [] => 0
  | d :: r => uptoBulk d + uptoBulkAll r
def uptoBulkEntries {H : Type} : List (Lit × DataW H) → Nat
  | [] => 0
  | x :: r => uptoBulkEntry x + uptoBulkEntries r
def uptoBulkEntry {H : Type} : Lit × DataW H → Nat
  | (.string bytes, d) => bytes.length + uptoBulk d + 1
  | (_, d) => uptoBulk d + 1
 end
def uptoSmall : (H : Type) → List (DataW H) → Bool := fun _ ds => decide (uptoBulkAll ds ≤ 1048576)
def OpenSpec.upto (s : _root_.Go.ChangeSpec) : _root_.Go.OpenSpec := { _root_.Go.OpenSpec.ofChange s with cond := some uptoSmall }

/-- 'enfiladelaw06.BlockCrashes', WHERE WHAT IT READS IS OF BULK AT MOST 1048576: true; the input reads as it did. -/
def blockCrashesUptoRow : OpenClaim := { program := "ytnbagklgagomfaa", sum := "8db2faccfc037b8d8989c4d9b871d02266a239e73d63ee6743ed270f6dd1e49f", func := "enfilade/enfiladelaw06.BlockCrashes", spec := "blockCrashes", inPlace := ["internal/reflectlite.TypeOf"], unfollowed := true, recurses := true, apart := false, narrowed := true }
def BlockCrashesUptoSaid : Prop := blockCrashesUptoRow.holds Try.pinned (OpenSpec.upto blockCrashesSpec)

/-- 'enfiladelaw06.BlockFuse', WHERE WHAT IT READS IS OF BULK AT MOST 1048576: true; the input reads as it did. -/
def blockFuseUptoRow : OpenClaim := { program := "ytnbagklgagomfaa", sum := "8db2faccfc037b8d8989c4d9b871d02266a239e73d63ee6743ed270f6dd1e49f", func := "enfilade/enfiladelaw06.BlockFuse", spec := "blockFuse", inPlace := ["internal/reflectlite.TypeOf"], unfollowed := true, recurses := true, apart := false, narrowed := true }
def BlockFuseUptoSaid : Prop := blockFuseUptoRow.holds Try.pinned (OpenSpec.upto blockFuseSpec)

/-- 'enfiladelaw06.BlockApart', WHERE WHAT IT READS IS OF BULK AT MOST 1048576: true; the input reads as it did. -/
def blockApartUptoRow : OpenClaim := { program := "ytnbagklgagomfaa", sum := "8db2faccfc037b8d8989c4d9b871d02266a239e73d63ee6743ed270f6dd1e49f", func := "enfilade/enfiladelaw06.BlockApart", spec := "blockApart", inPlace := ["internal/reflectlite.TypeOf"], unfollowed := true, recurses := true, apart := false, narrowed := true }
def BlockApartUptoSaid : Prop := blockApartUptoRow.holds Try.pinned (OpenSpec.upto blockApartSpec)

end Rows
end Go.Proofs.Ytnbagklgagomfaa
