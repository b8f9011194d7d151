/-
  What the rows' lists of package variables give the walks of layer 7; and a world that holds what the variables' initialisers lay (for the witness).
-/
import Derived.Test.YtmejpjknofbffaaDoorAw7
import Derived.Test.YtmejpjknofbffaaDoorTell
import Derived.Test.YtmejpjknofbffaaDoorCards
import Derived.Test.YtmejpjknofbffaaDoorTie
import Derived.WalkKit
import Derived.ProofKit
import Derived.OpenShut
import Derived.Deep.DeepHandedRow
import Derived.Lib.LaidTab
import Derived.Lib.LaidIn
import Derived.Lib.LaidU8
import Derived.LaidHandle
namespace Go.Proofs.YtmejpjknofbffaaDoor
open Go.ChangeShapes Go.WideShapes Go.ChangeAt Go.RowKit Go.Lib
set_option linter.unusedVariables false
set_option linter.unusedSimpArgs false

theorem own : ownKnob Tryd.prog.godebug = none := by kernel_rfl
theorem et : Tryd.prog.globalNamed "errors.errorType" = some 0 := by kernel_rfl
theorem rt : (Tryd.prog.cutTypes.find? (·.1 == "internal/reflectlite.rtype")).map (·.2) = some 83 := by kernel_rfl
theorem nTypes : Tryd.prog.types.size = 165 := by kernel_rfl
theorem oneRow : ((List.range 165).filter fun t => Tryd.prog.rowNamed t [101, 114, 114, 111, 114]) = [30] := by kernel_rfl
theorem errHandle : typeHandle Tryd.prog 30 = .pointer (some ⟨7, 30, none⟩) := by kernel_rfl
/-- The variables that the rows list: with errors.errorType; without. -/
def laidA : List (String × DataW Unit) := [("math/bits.deBruijn32tab", Rows.laid_math_bits_deBruijn32tab), ("math/bits.deBruijn64tab", Rows.laid_math_bits_deBruijn64tab), ("internal/strconv.uint64pow10", Rows.laid_internal_strconv_uint64pow10), ("errors.errorType", Rows.laid_errors_errorType), ("strconv.ErrRange", Rows.laid_strconv_ErrRange), ("strconv.ErrSyntax", Rows.laid_strconv_ErrSyntax)]
def laidB : List (String × DataW Unit) := [("math/bits.deBruijn32tab", Rows.laid_math_bits_deBruijn32tab), ("math/bits.deBruijn64tab", Rows.laid_math_bits_deBruijn64tab), ("internal/strconv.uint64pow10", Rows.laid_internal_strconv_uint64pow10), ("strconv.ErrRange", Rows.laid_strconv_ErrRange), ("strconv.ErrSyntax", Rows.laid_strconv_ErrSyntax)]
/-- The numbers that a table's data tells. -/
def litNums : DataW Unit → List Int
  | .agg l => l.filterMap fun | .lit (.int _ z) => some z | _ => none
  | _ => []
def debTab : List Int := litNums Rows.laid_math_bits_deBruijn64tab
set_option maxRecDepth 100000 in
theorem deb_eq : Rows.laid_math_bits_deBruijn64tab = tabData (H := Unit) .u8 debTab := by kernel_rfl
theorem deb_15 : debTab.getD 15 0 = 4 := by kernel_rfl
theorem deb_named : Tryd.prog.globalNamed "math/bits.deBruijn64tab" = some 6 := by kernel_rfl
theorem g7_of {W : World} {l : List (String × DataW Unit)} (h : laidMet Tryd.prog l W) (hm : ("math/bits.deBruijn64tab", Rows.laid_math_bits_deBruijn64tab) ∈ l) : G7 W := by
  obtain ⟨g, t, cs, fuel, p, hg, hty, hvar, hd⟩ := Lib.laidMet.reads h (n := "math/bits.deBruijn64tab") (d := Rows.laid_math_bits_deBruijn64tab) hm
  rw [deb_eq] at hd
  obtain rfl := Option.some.inj (deb_named.symm.trans hg)
  obtain rfl := Option.some.inj ((show (Tryd.prog.globals[6]?).map (·.type) = some 138 by kernel_rfl).symm.trans hty)
  have htab : Lib.TabIs Tryd.prog W "math/bits.deBruijn64tab" .u8 debTab := by
    unfold TabIs
    rw [hvar, ← cells_of_tab Tryd.underlying138 Tryd.underlying5 (by kernel_rfl) (by kernel_rfl) hd]
  have hc := htab.cell deb_named 15 (by decide)
  have hD : Deb W := by
    unfold Deb
    rw [hc]
    rw [deb_15]
  exact ⟨hD, lt_of_cell hD⟩
theorem g7_of_A {W : World} (h : laidMetH Tryd.prog laidA W) : G7 W ∧ ErrVar W := by
  have h' : laidMet Tryd.prog laidB W ∧ handlesMet Tryd.prog [("errors.errorType", Rows.laid_errors_errorType)] W := h
  refine ⟨g7_of h'.1 (.tail _ (.head _)), ?_⟩
  obtain ⟨name, u, ty, e1, e2, e3, e4, e5⟩ := h'.2 _ (List.mem_singleton.2 rfl)
  have en : name = [101, 114, 114, 111, 114] := (Option.some.inj e1).symm
  subst en
  obtain rfl := Option.some.inj (rt.symm.trans e2)
  have hm : ty ∈ (List.range 165).filter fun t => Tryd.prog.rowNamed t [101, 114, 114, 111, 114] := List.mem_filter.2 ⟨List.mem_range.2 (by rw [← nTypes]; exact e3), e4⟩
  rw [oneRow] at hm
  obtain rfl := List.mem_singleton.1 hm
  rw [errHandle] at e5
  unfold ErrVar
  simpa using World.var?_cell et e5 0
theorem g7_of_B {W : World} (h : laidMetH Tryd.prog laidB W) : G7 W := by
  have h' : laidMet Tryd.prog laidB W := h
  exact g7_of h' (.tail _ (.head _))
/-- The cells that a table's data tells. -/
def litCells : DataW Unit → List Value
  | .agg l => l.filterMap fun | .lit (.int k z) => some (.int k z) | _ => none
  | _ => []
/-- The text behind an error's value. -/
def litText : DataW Unit → ByteArray
  | .iface _ (.ptr (.agg [.lit (.string l)])) => ⟨l.toArray⟩
  | _ => ⟨#[]⟩
/-- A world for the witness: the settled one, the listed variables holding what their initialisers lay. -/
noncomputable def laidWorld (os : Os) : World :=
  let w0 := World.holding Tryd.prog os ⟨#[], #[], []⟩
  let put (h : Array Obj) (g : Nat) (cs : Array Value) : Array Obj := h.modify g fun
    | .cells _ t frozen => .cells cs t frozen
    | o => o
  let h1 := put w0.heap 3 (litCells Rows.laid_internal_strconv_uint64pow10).toArray
  let h2 := put h1 5 (litCells Rows.laid_math_bits_deBruijn32tab).toArray
  let h3 := put h2 6 (litCells Rows.laid_math_bits_deBruijn64tab).toArray
  let h4 := put h3 0 #[.iface 83 (.agg #[.pointer (some ⟨7, 30, none⟩)])]
  let h5 := put h4 2 #[.iface 124 (.pointer (some ⟨w0.heap.size, 0, none⟩))]
  let h6 := put h5 1 #[.iface 124 (.pointer (some ⟨w0.heap.size + 1, 0, none⟩))]
  { w0 with heap := (h6.push (.cells #[.string (litText Rows.laid_strconv_ErrRange)] 126)).push (.cells #[.string (litText Rows.laid_strconv_ErrSyntax)] 126) }
set_option maxRecDepth 100000 in
theorem laid_metB (os : Os) (args : Array Value) : laidMetH Tryd.prog laidB ((laidWorld os).forCall (fun _ _ => 0) ⟨#[], args, []⟩).memory :=
  laidMetH_of_parts (laidMet_of_run' 8 (by kernel_rfl) (by kernel_rfl)) (by kernel_rfl)
set_option maxRecDepth 100000 in
theorem laid_metA (os : Os) (args : Array Value) : laidMetH Tryd.prog laidA ((laidWorld os).forCall (fun _ _ => 0) ⟨#[], args, []⟩).memory :=
  laidMetH_of_parts (laidMet_of_run' 8 (by kernel_rfl) (by kernel_rfl)) (by kernel_rfl)
end Go.Proofs.YtmejpjknofbffaaDoor
