/-
  errors.Is of a code, asked for the same code: true.
-/
import Derived.Test.YthkcimojemofgaaDoorProg
import Derived.Test.YthkcimojemofgaaDoorBkL
import Derived.Deep.LoopGhost
import Derived.KernelRfl
import Derived.LaidEql
import Derived.Stop.Asserts
import Derived.RowKitTokens
import Derived.Lib.IfaceEq
namespace Go.Proofs.YthkcimojemofgaaDoor
open Go.RowKit Go.Lib Go.Extern.Stop Go.Stop Go.Extern
set_option linter.unusedVariables false
set_option linter.unusedSimpArgs false

theorem sMethComp (n : Nat) (h : Value) (w : World) : (Go.method (n + 1) 101 (.agg #[h]) "Comparable").run Tryd.prog w = .ok (116, .agg #[h]) w := by kernel_rfl
theorem sTypeOfC (v : Value) (w : World) : (ReflectliteType.typeOf #[.iface 55 v]).run Tryd.prog w = .ok (.iface 101 (.agg #[.pointer (some ⟨7, 55, none⟩)])) w := by kernel_rfl
theorem sCompC (w : World) : (ReflectliteType.method (fun t => do Rtype.noPackHeld "Comparable" t; (fun a => Value.bool a.comparable) <$> typeInfo t) #[.agg #[.pointer (some ⟨7, 55, none⟩)]]).run Tryd.prog w = .ok (.bool true) w := by kernel_rfl
theorem sCmpC : (Tryd.prog.info? 55).map (·.comparable) = some true := by kernel_rfl
set_option maxRecDepth 100000 in
set_option maxHeartbeats 4000000 in
theorem is_self_in (c : Int) (w : World) :
    Calls Tryd.prog 39 #[.iface 55 (.int .i64 c), .iface 55 (.int .i64 c), .bool true] w fun e w' => e = .returned (.bool true) ∧ w = w' := by
  have hq := Lib.run_eql_iface_int (k := .i64) w c c Tryd.underlying30 sCmpC Tryd.underlying55
  rw [show (c == c) = true by simp] at hq
  go_enter Tryd.func39, Tryd.ntmps39
  go_wp2
  go_loopg [0] 1 (fun k e wr => k = 1 ∧ e = .iface 55 (.int .i64 c) ∧ wr = w)
  case atStart => exact ⟨rfl, rfl, rfl⟩
  case round =>
    obtain ⟨-, rfl, rfl⟩ := hrel
    go_wp2
    go_ret
    exact ⟨rfl, rfl⟩
set_option maxRecDepth 100000 in
set_option maxHeartbeats 4000000 in
theorem is_self (c : Int) (w : World) :
    Calls Tryd.prog 22 #[.iface 55 (.int .i64 c), .iface 55 (.int .i64 c)] w fun e w' => e = .returned (.bool true) ∧ w = w' := by
  have HI := Lib.hid (is_self_in c w)
  have h2 := @run_callFunc_extern Tryd.prog 38 _ ReflectliteType.typeOf Tryd.func38 (by kernel_rfl) (by kernel_rfl) (by kernel_rfl) (by kernel_rfl)
  have h3 := @run_callFunc_extern Tryd.prog 116 _ (ReflectliteType.method fun t => do Rtype.noPackHeld "Comparable" t; pure (.bool (← typeInfo t).comparable)) Tryd.func116 (by kernel_rfl) (by kernel_rfl) (by kernel_rfl) (by kernel_rfl)
  have tC := sTypeOfC
  have mC := sMethComp
  have cC := sCompC
  go_enter Tryd.func22, Tryd.ntmps22
  go_wp2_with (go_at_call 39; refine (HI.out).mono ?_; rintro e w' ⟨rfl, rfl⟩)
  go_ret
  exact ⟨rfl, rfl⟩
end Go.Proofs.YthkcimojemofgaaDoor
