/-
  What errors.As and errors.Is answer on a chain of faults that ends in a code: errors.As finds the code, or the first fault; errors.Is says whether the last code is the asked one. Conditions: the chain lies in memory, and the package variable errors.errorType holds the handle of the type error.
-/
import Derived.Test.YtmejpjknofbffaaDoorRows
import Derived.WalkKit
import Derived.LaidEql
import Derived.Stop.Asserts
import Derived.RowKitTokens
import Derived.Deep.LoopGhost
import Derived.Lib.Hide
namespace Go.Proofs.YtmejpjknofbffaaDoor
open Go.RowKit Go.Extern.Stop Go.Stop Go.Extern

/-- An error value: a code behind so many faults (place, field), outermost first. -/
def Chain (w : World) : List (Int × ByteArray) → Int → Value → Prop
  | [], c, v => v = .iface 52 (.int .i64 c)
  | (n, s) :: r, c, v => ∃ b why, v = .iface 55 (.pointer (some ⟨b, 0, none⟩)) ∧ w.cell? ⟨b, 0, none⟩ = some (.int .i64 n) ∧ w.cell? ⟨b, 1, none⟩ = some (.string s) ∧ w.cell? ⟨b, 2, none⟩ = some why ∧ Chain w r c why

theorem Chain.keep {w w' : World} (h : ∀ p : Addr, p.block < w.heap.size → w'.cell? p = w.cell? p) : ∀ {l c v}, Chain w l c v → Chain w' l c v
  | [], _, _, hv => hv
  | (n, s) :: r, c, v, hv => by
    obtain ⟨b, why, rfl, h0, h1, h2, hr⟩ := hv
    have hb : b < w.heap.size := by
      rcases Nat.lt_or_ge b w.heap.size with hlt | hge
      · exact hlt
      · simp [World.cell?, Array.getElem?_eq_none hge] at h0
    exact ⟨b, why, rfl, by rw [h _ hb]; exact h0, by rw [h _ hb]; exact h1, by rw [h _ hb]; exact h2, Chain.keep h hr⟩
theorem Chain.below {w w' : World} {l : List (Int × ByteArray)} {c : Int} {v : Value} (h : Chain w l c v) (hb : Below w.heap.size w w') : Chain w' l c v :=
  h.keep fun _ hp => hb.cell hp

theorem as_nil (t : Value) (w : World) : Calls Tryd.prog 19 #[.nilIface, t] w fun e w' => e = .returned (.bool false) ∧ w = w' := by
  go_enter Tryd.func19, Tryd.ntmps19
  go_wp2
  go_ret
  exact ⟨rfl, rfl⟩

/-! ### closed facts on the entries of internal/reflectlite -/
theorem rValueOfPC (t : Addr) (w : World) : (ReflectliteValue.unpack (.iface 54 (.pointer (some t)))).run Tryd.prog w
    = .ok (.agg #[.pointer (some ⟨7, 54, none⟩), .pointer (some ⟨w.heap.size, 0, none⟩), .int .u64 150]) (w.alloc (.cells #[.pointer (some t)] 54)) := by kernel_rfl
theorem rValueOfPF (t : Addr) (w : World) : (ReflectliteValue.unpack (.iface 56 (.pointer (some t)))).run Tryd.prog w
    = .ok (.agg #[.pointer (some ⟨7, 56, none⟩), .pointer (some ⟨w.heap.size, 0, none⟩), .int .u64 150]) (w.alloc (.cells #[.pointer (some t)] 56)) := by kernel_rfl
theorem rTypePC (a : Addr) (w : World) : (ReflectliteValue.methodAny (ReflectliteValue.valueError "reflectlite.Value.Type" 0) (fun t _ _ _ => ReflectliteType.toType t) #[.agg #[.pointer (some ⟨7, 54, none⟩), .pointer (some a), .int .u64 150]]).run Tryd.prog w
    = .ok (.iface 83 (.agg #[.pointer (some ⟨7, 54, none⟩)])) w := by kernel_rfl
theorem rTypePF (a : Addr) (w : World) : (ReflectliteValue.methodAny (ReflectliteValue.valueError "reflectlite.Value.Type" 0) (fun t _ _ _ => ReflectliteType.toType t) #[.agg #[.pointer (some ⟨7, 56, none⟩), .pointer (some a), .int .u64 150]]).run Tryd.prog w
    = .ok (.iface 83 (.agg #[.pointer (some ⟨7, 56, none⟩)])) w := by kernel_rfl
theorem rMethKind (n : Nat) (h : Value) (w : World) : (Go.method (n + 1) 83 (.agg #[h]) "Kind").run Tryd.prog w = .ok (92, h) w := by kernel_rfl
theorem rMethElem (n : Nat) (h : Value) (w : World) : (Go.method (n + 1) 83 (.agg #[h]) "Elem").run Tryd.prog w = .ok (104, .agg #[h]) w := by kernel_rfl
theorem rMethImpl (n : Nat) (h : Value) (w : World) : (Go.method (n + 1) 83 (.agg #[h]) "Implements").run Tryd.prog w = .ok (105, .agg #[h]) w := by kernel_rfl
theorem rMethAssign (n : Nat) (h : Value) (w : World) : (Go.method (n + 1) 83 (.agg #[h]) "AssignableTo").run Tryd.prog w = .ok (102, .agg #[h]) w := by kernel_rfl
theorem rMethComp (n : Nat) (h : Value) (w : World) : (Go.method (n + 1) 83 (.agg #[h]) "Comparable").run Tryd.prog w = .ok (103, .agg #[h]) w := by kernel_rfl
theorem rMethUnwrap (n : Nat) (a : Addr) (w : World) : (Go.method (n + 1) 55 (.pointer (some a)) "Unwrap").run Tryd.prog w = .ok (97, .pointer (some a)) w := by kernel_rfl
theorem rKindPC (w : World) : ((ReflectliteType.abiMethod fun t => (fun a : Nat => Value.int IntKind.u8 (a : Int)) <$> Rtype.kind t) #[.pointer (some ⟨7, 54, none⟩)]).run Tryd.prog w = .ok (.int .u8 22) w := by kernel_rfl
theorem rKindPF (w : World) : ((ReflectliteType.abiMethod fun t => (fun a : Nat => Value.int IntKind.u8 (a : Int)) <$> Rtype.kind t) #[.pointer (some ⟨7, 56, none⟩)]).run Tryd.prog w = .ok (.int .u8 22) w := by kernel_rfl
theorem rKindC (w : World) : ((ReflectliteType.abiMethod fun t => (fun a : Nat => Value.int IntKind.u8 (a : Int)) <$> Rtype.kind t) #[.pointer (some ⟨7, 52, none⟩)]).run Tryd.prog w = .ok (.int .u8 2) w := by kernel_rfl
theorem rKindF (w : World) : ((ReflectliteType.abiMethod fun t => (fun a : Nat => Value.int IntKind.u8 (a : Int)) <$> Rtype.kind t) #[.pointer (some ⟨7, 55, none⟩)]).run Tryd.prog w = .ok (.int .u8 22) w := by kernel_rfl
theorem rElemPC (w : World) : (ReflectliteType.method ReflectliteType.elem #[.agg #[.pointer (some ⟨7, 54, none⟩)]]).run Tryd.prog w = .ok (.iface 83 (.agg #[.pointer (some ⟨7, 52, none⟩)])) w := by kernel_rfl
theorem rElemPF (w : World) : (ReflectliteType.method ReflectliteType.elem #[.agg #[.pointer (some ⟨7, 56, none⟩)]]).run Tryd.prog w = .ok (.iface 83 (.agg #[.pointer (some ⟨7, 55, none⟩)])) w := by kernel_rfl
theorem rImplC (w : World) : (ReflectliteType.relation "Implements" ReflectliteType.implements_ #[.agg #[.pointer (some ⟨7, 52, none⟩)], .iface 83 (.agg #[.pointer (some ⟨7, 30, none⟩)])]).run Tryd.prog w = .ok (.bool true) w := by kernel_rfl
theorem rImplF (w : World) : (ReflectliteType.relation "Implements" ReflectliteType.implements_ #[.agg #[.pointer (some ⟨7, 55, none⟩)], .iface 83 (.agg #[.pointer (some ⟨7, 30, none⟩)])]).run Tryd.prog w = .ok (.bool true) w := by kernel_rfl
theorem rTypeOfC (v : Value) (w : World) : (ReflectliteType.typeOf #[.iface 52 v]).run Tryd.prog w = .ok (.iface 83 (.agg #[.pointer (some ⟨7, 52, none⟩)])) w := by kernel_rfl
theorem rTypeOfF (v : Value) (w : World) : (ReflectliteType.typeOf #[.iface 55 v]).run Tryd.prog w = .ok (.iface 83 (.agg #[.pointer (some ⟨7, 55, none⟩)])) w := by kernel_rfl
theorem rAssCC (w : World) : (ReflectliteType.relation "AssignableTo" ReflectliteType.assignableTo #[.agg #[.pointer (some ⟨7, 52, none⟩)], .iface 83 (.agg #[.pointer (some ⟨7, 52, none⟩)])]).run Tryd.prog w = .ok (.bool true) w := by kernel_rfl
theorem rAssFF (w : World) : (ReflectliteType.relation "AssignableTo" ReflectliteType.assignableTo #[.agg #[.pointer (some ⟨7, 55, none⟩)], .iface 83 (.agg #[.pointer (some ⟨7, 55, none⟩)])]).run Tryd.prog w = .ok (.bool true) w := by kernel_rfl
theorem rAssFC (w : World) : (ReflectliteType.relation "AssignableTo" ReflectliteType.assignableTo #[.agg #[.pointer (some ⟨7, 55, none⟩)], .iface 83 (.agg #[.pointer (some ⟨7, 52, none⟩)])]).run Tryd.prog w = .ok (.bool false) w := by kernel_rfl
theorem rAssCF (w : World) : (ReflectliteType.relation "AssignableTo" ReflectliteType.assignableTo #[.agg #[.pointer (some ⟨7, 52, none⟩)], .iface 83 (.agg #[.pointer (some ⟨7, 55, none⟩)])]).run Tryd.prog w = .ok (.bool false) w := by kernel_rfl
theorem rValueOfC (c : Int) (w : World) : (ReflectliteValue.unpack (.iface 52 (.int .i64 c))).run Tryd.prog w
    = .ok (.agg #[.pointer (some ⟨7, 52, none⟩), .pointer (some ⟨w.heap.size, 0, none⟩), .int .u64 130]) (w.alloc (.cells #[.int .i64 c] 52)) := by kernel_rfl
theorem rValueOfF (e : Addr) (w : World) : (ReflectliteValue.unpack (.iface 55 (.pointer (some e)))).run Tryd.prog w
    = .ok (.agg #[.pointer (some ⟨7, 55, none⟩), .pointer (some ⟨w.heap.size, 0, none⟩), .int .u64 150]) (w.alloc (.cells #[.pointer (some e)] 55)) := by kernel_rfl
theorem rElemOfPC (w : World) : (Rtype.elem? 54).run Tryd.prog w = .ok (some 52) w := by kernel_rfl
theorem rElemOfPF (w : World) : (Rtype.elem? 56).run Tryd.prog w = .ok (some 55) w := by kernel_rfl
theorem rMkC (p : Addr) (w : World) : (ReflectliteValue.mk 52 p ReflectliteValue.flagAddr).run Tryd.prog w = .ok (.agg #[.pointer (some ⟨7, 52, none⟩), .pointer (some p), .int .u64 386]) w := by kernel_rfl
theorem rMkF (p : Addr) (w : World) : (ReflectliteValue.mk 55 p ReflectliteValue.flagAddr).run Tryd.prog w = .ok (.agg #[.pointer (some ⟨7, 55, none⟩), .pointer (some p), .int .u64 406]) w := by kernel_rfl
theorem rPartsPC (a : Addr) (w : World) : (ReflectliteValue.parts (.agg #[.pointer (some ⟨7, 54, none⟩), .pointer (some a), .int .u64 150])).run Tryd.prog w = .ok (some (54, a, 150)) w := by kernel_rfl
theorem rPartsPF (a : Addr) (w : World) : (ReflectliteValue.parts (.agg #[.pointer (some ⟨7, 56, none⟩), .pointer (some a), .int .u64 150])).run Tryd.prog w = .ok (some (56, a, 150)) w := by kernel_rfl

/-! ### the entries that read or write memory -/
theorem rlm (z : Sem Value) (f : TypeId → Addr → Nat → Nat → Sem Value) (v : Value) : ReflectliteValue.method z f #[v] = (ReflectliteValue.parts v >>= fun o => o.elim z fun p => f p.1 p.2.1 p.2.2 (p.2.2 % 32)) := by
  have h : ∀ o : Option (TypeId × Addr × Nat), (match o with | none => z | some (t, a, fl) => f t a fl (fl % 32)) = o.elim z fun p => f p.1 p.2.1 p.2.2 (p.2.2 % 32) := fun o => by cases o <;> rfl
  simp only [← h]
  rfl
theorem rlsC (ta b : Addr) (W : World) : (ReflectliteValue.set #[.agg #[.pointer (some ⟨7, 52, none⟩), .pointer (some ta), .int .u64 386], .agg #[.pointer (some ⟨7, 52, none⟩), .pointer (some b), .int .u64 130]]).run Tryd.prog W
    = (loadVar 52 b >>= fun v => storeVar 52 ta v >>= fun _ => pure (.tuple #[]) : Sem Value).run Tryd.prog W := by kernel_rfl
theorem rlsF (ta b : Addr) (W : World) : (ReflectliteValue.set #[.agg #[.pointer (some ⟨7, 55, none⟩), .pointer (some ta), .int .u64 406], .agg #[.pointer (some ⟨7, 55, none⟩), .pointer (some b), .int .u64 150]]).run Tryd.prog W
    = (loadVar 55 b >>= fun v => storeVar 55 ta v >>= fun _ => pure (.tuple #[]) : Sem Value).run Tryd.prog W := by kernel_rfl
theorem rIsNilPC (a p : Addr) (W : World) (ha : W.cell? a = some (.pointer (some p))) :
    (ReflectliteValue.method (ReflectliteValue.valueError "reflectlite.Value.IsNil" 0) ReflectliteValue.isNil #[.agg #[.pointer (some ⟨7, 54, none⟩), .pointer (some a), .int .u64 150]]).run Tryd.prog W = .ok (.bool false) W := by
  rw [rlm]
  simp only [Sem.run_bind, rPartsPC, Result.andThen]
  simp [ReflectliteValue.isNil, loadVar, isAgg, underlying, Tryd.underlying54, ha, Result.andThen]
theorem rIsNilPF (a p : Addr) (W : World) (ha : W.cell? a = some (.pointer (some p))) :
    (ReflectliteValue.method (ReflectliteValue.valueError "reflectlite.Value.IsNil" 0) ReflectliteValue.isNil #[.agg #[.pointer (some ⟨7, 56, none⟩), .pointer (some a), .int .u64 150]]).run Tryd.prog W = .ok (.bool false) W := by
  rw [rlm]
  simp only [Sem.run_bind, rPartsPF, Result.andThen]
  simp [ReflectliteValue.isNil, loadVar, isAgg, underlying, Tryd.underlying56, ha, Result.andThen]
theorem rElemVPC (a p : Addr) (W : World) (ha : W.cell? a = some (.pointer (some p))) :
    (ReflectliteValue.method (ReflectliteValue.valueError "reflectlite.Value.Elem" 0) ReflectliteValue.elem #[.agg #[.pointer (some ⟨7, 54, none⟩), .pointer (some a), .int .u64 150]]).run Tryd.prog W
      = .ok (.agg #[.pointer (some ⟨7, 52, none⟩), .pointer (some p), .int .u64 386]) W := by
  rw [rlm]
  simp only [Sem.run_bind, rPartsPC, Result.andThen]
  simp [ReflectliteValue.elem, loadVar, isAgg, underlying, Tryd.underlying54, ha, Result.andThen, rElemOfPC, rMkC]
theorem rElemVPF (a p : Addr) (W : World) (ha : W.cell? a = some (.pointer (some p))) :
    (ReflectliteValue.method (ReflectliteValue.valueError "reflectlite.Value.Elem" 0) ReflectliteValue.elem #[.agg #[.pointer (some ⟨7, 56, none⟩), .pointer (some a), .int .u64 150]]).run Tryd.prog W
      = .ok (.agg #[.pointer (some ⟨7, 55, none⟩), .pointer (some p), .int .u64 406]) W := by
  rw [rlm]
  simp only [Sem.run_bind, rPartsPF, Result.andThen]
  simp [ReflectliteValue.elem, loadVar, isAgg, underlying, Tryd.underlying56, ha, Result.andThen, rElemOfPF, rMkF]
theorem rSetC (ta b : Addr) (c : Int) (old : Value) (W : World) (hb : W.cell? b = some (.int .i64 c)) (ht : W.cell? ta = some old) (hf : W.frozen? ta = false) :
    (ReflectliteValue.set #[.agg #[.pointer (some ⟨7, 52, none⟩), .pointer (some ta), .int .u64 386], .agg #[.pointer (some ⟨7, 52, none⟩), .pointer (some b), .int .u64 130]]).run Tryd.prog W
      = .ok (.tuple #[]) (W.setCell ta (.int .i64 c)) := by
  rw [rlsC]
  simp [loadVar, isAgg, underlying, Tryd.underlying52, hb, Result.andThen, storeVar, Value.cells, storeCells, Addr.add]
  rw [run_store Tryd.prog W ta _ _ (by rfl)]
  simp [ht, hf]
theorem rSetF (ta b e : Addr) (old : Value) (W : World) (hb : W.cell? b = some (.pointer (some e))) (ht : W.cell? ta = some old) (hf : W.frozen? ta = false) :
    (ReflectliteValue.set #[.agg #[.pointer (some ⟨7, 55, none⟩), .pointer (some ta), .int .u64 406], .agg #[.pointer (some ⟨7, 55, none⟩), .pointer (some b), .int .u64 150]]).run Tryd.prog W
      = .ok (.tuple #[]) (W.setCell ta (.pointer (some e))) := by
  rw [rlsF]
  simp [loadVar, isAgg, underlying, Tryd.underlying55, hb, Result.andThen, storeVar, Value.cells, storeCells, Addr.add]
  rw [run_store Tryd.prog W ta _ _ (by rfl)]
  simp [ht, hf]

/-! ### type assertions -/
theorem aNoAsC (v : Value) (xT : TypeId) (w : World) : (Instr.typeAssert (.iface 52 v) xT 88 true).run Tryd.prog w = .ok (.tuple #[.nilIface, .bool false]) w := run_typeAssert_lacksB Tryd.underlying88 (by kernel_rfl) (by kernel_rfl) v xT w
theorem aNoAsF (v : Value) (xT : TypeId) (w : World) : (Instr.typeAssert (.iface 55 v) xT 88 true).run Tryd.prog w = .ok (.tuple #[.nilIface, .bool false]) w := run_typeAssert_lacksB Tryd.underlying88 (by kernel_rfl) (by kernel_rfl) v xT w
theorem aNoUnC (v : Value) (xT : TypeId) (w : World) : (Instr.typeAssert (.iface 52 v) xT 91 true).run Tryd.prog w = .ok (.tuple #[.nilIface, .bool false]) w := run_typeAssert_lacksB Tryd.underlying91 (by kernel_rfl) (by kernel_rfl) v xT w
theorem aNoUsC (v : Value) (xT : TypeId) (w : World) : (Instr.typeAssert (.iface 52 v) xT 92 true).run Tryd.prog w = .ok (.tuple #[.nilIface, .bool false]) w := run_typeAssert_lacksB Tryd.underlying92 (by kernel_rfl) (by kernel_rfl) v xT w
theorem aUnF (v : Value) (xT : TypeId) (w : World) : (Instr.typeAssert (.iface 55 v) xT 91 true).run Tryd.prog w = .ok (.tuple #[.iface 55 v, .bool true]) w := run_typeAssert_hasB Tryd.underlying91 (by kernel_rfl) v xT w
end Go.Proofs.YtmejpjknofbffaaDoor
