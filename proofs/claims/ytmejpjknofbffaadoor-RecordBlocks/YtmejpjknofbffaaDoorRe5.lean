/-
  bytes.Clone, walked.
-/
import Derived.Test.YtmejpjknofbffaaDoorProg
import Derived.Test.YtmejpjknofbffaaDoorBkP
import Derived.Deep.DeepMust
import Derived.Deep.RegionLaw
import Derived.Deep.QuietTactic
import Derived.Lib.LazyBuf
namespace Go.Proofs.YtmejpjknofbffaaDoor
open Go.RowKit Go.Lib
set_option linter.unusedVariables false
set_option linter.unusedSimpArgs false

/-- A slice of bytes in memory that lies above what was there. -/
def NewBs (w w' : World) (x : List UInt8) (v : Value) : Prop := ∃ A c, v = .slice A x.length c ∧ Bt w' A x ∧ x.length ≤ c ∧ (∀ ad, A = some ad → ∃ g, ad = ⟨g, 0, none⟩ ∧ w.heap.size ≤ g ∧ g < w'.heap.size) ∧ (A = none → x.length = 0 ∧ c = 0)
theorem ByteRow.bt {w w' : World} {x : List UInt8} {v : Value} (h : ByteRow w v x w') : NewBs w w' x v ∧ Below w.heap.size w w' := by
  obtain ⟨g, c, rfl, h1, h2, h3, h4, -, h5⟩ := h
  exact ⟨⟨_, c, rfl, fun _ => ⟨_, rfl, fun j v hv => by rw [Addr.add_mid]; exact h4 j v hv⟩, h3, fun ad e => by cases e; exact ⟨g, rfl, h1, h2⟩, fun e => by cases e⟩, h5⟩
theorem build_noneB (w : World) : (Instr.buildSlice 28 0 #[]).run Tryd.prog w = .ok (.slice (some ⟨w.heap.size, 0, none⟩) 0 0) (w.alloc (.cells #[] 5)) := by kernel_rfl
theorem eq_nil0 (w : World) : Sem.run Tryd.prog (binOp BinOp.eql 28 (.slice none 0 0) (.slice none 0 0)) w = .ok (.bool true) w := run_eql_slice_nil w 28 5 none 0 0 (by kernel_rfl)
theorem eq_nil1 (w : World) (ad : Addr) (l c : Nat) : Sem.run Tryd.prog (binOp BinOp.eql 28 (.slice (some ad) l c) (.slice none 0 0)) w = .ok (.bool false) w := run_eql_slice_nil w 28 5 (some ad) l c (by kernel_rfl)
theorem append_exec {P : Program} {w w' : World} {x y : Operand} {tx ty T : TypeId} {d : Option Nat} {ps : String} {af : Array Edge} {g : Option (Nat × Bool)} (a : Act) {v1 v2 v : Value} (h1 : a.eval x = v1) (h2 : a.eval y = v2) (h : (Builtin.append_ #[tx, ty] T #[v1, v2]).run P w = .ok v w') :
    (execOp a.eval ⟨d, .call { callee := .builtin .append, args := #[x, y], argTypes := #[tx, ty] }, T, ps, af, g⟩).run P w = .ok (.value v) w' := by
  simp [execOp, resolve, invoke, builtin, h1, h2, h, Result.andThen]
set_option maxHeartbeats 2000000 in
set_option maxRecDepth 100000 in
theorem bclone_any (w : World) (A : Option Addr) (x : List UInt8) (c : Nat) (hB : Bt w A x) (hx : x.length ≤ 65536) (hn : A = none → x.length = 0 ∧ c = 0) :
    Calls Tryd.prog 23 #[.slice A x.length c] w fun e w' => ∃ v, e = .returned v ∧ NewBs w w' x v ∧ Below w.heap.size w w' := by
  cases A with
  | none =>
    obtain ⟨h0, rfl⟩ := hn rfl
    have hx0 : x = [] := List.eq_nil_of_length_eq_zero h0
    subst hx0
    have hq := eq_nil0 w
    clear hB hn h0
    go_enter Tryd.func23, Tryd.ntmps23
    go_wp2_with fail
    go_ret
    exact ⟨_, rfl, ⟨none, 0, rfl, fun h => absurd h (by simp), Nat.le_refl _, (fun ad e => by cases e), fun _ => ⟨rfl, rfl⟩⟩, Below.refl _ _⟩
  | some ad =>
    obtain ⟨v', w', hr, hR⟩ := app_copy c hB hx 28
    have HR := Lib.hid hR
    have hbn := build_noneB w
    have hq := fun l c => eq_nil1 w ad l c
    clear hn hR
    obtain ⟨l, hl⟩ : ∃ l, x.length = l := ⟨_, rfl⟩
    rw [hl] at hr ⊢
    go_enter Tryd.func23, Tryd.ntmps23
    go_wp2_with ((with_reducible refine at_slot 7 ?_); refine wpList_runH rfl v' w' ?_ ?_; exact append_exec _ rfl rfl hr; intro W2 HW2)
    go_ret
    have := HR.out.bt
    rw [HW2.out]
    exact ⟨_, rfl, this.1, this.2⟩
end Go.Proofs.YtmejpjknofbffaaDoor
