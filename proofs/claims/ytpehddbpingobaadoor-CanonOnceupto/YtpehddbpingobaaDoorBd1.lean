/-
  A canonical text that grows (a strings.Builder that lies in a struct of its own): the library's look that it wasn't copied, walked.
-/
import Derived.Test.YtpehddbpingobaaDoorProg
import Derived.WalkKit
import Derived.Lib.Hide
import Derived.Below
import Derived.Lib.Builder
import Derived.Lib.UnsafeStr
import Derived.Lib.AppendStr
import Derived.Lib.OthersKept
import Derived.Lib.OwnKind
import Derived.KernelRfl
namespace Go.Proofs.YtpehddbpingobaaDoor
open Go.RowKit Go.Lib
set_option linter.unusedVariables false
set_option linter.unusedSimpArgs false

/-- The text that lies in block b, one of the call's own (from B on), and holds these bytes. -/
def Txt (B b : Nat) (l : List UInt8) (w : World) : Prop := Lib.IsBuilder 58 5 B b (Lib.byteCells l) w
def TxtU (B b : Nat) (l : List UInt8) (w : World) : Prop := Lib.BuilderAt 58 5 B b (.pointer (some ⟨b, 0, none⟩)) (Lib.byteCells l) w
theorem TxtU.txt {B b : Nat} {l : List UInt8} {w : World} (h : TxtU B b l w) : Txt B b l w := .inr h
/-- What is kept by all that grows the text in block b: whatever lies below B, and all other blocks that are no rows of bytes. -/
def Fr (B b : Nat) (w w' : World) : Prop := Below B w w' ∧ Lib.OthersKept 5 (some b) w w'
theorem Fr.refl (B b : Nat) (w : World) : Fr B b w w := ⟨Below.refl _ _, Lib.OthersKept.refl _ _ _⟩
theorem Fr.trans {B b : Nat} {w w1 w2 : World} (h : Fr B b w w1) (k : Fr B b w1 w2) : Fr B b w w2 := ⟨h.1.trans k.1, h.2.trans k.2⟩
theorem Fr.of_below {B b : Nat} {w w' : World} (hb : Below w.heap.size w w') (hB : B ≤ w.heap.size) : Fr B b w w' := by
  refine ⟨hb.mono hB, fun k o hk _ _ => ?_⟩
  rw [hb.block k (Array.getElem?_eq_some_iff.1 hk).1]
  exact hk
theorem Fr.block {B b : Nat} {w w' : World} (h : Fr B b w w') {g : Nat} {T : TypeId} {cs : Array Value} (hg : w.heap[g]? = some (.cells cs T (0, 0))) (hb : g ≠ b) (hT : T ≠ 5) : w'.heap[g]? = some (.cells cs T (0, 0)) :=
  h.2 g _ hg (fun e => hb (Option.some.inj e)) (fun c fz e => hT (by injection e))
theorem bd_info : ∃ j, Tryd.prog.info? 56 = some j ∧ j.size ≠ 0 := by
  have h : ((Tryd.prog.info? 56).map fun j => j.size) = some 2 := by kernel_rfl
  obtain ⟨j, hj, hs⟩ := Option.map_eq_some_iff.1 h
  exact ⟨j, hj, by rw [hs]; decide⟩
theorem bd_lies : liesAt Tryd.prog Tryd.prog.depth 58 (2 / Tryd.prog.cellsOf 58) 0 56 1 = true := by kernel_rfl

set_option maxHeartbeats 1000000 in
set_option maxRecDepth 100000 in
theorem copyCheck_any (B b : Nat) (l : List UInt8) (w : World) (h : Txt B b l w) :
    Calls Tryd.prog 49 #[.pointer (some ⟨b, 0, none⟩)] w fun e w' => e = .returned (.tuple #[]) ∧ TxtU B b l w' ∧ Fr B b w w' := by
  rcases h with h | h
  · obtain ⟨j, hj, hjs⟩ := bd_info
    have hto := Lib.run_to_unsafe w ⟨b, 0, none⟩ Tryd.underlying53 Tryd.underlying119 hj hjs h.shape (Nat.zero_lt_succ 1)
    have hfrom := Lib.run_from_unsafe w ⟨b, 0, none⟩ Tryd.underlying119 Tryd.underlying53 hj h.shape bd_lies
    have c0 := h.cell0
    have fz := h.frozen0
    have HE := Lib.hid (And.intro (Lib.BuilderAt.used h (.pointer (some ⟨b, 0, none⟩))) (And.intro ((Below.refl B w).setCell (p := ⟨b, 0, none⟩) h.1 (.pointer (some ⟨b, 0, none⟩))) ((Lib.OthersKept.refl 5 (some b) w).setCell ⟨b, 0, none⟩ rfl (.pointer (some ⟨b, 0, none⟩)))))
    have HT := Lib.hid hto
    have HF := Lib.hid hfrom
    clear h hto hfrom
    go_enter Tryd.func49, Tryd.ntmps49
    go_wp2_with fail
    rw [HT.out]
    simp only [Result.andThen]
    rw [Oper.upon_value]
    go_wp2_with fail
    rw [run_callFunc_extern Tryd.func71 (by kernel_rfl) (by kernel_rfl) (by kernel_rfl) (e := Extern.AbiNoEscape.same) (by kernel_rfl), Lib.run_noEscape]
    simp only [Result.andThen]
    rw [Oper.upon_value]
    go_wp2_with fail
    rw [HF.out]
    simp only [Result.andThen]
    rw [Oper.upon_value]
    go_wp2_with fail
    exact bodyPost_end (v := .tuple #[]) (by simp [results, Tryd.results49]) rfl ⟨rfl, HE.out.1, HE.out.2⟩
  · obtain ⟨j, hj, hjs⟩ := bd_info
    have c0 := h.cell0
    have HE := Lib.hid h
    have HQ := Lib.hid (Lib.run_neq_ptr_same (P := Tryd.prog) w ⟨b, 0, none⟩ Tryd.underlying53 hj)
    clear h hj hjs
    go_enter Tryd.func49, Tryd.ntmps49
    go_wp2_with fail
    rw [HQ.out]
    go_wp2_with fail
    exact bodyPost_end (v := .tuple #[]) (by simp [results, Tryd.results49]) rfl ⟨rfl, HE.out, Fr.refl _ _ _⟩
end Go.Proofs.YtpehddbpingobaaDoor
