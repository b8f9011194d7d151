/-
  Names: the program's sets of bytes (closures over a set), and whether a text is made of one, walked.
-/
import Derived.Test.YtakibkbmikkpdaaDoorIdP1
namespace Go.Proofs.YtakibkbmikkpdaaDoor
open Go.RowKit Go.Lib
set_option linter.unusedVariables false
set_option linter.unusedSimpArgs false

theorem hasB_index (l : ByteArray) (c : UInt8) : hasB l c = decide (0 ≤ indexByte l.data.toList c) := contains_iff_indexByte l.data.toList c
set_option maxHeartbeats 1000000 in
set_option maxRecDepth 100000 in
theorem fits_any (l : ByteArray) (c : UInt8) (g : Nat) (W : World) (hc : W.cell? ⟨g, 0, none⟩ = some (.string l)) :
    Calls Tryd.prog 39 #[.int .u8 c.toNat, .pointer (some ⟨g, 0, none⟩)] W fun e w' => e = .returned (.bool (hasB l c)) ∧ W = w' := by
  have H := Lib.hid (indexByte_any l c W)
  obtain ⟨R, hR⟩ : ∃ R, hasB l c = R := ⟨_, rfl⟩
  obtain ⟨i, hi⟩ : ∃ i, indexByte l.data.toList c = i := ⟨_, rfl⟩
  rw [hi] at H
  have hd : decide (0 ≤ i) = R := by rw [← hR, hasB_index, hi]
  rw [hR]
  clear hR hi
  go_enter Tryd.func39, Tryd.ntmps39
  go_wp2_with fail
  refine H.out.mono ?_
  rintro e w' ⟨rfl, rfl⟩
  go_wp2_with fail
  go_ret
  exact ⟨rfl, rfl⟩
set_option maxHeartbeats 1000000 in
set_option maxRecDepth 100000 in
theorem among_any (l : ByteArray) (W : World) :
    Calls Tryd.prog 31 #[.string l] W fun e w' => e = .returned (.func (.func 39) #[] #[.pointer (some ⟨W.heap.size, 0, none⟩)]) ∧ W.alloc (.cells #[.string l] 9) = w' := by
  have hmf : ∀ (fn : Fn) (first cap : Array Value) (w : World), (Instr.makeFunc fn first cap).run Tryd.prog w = .ok (.func fn first cap) w := fun _ _ _ _ => rfl
  go_enter Tryd.func31, Tryd.ntmps31
  go_wp2_with fail
  go_ret
  exact ⟨rfl, rfl⟩
end Go.Proofs.YtakibkbmikkpdaaDoor
