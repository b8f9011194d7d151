/-
  Disks: the program's New and Crash, walked.
-/
import Derived.Test.YtnbagklgagomfaaBk3
import Derived.WalkSpells
namespace Go.Proofs.Ytnbagklgagomfaa
open Go.RowKit Go.Lib
set_option linter.unusedVariables false
set_option linter.unusedSimpArgs false

theorem info_block : (Try.prog.info? 59).map (fun i => (i.zero, i.size, i.bytes)) = some (some zero64, 64, 64) := by kernel_rfl
def zeros : List UInt8 := List.replicate 64 0
/-- A new disk's state. -/
def newSt (n : Nat) : St := { n := n, B := fun _ => zeros, st := 0, fu := false, lf := 0, de := false, ra := 0, rf := zeros }
theorem build_disk (b n c : Nat) (w : World) : (Instr.build 61 #[(0, .slice (some ⟨b, 0, none⟩) n c)]).run Try.prog w = .ok (.agg (dcs (newSt n) b c).toArray) w := by kernel_rfl
theorem made_get (N j : Nat) (h : j < N) : (madeCells zero64.cells N)[j]? = some (.int .u8 0) := by
  have hz : zero64.cells = Array.replicate 64 (.int .u8 0) := by kernel_rfl
  rw [hz]
  unfold madeCells
  have h2 : j % 64 < 64 := Nat.mod_lt _ (by decide)
  simp [h, h2]
theorem bcs_zeros (j : Nat) (v : Value) (h : (bcs zeros)[j]? = some v) : v = .int .u8 0 ∧ j < 64 := by
  rw [bcs_get] at h
  unfold zeros at h
  rw [List.getElem?_replicate] at h
  split at h
  · simp at h
    exact ⟨h.symm, by assumption⟩
  · simp at h
/-- A new disk in memory. -/
theorem new_dk {w W1 W2 : World} {n : Nat} (h1 : 0 < n) (h2 : n ≤ 4096) (e1 : W1 = w.alloc (.cells (madeCells zero64.cells (n * 64)) 59)) (e2 : W2 = W1.alloc (.cells (dcs (newSt n) w.heap.size n).toArray 61)) :
    Dk W2 (w.heap.size + 1) w.heap.size (newSt n) ∧ Below w.heap.size w W2 := by
  have s1 : W1.heap.size = w.heap.size + 1 := by rw [e1, new_size]
  have b1 : Below w.heap.size w W1 := by rw [e1]; exact new_below w _
  have b2 : Below W1.heap.size W1 W2 := by rw [e2]; exact new_below W1 _
  have hB : HdB W1 w.heap.size n (newSt n).B := by
    refine ⟨fun i hi => ⟨fun j v hv => ?_, by simp [newSt, zeros]⟩, fun j hj => by rw [e1]; simp⟩
    obtain ⟨rfl, hj⟩ := bcs_zeros j v hv
    have := new_range w (madeCells zero64.cells (n * 64)) 59
    rw [e1]
    have h3 := this (i * 64 + j) (.int .u8 0) (by rw [Array.getElem?_toList]; exact made_get _ _ (by omega))
    rwa [Nat.zero_add] at h3
  refine ⟨⟨⟨n, Nat.le_refl _, ?_⟩, hB.same (b2.block _ (by omega)), by simp [newSt, zeros], by omega, h1, h2, by simp [newSt], by simp [newSt], by simp [newSt], by rw [e2, new_size]; omega, by rw [e2, new_size]; omega⟩, b1.trans (b2.mono (by omega))⟩
  rw [e2, ← s1]
  refine ⟨?_, fun j hj => by simp⟩
  have := new_range W1 (dcs (newSt n) w.heap.size n).toArray 61
  rwa [List.toList_toArray] at this
theorem new_no (w : World) (k : Int) (hk : k < 1 ∨ 4096 < k) : Calls Try.prog 8 #[.int .i64 k] w fun e w' => e = .returned (.tuple #[.pointer none, .iface 52 (.int .i64 8)]) ∧ w = w' := by
  rcases hk with hk | hk
  · go_enter Try.func8, Try.ntmps8
    go_wp2
    go_ret2
    exact ⟨rfl, rfl⟩
  · have hk' : ¬ k < 1 := by omega
    go_enter Try.func8, Try.ntmps8
    go_wp2
    go_ret2
    exact ⟨rfl, rfl⟩
set_option maxHeartbeats 1000000 in
set_option maxRecDepth 100000 in
theorem new_yes (w : World) (n : Nat) (h1 : 0 < n) (h2 : n ≤ 4096) : Calls Try.prog 8 #[.int .i64 (n : Int)] w fun e w' => e = .returned (.tuple #[.pointer (some ⟨w.heap.size + 1, 0, none⟩), .nilIface]) ∧ Dk w' (w.heap.size + 1) w.heap.size (newSt n) ∧ Below w.heap.size w w' := by
  have h3 : ¬ (n : Int) < 1 := by omega
  have h4 : ¬ (4096 : Int) < (n : Int) := by omega
  go_enter Try.func8, Try.ntmps8
  go_wp2_with (first | ((with_reducible refine at_slot 12 ?_); refine wpList_makeH rfl 58 59 _ _ rfl zero64 64 64 n (by kernel_rfl) info_block .i64 .i64 _ _ rfl rfl rfl rfl (by omega) (by omega) ?_; intro W1 HW1; have s1 : W1.heap.size = w.heap.size + 1 := (by rw [HW1.out, new_size])) | ((with_reducible refine at_slot 13 ?_); go_must (refine wpList_buildH rfl 61 #[(0, .tmp 12)] rfl #[(0, .slice (some ⟨w.heap.size, 0, none⟩) n n)] ?hp (.agg (dcs (newSt n) w.heap.size n).toArray) ?hr ?_; (case hr => (exact build_disk _ _ _ _)); (case hp => (first | rfl | (simp [Act.eval]; done) | (go_simp; done) | kernel_rfl)))) | ((with_reducible refine at_slot 14 ?_); refine wpList_boxH rfl 61 _ rfl _ rfl ?_; intro W2 HW2))
  go_ret2
  exact ⟨rfl, new_dk h1 h2 HW1.out HW2.out⟩
end Go.Proofs.Ytnbagklgagomfaa
