/-
  The document's disks: New, walked.
-/
import Derived.Test.YtnbagklgagomfaaBkR1
namespace Go.Proofs.Ytnbagklgagomfaa
open Go.RowKit Go.Lib
set_option linter.unusedVariables false
set_option linter.unusedSimpArgs false

def newR (n : Nat) : RD := { n := n, ws := [], rf := { bk := -1, b := List.replicate 64 0, ld := 0 }, de := false, fu := -1, st := 0 }
theorem newR_len (n : Nat) : (newR n).rf.b.length = 64 := List.length_replicate
theorem build_W (w : World) : (Instr.build 33 #[(0, .int .i64 (-1))]).run Try.prog w = .ok (.agg (wcs (newR 0).rf).toArray) w := by kernel_rfl
theorem build_D (n : Int) (w : World) (l : List Value) : (Instr.build 35 #[(0, .int .i64 n), (2, .agg (wcs (newR 0).rf).toArray), (4, .int .i64 (-1))]).run Try.prog w = .ok (.agg (([.int .i64 n, .slice none 0 0] : List Value) ++ wcs (newR 0).rf ++ ([.bool false, .int .i64 (-1), .int .i64 0] : List Value)).toArray) w := by kernel_rfl
theorem build_D0 (w : World) : (Instr.build 35 #[]).run Try.prog w = .ok (.agg (rcs zR none 0).toArray) w := by kernel_rfl
set_option maxRecDepth 100000 in
set_option maxHeartbeats 2000000 in
theorem refNew_any (w : World) (n : Nat) (h1 : 0 < n) (h2 : n ≤ 4096) :
    Calls Try.prog 9 #[.int .i64 (n : Int)] w (RAns w (newR n, 0)) := by
  have h3 : ¬ (n : Int) < 1 := by omega
  have h4 : ¬ (4096 : Int) < (n : Int) := by omega
  go_enter Try.func9, Try.ntmps9
  go_wp2_with (first | ((with_reducible refine at_slot 2 ?_); refine wpList_allocH rfl 35 rfl _ zero_D ?_; intro W2 HW2; have DW2 := Lib.hid (show HdD W2 w.heap.size (rcs zR none 0) by rw [HW2.out]; exact hd_new w _ _); have BW2 := Lib.hid (show Below w.heap.size w W2 by rw [HW2.out]; exact new_below w _); have zW2 := Lib.hid (show W2.heap.size = w.heap.size + 1 by rw [HW2.out, new_size])) | ((with_reducible refine at_slot 12 ?_); go_must (refine wpList_buildH rfl 33 #[(0, .const (.int .i64 (-1)))] rfl #[(0, .int .i64 (-1))] ?hp (.agg (wcs (newR 0).rf).toArray) ?hr ?_; (case hr => (exact build_W _)); (case hp => (first | rfl | (simp [Act.eval]; done) | (go_simp; done) | kernel_rfl)))) | ((with_reducible refine at_slot 13 ?_); go_must (refine wpList_buildH rfl 35 #[(0, .tmp 11), (2, .tmp 12), (4, .const (.int .i64 (-1)))] rfl #[(0, .int .i64 (n : Int)), (2, .agg (wcs (newR 0).rf).toArray), (4, .int .i64 (-1))] ?hp2 (.agg (rcs (newR n) none 0).toArray) ?hr2 ?_; (case hr2 => (exact build_D _ _ [])); (case hp2 => (first | rfl | (simp [Act.eval]; done) | (go_simp; done) | kernel_rfl)))) | ((with_reducible refine at_store 35 ?_); refine wpList_storeH rfl 35 _ _ rfl _ _ _ rfl rfl ?c4 ?c5 (all_oneCell_toArray (rcs_one _ _ _)) ?_; (case c4 => ((have t := DW2.out.th; rw [rcs_len (R := zR) rfl] at t; rw [rcs_size (newR_len n)]; exact t))); (case c5 => (rw [size_D, rcs_size (newR_len n)])); intro W3 HW3))
  have hB3 : Below w.heap.size w W3 := by
    rw [HW3.out]
    exact below_setCells BW2.out (Nat.le_refl _) _ _
  obtain ⟨e1, e2, e3⟩ := ref_end (R' := newR n) (L := rcs zR none 0) DW2.out (rcs_len (R := zR) rfl _ _) (newR_len n) HW3.out BW2.out (Nat.le_refl _) ⟨fun x hx => by simp [newR] at hx, by simp [newR], fun h => by simp [newR] at h⟩
  exact ret_cell_tmp _ w.heap.size rfl rfl e1 Try.underlying35 rfl (by rw [size_D, rcs_len (newR_len n)]) rfl ⟨_, rfl, e2, e3⟩
set_option maxRecDepth 100000 in
set_option maxHeartbeats 2000000 in
theorem refNew_low (w : World) (k : Int) (hk : k < 1) :
    Calls Try.prog 9 #[.int .i64 k] w fun e w' => ∃ v, e = .returned (.tuple #[v, .int .i64 8]) ∧ RV w' v zR ∧ Below w.heap.size w w' := by
  go_enter Try.func9, Try.ntmps9
  go_wp2_with (first | ((with_reducible refine at_slot 2 ?_); refine wpList_allocH rfl 35 rfl _ zero_D ?_; intro W2 HW2; have DW2 := Lib.hid (show HdD W2 w.heap.size (rcs zR none 0) by rw [HW2.out]; exact hd_new w _ _); have BW2 := Lib.hid (show Below w.heap.size w W2 by rw [HW2.out]; exact new_below w _); have zW2 := Lib.hid (show W2.heap.size = w.heap.size + 1 by rw [HW2.out, new_size])) | ((with_reducible refine at_slot 10 ?_); go_must (refine wpList_buildH rfl 35 #[] rfl #[] ?hp (.agg (rcs zR none 0).toArray) ?hr ?_; (case hr => (exact build_D0 _)); (case hp => (first | rfl | (simp [Act.eval]; done) | (go_simp; done) | kernel_rfl)))) | ((with_reducible refine at_store 35 ?_); refine wpList_storeH rfl 35 _ _ rfl _ _ _ rfl rfl ?c4 ?c5 (all_oneCell_toArray (rcs_one _ _ _)) ?_; (case c4 => ((have t := DW2.out.th; rw [rcs_len (R := zR) rfl] at t; rw [rcs_size (R := zR) rfl]; exact t))); (case c5 => (rw [size_D, rcs_size (R := zR) rfl])); intro W3 HW3))
  have hB3 : Below w.heap.size w W3 := by
    rw [HW3.out]
    exact below_setCells BW2.out (Nat.le_refl _) _ _
  obtain ⟨e1, e2, e3⟩ := ref_end (R' := zR) (L := rcs zR none 0) DW2.out (rcs_len (R := zR) rfl _ _) rfl HW3.out BW2.out (Nat.le_refl _) ⟨fun x hx => by simp [zR] at hx, by simp [zR], fun h => by simp [zR] at h⟩
  exact ret_cell_tmp _ w.heap.size rfl rfl e1 Try.underlying35 rfl (by rw [size_D, rcs_len (R := zR) rfl]) rfl ⟨_, rfl, e2, e3⟩
set_option maxRecDepth 100000 in
set_option maxHeartbeats 2000000 in
theorem refNew_high (w : World) (k : Int) (hk : 4096 < k) :
    Calls Try.prog 9 #[.int .i64 k] w fun e w' => ∃ v, e = .returned (.tuple #[v, .int .i64 8]) ∧ RV w' v zR ∧ Below w.heap.size w w' := by
  have h1 : ¬ k < 1 := by omega
  go_enter Try.func9, Try.ntmps9
  go_wp2_with (first | ((with_reducible refine at_slot 2 ?_); refine wpList_allocH rfl 35 rfl _ zero_D ?_; intro W2 HW2; have DW2 := Lib.hid (show HdD W2 w.heap.size (rcs zR none 0) by rw [HW2.out]; exact hd_new w _ _); have BW2 := Lib.hid (show Below w.heap.size w W2 by rw [HW2.out]; exact new_below w _); have zW2 := Lib.hid (show W2.heap.size = w.heap.size + 1 by rw [HW2.out, new_size])) | ((with_reducible refine at_slot 10 ?_); go_must (refine wpList_buildH rfl 35 #[] rfl #[] ?hp (.agg (rcs zR none 0).toArray) ?hr ?_; (case hr => (exact build_D0 _)); (case hp => (first | rfl | (simp [Act.eval]; done) | (go_simp; done) | kernel_rfl)))) | ((with_reducible refine at_store 35 ?_); refine wpList_storeH rfl 35 _ _ rfl _ _ _ rfl rfl ?c4 ?c5 (all_oneCell_toArray (rcs_one _ _ _)) ?_; (case c4 => ((have t := DW2.out.th; rw [rcs_len (R := zR) rfl] at t; rw [rcs_size (R := zR) rfl]; exact t))); (case c5 => (rw [size_D, rcs_size (R := zR) rfl])); intro W3 HW3))
  have hB3 : Below w.heap.size w W3 := by
    rw [HW3.out]
    exact below_setCells BW2.out (Nat.le_refl _) _ _
  obtain ⟨e1, e2, e3⟩ := ref_end (R' := zR) (L := rcs zR none 0) DW2.out (rcs_len (R := zR) rfl _ _) rfl HW3.out BW2.out (Nat.le_refl _) ⟨fun x hx => by simp [zR] at hx, by simp [zR], fun h => by simp [zR] at h⟩
  exact ret_cell_tmp _ w.heap.size rfl rfl e1 Try.underlying35 rfl (by rw [size_D, rcs_len (R := zR) rfl]) rfl ⟨_, rfl, e2, e3⟩
end Go.Proofs.Ytnbagklgagomfaa
