/-
  The document's disks: Arm, walked.
-/
import Derived.Test.YtnbagklgagomfaaDoorBkR0
namespace Go.Proofs.YtnbagklgagomfaaDoor
open Go.RowKit Go.Lib
set_option linter.unusedVariables false
set_option linter.unusedSimpArgs false

/-- The document's disk behind Arm, and the error's code. -/
def arR (R : RD) (k : Int) : RD × Nat := if k < 0 then (R, 8) else if R.de = true then (R, 19) else ({ R with fu := k }, 0)
def RAns (w : World) (r : RD × Nat) (e : Ending) (w' : World) : Prop := ∃ v, e = .returned (.tuple #[v, .int .i64 (r.2 : Int)]) ∧ RV w' v r.1 ∧ Below w.heap.size w w'
set_option maxRecDepth 100000 in
set_option maxHeartbeats 2000000 in
theorem refArm_neg (w : World) (R : RD) (A : Option Addr) (c : Nat) (k : Int) (hm : Rm w A c R.ws) (hl : R.rf.b.length = 64) (hk : k < 0) :
    Calls Tryd.prog 14 #[.agg (rcs R A c).toArray, .int .i64 k] w (RAns w (R, 8)) := by
  have HM := Lib.hid hm
  have HL := Lib.hid hl
  clear hm hl
  go_enter Tryd.func14, Tryd.ntmps14
  go_wp2_with (first | ((with_reducible refine at_slot 2 ?_); refine wpList_boxH rfl 35 _ rfl _ rfl ?_; intro W1 HW1; have DW1 := Lib.hid (show HdD W1 w.heap.size (rcs R A c) by rw [HW1.out]; exact hd_new w _ _); have BW1 := Lib.hid (show Below w.heap.size w W1 by rw [HW1.out]; exact new_below w _); have zW1 := Lib.hid (show W1.heap.size = w.heap.size + 1 by rw [HW1.out, new_size])) | ((with_reducible refine at_slot 4 ?_); refine wpList_allocH rfl 35 rfl _ zero_D ?_; intro W2 HW2; have DW2 := Lib.hid (show HdD W2 W1.heap.size (rcs zR none 0) by rw [HW2.out]; exact hd_new W1 _ _); have BW2 := Lib.hid (show Below W1.heap.size W1 W2 by rw [HW2.out]; exact new_below W1 _); have E2 := Lib.hid (DW1.out.keep (by have := zW1.out; omega) BW2.out); have zW2 := Lib.hid (show W2.heap.size = W1.heap.size + 1 by rw [HW2.out, new_size]); have c68 : W2.cell? ⟨w.heap.size, 68, none⟩ = _ := E2.out.cell 68 _ (rcs_68 HL.out A c)) | ((with_reducible refine at_slot 8 ?_); refine wpList_load_mid rfl 35 _ rfl _ _ rfl (rcs R A c) _ E2.out.1 Tryd.underlying35 rfl ?_ ?_; (rw [size_D, rcs_len HL.out])) | ((with_reducible refine at_store 35 ?_); refine wpList_storeH rfl 35 _ _ rfl _ _ _ rfl rfl ?c4 ?c5 (all_oneCell_toArray (rcs_one _ _ _)) ?_; (case c4 => ((have t := DW2.out.th; rw [rcs_len (R := zR) rfl] at t; rw [rcs_size HL.out]; exact t))); (case c5 => (rw [size_D, rcs_size HL.out])); intro W3 HW3))
  have hB3 : Below w.heap.size w W3 := by
    rw [HW3.out]
    exact below_setCells (BW1.out.trans (BW2.out.mono (by have := zW1.out; omega))) (by have := zW1.out; omega) _ _
  obtain ⟨h1, h2, h3⟩ := ref_end (R' := R) (L := rcs zR none 0) DW2.out (rcs_len (R := zR) rfl _ _) HL.out HW3.out (BW1.out.trans (BW2.out.mono (by have := zW1.out; omega))) (by have := zW1.out; omega) (HM.out.keep hB3)
  exact ret_cell_tmp _ W1.heap.size rfl rfl h1 Tryd.underlying35 rfl (by rw [size_D, rcs_len (R := R) HL.out]) rfl ⟨_, rfl, h2, h3⟩
set_option maxRecDepth 100000 in
set_option maxHeartbeats 2000000 in
theorem refArm_dead (w : World) (R : RD) (A : Option Addr) (c : Nat) (k : Int) (hm : Rm w A c R.ws) (hl : R.rf.b.length = 64) (hk : ¬ k < 0) (hd : R.de = true) :
    Calls Tryd.prog 14 #[.agg (rcs R A c).toArray, .int .i64 k] w (RAns w (R, 19)) := by
  have HM := Lib.hid hm
  have HL := Lib.hid hl
  clear hm hl
  have HD := Lib.hid hd
  clear hd
  go_enter Tryd.func14, Tryd.ntmps14
  go_wp2_with (first | ((with_reducible refine at_slot 2 ?_); refine wpList_boxH rfl 35 _ rfl _ rfl ?_; intro W1 HW1; have DW1 := Lib.hid (show HdD W1 w.heap.size (rcs R A c) by rw [HW1.out]; exact hd_new w _ _); have BW1 := Lib.hid (show Below w.heap.size w W1 by rw [HW1.out]; exact new_below w _); have zW1 := Lib.hid (show W1.heap.size = w.heap.size + 1 by rw [HW1.out, new_size])) | ((with_reducible refine at_slot 4 ?_); refine wpList_allocH rfl 35 rfl _ zero_D ?_; intro W2 HW2; have DW2 := Lib.hid (show HdD W2 W1.heap.size (rcs zR none 0) by rw [HW2.out]; exact hd_new W1 _ _); have BW2 := Lib.hid (show Below W1.heap.size W1 W2 by rw [HW2.out]; exact new_below W1 _); have E2 := Lib.hid (DW1.out.keep (by have := zW1.out; omega) BW2.out); have zW2 := Lib.hid (show W2.heap.size = W1.heap.size + 1 by rw [HW2.out, new_size]); have c68 : W2.cell? ⟨w.heap.size, 68, none⟩ = some (.bool true) := E2.out.cell 68 _ ((rcs_68 HL.out A c).trans (by rw [HD.out]))) | ((with_reducible refine at_slot 11 ?_); refine wpList_load_mid rfl 35 _ rfl _ _ rfl (rcs R A c) _ E2.out.1 Tryd.underlying35 rfl ?_ ?_; (rw [size_D, rcs_len HL.out])) | ((with_reducible refine at_store 35 ?_); refine wpList_storeH rfl 35 _ _ rfl _ _ _ rfl rfl ?c4 ?c5 (all_oneCell_toArray (rcs_one _ _ _)) ?_; (case c4 => ((have t := DW2.out.th; rw [rcs_len (R := zR) rfl] at t; rw [rcs_size HL.out]; exact t))); (case c5 => (rw [size_D, rcs_size HL.out])); intro W3 HW3))
  have hB3 : Below w.heap.size w W3 := by
    rw [HW3.out]
    exact below_setCells (BW1.out.trans (BW2.out.mono (by have := zW1.out; omega))) (by have := zW1.out; omega) _ _
  obtain ⟨h1, h2, h3⟩ := ref_end (R' := R) (L := rcs zR none 0) DW2.out (rcs_len (R := zR) rfl _ _) HL.out HW3.out (BW1.out.trans (BW2.out.mono (by have := zW1.out; omega))) (by have := zW1.out; omega) (HM.out.keep hB3)
  exact ret_cell_tmp _ W1.heap.size rfl rfl h1 Tryd.underlying35 rfl (by rw [size_D, rcs_len (R := R) HL.out]) rfl ⟨_, rfl, h2, h3⟩
theorem dw69 (W : World) (b q : Nat) (v : Value) (g : Nat) (hg : g ≠ b) {L : List Value} (h : HdD W g L) : HdD (W.setCell ⟨b, q, none⟩ v) g L := h.same (Below.heap_setCell _ _ _ _ hg)
theorem e69 {W : World} {R : RD} {A : Option Addr} {c : Nat} {k : Int} (g : Nat) (hl : R.rf.b.length = 64) (h : HdD W g (rcs R A c)) : (W.setCell ⟨g, 69, none⟩ (.int .i64 k)).rangeAt g 0 (rcs { R with fu := k } A c) := by
  have := (h.put 69 (by rw [rcs_len hl]; omega) (.int .i64 k)).1
  rwa [rcs_set69 hl] at this
set_option maxRecDepth 100000 in
set_option maxHeartbeats 2000000 in
theorem refArm_ok (w : World) (R : RD) (A : Option Addr) (c : Nat) (k : Int) (hm : Rm w A c R.ws) (hl : R.rf.b.length = 64) (hk : ¬ k < 0) (hd : R.de = false) :
    Calls Tryd.prog 14 #[.agg (rcs R A c).toArray, .int .i64 k] w (RAns w ({ R with fu := k }, 0)) := by
  have HM := Lib.hid hm
  have HL := Lib.hid hl
  clear hm hl
  have HD := Lib.hid hd
  clear hd
  go_enter Tryd.func14, Tryd.ntmps14
  go_wp2_with (first | ((with_reducible refine at_slot 2 ?_); refine wpList_boxH rfl 35 _ rfl _ rfl ?_; intro W1 HW1; have DW1 := Lib.hid (show HdD W1 w.heap.size (rcs R A c) by rw [HW1.out]; exact hd_new w _ _); have BW1 := Lib.hid (show Below w.heap.size w W1 by rw [HW1.out]; exact new_below w _); have zW1 := Lib.hid (show W1.heap.size = w.heap.size + 1 by rw [HW1.out, new_size])) | ((with_reducible refine at_slot 4 ?_); refine wpList_allocH rfl 35 rfl _ zero_D ?_; intro W2 HW2; have DW2 := Lib.hid (show HdD W2 W1.heap.size (rcs zR none 0) by rw [HW2.out]; exact hd_new W1 _ _); have BW2 := Lib.hid (show Below W1.heap.size W1 W2 by rw [HW2.out]; exact new_below W1 _); have E2 := Lib.hid (DW1.out.keep (by have := zW1.out; omega) BW2.out); have zW2 := Lib.hid (show W2.heap.size = W1.heap.size + 1 by rw [HW2.out, new_size]); have c68 : W2.cell? ⟨w.heap.size, 68, none⟩ = some (.bool false) := E2.out.cell 68 _ ((rcs_68 HL.out A c).trans (by rw [HD.out])); have c69 : W2.cell? ⟨w.heap.size, 69, none⟩ = some (.int .i64 R.fu) := E2.out.cell 69 _ (rcs_69 HL.out A c); have f69 : W2.frozen? ⟨w.heap.size, 69, none⟩ = false := E2.out.2 69 (by rw [rcs_len HL.out]; omega)) | ((with_reducible refine at_slot 14 ?_); refine wpList_load_mid rfl 35 _ rfl _ _ rfl (rcs { R with fu := k } A c) _ (e69 w.heap.size HL.out E2.out) Tryd.underlying35 rfl ?_ ?_; (rw [size_D, rcs_len (R := { R with fu := k }) HL.out])) | ((with_reducible refine at_store 35 ?_); refine wpList_storeH rfl 35 _ _ rfl _ _ _ rfl rfl ?c4 ?c5 (all_oneCell_toArray (rcs_one _ _ _)) ?_; (case c4 => ((have t := (dw69 W2 w.heap.size 69 (.int .i64 k) W1.heap.size (by have := zW1.out; omega) DW2.out).th; rw [rcs_len (R := zR) rfl] at t; rw [rcs_size (R := { R with fu := k }) HL.out]; exact t))); (case c5 => (rw [size_D, rcs_size (R := { R with fu := k }) HL.out])); intro W3 HW3))
  have hB3 : Below w.heap.size w W3 := by
    rw [HW3.out]
    exact below_setCells ((BW1.out.trans (BW2.out.mono (by have := zW1.out; omega))).setCell (Nat.le_refl _) _) (by have := zW1.out; omega) _ _
  obtain ⟨h1, h2, h3⟩ := ref_end (R' := { R with fu := k }) (L := rcs zR none 0) (dw69 W2 w.heap.size 69 (.int .i64 k) W1.heap.size (by have := zW1.out; omega) DW2.out) (rcs_len (R := zR) rfl _ _) HL.out HW3.out ((BW1.out.trans (BW2.out.mono (by have := zW1.out; omega))).setCell (Nat.le_refl _) _) (by have := zW1.out; omega) (HM.out.keep hB3)
  exact ret_cell_tmp _ W1.heap.size rfl rfl h1 Tryd.underlying35 rfl (by rw [size_D, rcs_len (R := { R with fu := k }) HL.out]) rfl ⟨_, rfl, h2, h3⟩
theorem refArm_any (w : World) (v : Value) (R : RD) (h : RV w v R) (k : Int) : Calls Tryd.prog 14 #[v, .int .i64 k] w (RAns w (arR R k)) := by
  obtain ⟨A, c, rfl, hm, hl⟩ := h
  unfold arR
  by_cases hk : k < 0
  · rw [if_pos hk]
    exact refArm_neg w R A c k hm hl hk
  · rw [if_neg hk]
    cases hd : R.de with
    | true =>
      rw [if_pos rfl]
      have := refArm_dead w R A c k hm hl hk hd
      exact this
    | false =>
      rw [if_neg (by simp)]
      have := refArm_ok w R A c k hm hl hk hd
      rw [hd] at this
      exact this
end Go.Proofs.YtnbagklgagomfaaDoor
