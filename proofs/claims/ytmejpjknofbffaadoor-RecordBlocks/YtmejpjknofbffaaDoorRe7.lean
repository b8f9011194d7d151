/-
  A block whose marks agree, read by the program.
-/
import Derived.Test.YtmejpjknofbffaaDoorRe6
namespace Go.Proofs.YtmejpjknofbffaaDoor
open Go.RowKit Go.Lib
set_option linter.unusedVariables false
set_option linter.unusedSimpArgs false

theorem w64_nat (u : Nat) (h : u < 9223372036854775808) : wrap64 (u : Int) = (u : Int) := by
  have h := IntWalk.i64_in (u : Int) ⟨by omega, by omega⟩
  rw [IntWalk.i64_left] at h
  exact h
theorem w21_nat (n : Nat) (h : n ≤ 42) : IntKind.i64.wrap (21 + (n : Int)) = 21 + (n : Int) := IntWalk.i64_in _ (by omega)
theorem byteN_lt (x : List UInt8) (i : Nat) : byteN x i < 256 := UInt8.toNat_lt _
theorem Rg.laid {w W : World} {g q r : Nat} {x : List UInt8} {L : List Value} (h : Rg w W g q r x L) (hx : x.length = 64) (l k c : Nat) (hk : k ≤ 8) (hl : l + k ≤ 64) :
    Calls Tryd.prog 21 #[.slice (some ⟨g, q + l, none⟩) k c] W fun e w' => e = .returned (.int .u64 (un (cutL x l (l + k)) : Nat)) ∧ W = w' := by
  have hc := cutL_len x (l := l) (h := l + k) (by omega)
  rw [Nat.add_sub_cancel_left] at hc
  have := laid_any W g (q + l) c (cutL x l (l + k)) (by omega) (h.hB.cut l (l + k) (by omega))
  rw [hc] at this
  exact this
theorem Rg.sum {w W : World} {g q r c : Nat} {x : List UInt8} {L : List Value} (h : Rg w W g q r x L) (hx : x.length = 64) (hc : 64 ≤ c) (hD : Deb w) (hN : 7 ≤ w.heap.size) :
    Calls Tryd.prog 18 #[.slice (some ⟨g, q, none⟩) 64 c] W fun e w' => e = .returned (.int .u64 (fnv (sumL x) : Nat)) ∧ Below W.heap.size W w' :=
  blksum_any W g q c x hx hc h.hB (by
    unfold Deb
    rw [h.hb.cell (Nat.lt_of_lt_of_le (by decide) hN)]
    exact hD) (Nat.le_trans hN h.hb.size)
theorem Rg.noughts {w W : World} {g q r : Nat} {x : List UInt8} {L : List Value} (h : Rg w W g q r x L) (hx : x.length = 64) (n c : Nat) (hn : n ≤ 42) :
    Calls Tryd.prog 22 #[.slice (some ⟨g, q + (21 + n), none⟩) (63 - (21 + n)) c] W fun e w' => e = .returned (.bool (allZ (cutL x (21 + n) 63))) ∧ W = w' := by
  have hc := cutL_len x (l := 21 + n) (h := 63) (by omega)
  have hb := h.hB.cut (21 + n) 63 (by omega)
  have := noughts_any W (some ⟨g, q + (21 + n), none⟩) c (cutL x (21 + n) 63) (by omega) (fun j hj => ⟨_, _, rfl, hb.at j hj⟩)
  rw [hc] at this
  exact this
set_option maxHeartbeats 4000000 in
set_option maxRecDepth 100000 in
theorem read_sums (w : World) (g q c : Nat) (x : List UInt8) (hx : x.length = 64) (hc : 64 ≤ c) (h : Bt w (some ⟨g, q, none⟩) x) (hD : Deb w) (hN : 7 ≤ w.heap.size) (hm : x.getD 0 0 = x.getD 63 0) (hs : un (cutL x 13 21) ≠ fnv (sumL x)) :
    Calls Tryd.prog 10 #[.slice (some ⟨g, q, none⟩) 64 c] w (RdAns w x) := by
  have hcc : readC x = 20 := by rw [readC, if_neg (by omega), if_neg (fun e => e hm), if_pos hs]
  have hm' : byteN x 0 = byteN x 63 := by unfold byteN; rw [hm]
  obtain ⟨y0, hy0⟩ : ∃ y, byteN x 0 = y := ⟨_, rfl⟩
  rw [hy0] at hm'
  have hy1 := hm'.symm
  have HB := Lib.hid h
  have HX := Lib.hid hx
  have HY := Lib.hid (And.intro hy0 hy1)
  have HC := Lib.hid hcc
  have HD := Lib.hid hD
  have hT := ((y0 : Int) == (y0 : Int))
  obtain ⟨s1, hs1⟩ : ∃ s, un (cutL x 13 21) = s := ⟨_, rfl⟩
  obtain ⟨s2, hs2⟩ : ∃ s, fnv (sumL x) = s := ⟨_, rfl⟩
  obtain ⟨n, hn⟩ : ∃ n, byteN x 12 = n := ⟨_, rfl⟩
  have HS1 := Lib.hid (show un (cutL x 13 (13 + 8)) = s1 from hs1)
  have HS2 := Lib.hid hs2
  have HN := Lib.hid hn
  have hn255 : n < 256 := by rw [← hn]; exact byteN_lt _ _
  rw [hs1, hs2] at hs
  have hs3 : ¬ ((s1 : Int) = (s2 : Int)) := by omega
  have hs4 : ((s1 : Int) == (s2 : Int)) = false := by rw [beq_eq_false_iff_ne]; exact hs3
  have hs5 : ((s1 : Int) != (s2 : Int)) = true := by rw [bne, hs4]; rfl
  clear hs hs1 hs2 hn hT
  have hw64 := w64_nat n (Nat.lt_trans hn255 (by decide))
  clear hcc h hy0 hy1 hm hm' hx hD
  go_enter Tryd.func10, Tryd.ntmps10
  go_wp2_with (first
    | ((with_reducible refine at_slot 2 ?_); refine wpList_allocH rfl 33 rfl _ zero_pc ?_; intro W1 HW1; have HR := Lib.hid (Rg.new HB.out HW1.out); have c0 := HR.out.cell HX.out 0 (by decide); have c63 := HR.out.cell HX.out 63 (by decide); rw [Nat.add_zero] at c0; rw [HY.out.1] at c0; rw [HY.out.2] at c63; clear HW1)
    | (go_at_call 21; go_must (refine (HR.out.laid HX.out 13 8 (c - 13) (by decide) (by decide)).mono ?_; rintro e w' ⟨rfl, rfl⟩; rw [HS1.out]))
    | (go_at_call 18; go_must (refine (HR.out.sum HX.out hc HD.out hN).mono ?_; rintro e W2 ⟨rfl, hb2⟩; rw [HS2.out]; have HR2 := Lib.hid (HR.out.step hb2); clear hb2 c0 c63; have zb := zbuild W2; have c12 := HR2.out.cell HX.out 12 (by decide); rw [HN.out] at c12))
    | ((with_reducible refine at_store 33 ?_); go_must (refine wpList_storeH rfl 33 (.tmp 2) _ rfl w.heap.size 0 (pcs zeroPc none 0).toArray rfl rfl HR2.out.hr.th size_pc (pcs_one _ _ _) ?_); intro W3 HW3))
  obtain ⟨h1, h2⟩ := HR2.out.fin (L' := pcs zeroPc none 0) rfl HW3.out
  refine ret_cell_tmp2 (pcs zeroPc none 0) w.heap.size rfl rfl h1.1 Tryd.underlying33 rfl size_pc rfl ?_
  exact rdans_no HC.out (by decide) h2

set_option maxHeartbeats 4000000 in
set_option maxRecDepth 100000 in
theorem read_long (w : World) (g q c : Nat) (x : List UInt8) (hx : x.length = 64) (hc : 64 ≤ c) (h : Bt w (some ⟨g, q, none⟩) x) (hD : Deb w) (hN : 7 ≤ w.heap.size) (hm : x.getD 0 0 = x.getD 63 0) (hs : un (cutL x 13 21) = fnv (sumL x)) (hl : 42 < byteN x 12) :
    Calls Tryd.prog 10 #[.slice (some ⟨g, q, none⟩) 64 c] w (RdAns w x) := by
  have hcc : readC x = 1 := by rw [readC, if_neg (by omega), if_neg (fun e => e hm), if_neg (fun e => e hs), if_pos hl]
  have hm' : byteN x 0 = byteN x 63 := by unfold byteN; rw [hm]
  obtain ⟨y0, hy0⟩ : ∃ y, byteN x 0 = y := ⟨_, rfl⟩
  rw [hy0] at hm'
  have hy1 := hm'.symm
  have HB := Lib.hid h
  have HX := Lib.hid hx
  have HY := Lib.hid (And.intro hy0 hy1)
  have HC := Lib.hid hcc
  have HD := Lib.hid hD
  have hT := ((y0 : Int) == (y0 : Int))
  obtain ⟨s1, hs1⟩ : ∃ s, un (cutL x 13 21) = s := ⟨_, rfl⟩
  obtain ⟨s2, hs2⟩ : ∃ s, fnv (sumL x) = s := ⟨_, rfl⟩
  obtain ⟨n, hn⟩ : ∃ n, byteN x 12 = n := ⟨_, rfl⟩
  have HS1 := Lib.hid (show un (cutL x 13 (13 + 8)) = s1 from hs1)
  have HS2 := Lib.hid hs2
  have HN := Lib.hid hn
  have hn255 : n < 256 := by rw [← hn]; exact byteN_lt _ _
  rw [hs1, hs2] at hs
  subst hs
  rw [hn] at hl
  have d1 : decide ((42 : Int) < (n : Int)) = true := decide_eq_true (by omega)
  have d2 : (42 : Int) < (n : Int) := by omega
  clear hs1 hs2 hn hT
  have hw64 := w64_nat n (Nat.lt_trans hn255 (by decide))
  clear hcc h hy0 hy1 hm hm' hx hD
  go_enter Tryd.func10, Tryd.ntmps10
  go_wp2_with (first
    | ((with_reducible refine at_slot 2 ?_); refine wpList_allocH rfl 33 rfl _ zero_pc ?_; intro W1 HW1; have HR := Lib.hid (Rg.new HB.out HW1.out); have c0 := HR.out.cell HX.out 0 (by decide); have c63 := HR.out.cell HX.out 63 (by decide); rw [Nat.add_zero] at c0; rw [HY.out.1] at c0; rw [HY.out.2] at c63; clear HW1)
    | (go_at_call 21; go_must (refine (HR.out.laid HX.out 13 8 (c - 13) (by decide) (by decide)).mono ?_; rintro e w' ⟨rfl, rfl⟩; rw [HS1.out]))
    | (go_at_call 18; go_must (refine (HR.out.sum HX.out hc HD.out hN).mono ?_; rintro e W2 ⟨rfl, hb2⟩; rw [HS2.out]; have HR2 := Lib.hid (HR.out.step hb2); clear hb2 c0 c63; have zb := zbuild W2; have c12 := HR2.out.cell HX.out 12 (by decide); rw [HN.out] at c12))
    | ((with_reducible refine at_store 33 ?_); go_must (refine wpList_storeH rfl 33 (.tmp 2) _ rfl w.heap.size 0 (pcs zeroPc none 0).toArray rfl rfl HR2.out.hr.th size_pc (pcs_one _ _ _) ?_); intro W3 HW3))
  obtain ⟨h1, h2⟩ := HR2.out.fin (L' := pcs zeroPc none 0) rfl HW3.out
  refine ret_cell_tmp2 (pcs zeroPc none 0) w.heap.size rfl rfl h1.1 Tryd.underlying33 rfl size_pc rfl ?_
  exact rdans_no HC.out (by decide) h2

set_option maxHeartbeats 4000000 in
set_option maxRecDepth 100000 in
theorem read_more (w : World) (g q c : Nat) (x : List UInt8) (hx : x.length = 64) (hc : 64 ≤ c) (h : Bt w (some ⟨g, q, none⟩) x) (hD : Deb w) (hN : 7 ≤ w.heap.size) (hm : x.getD 0 0 = x.getD 63 0) (hs : un (cutL x 13 21) = fnv (sumL x)) (hl : byteN x 12 ≤ 42) (hz : allZ (cutL x (21 + byteN x 12) 63) = false) :
    Calls Tryd.prog 10 #[.slice (some ⟨g, q, none⟩) 64 c] w (RdAns w x) := by
  have hcc : readC x = 1 := by rw [readC, if_neg (by omega), if_neg (fun e => e hm), if_neg (fun e => e hs), if_neg (by omega), if_pos hz]
  have hm' : byteN x 0 = byteN x 63 := by unfold byteN; rw [hm]
  obtain ⟨y0, hy0⟩ : ∃ y, byteN x 0 = y := ⟨_, rfl⟩
  rw [hy0] at hm'
  have hy1 := hm'.symm
  have HB := Lib.hid h
  have HX := Lib.hid hx
  have HY := Lib.hid (And.intro hy0 hy1)
  have HC := Lib.hid hcc
  have HD := Lib.hid hD
  have hT := ((y0 : Int) == (y0 : Int))
  obtain ⟨s1, hs1⟩ : ∃ s, un (cutL x 13 21) = s := ⟨_, rfl⟩
  obtain ⟨s2, hs2⟩ : ∃ s, fnv (sumL x) = s := ⟨_, rfl⟩
  obtain ⟨n, hn⟩ : ∃ n, byteN x 12 = n := ⟨_, rfl⟩
  have HS1 := Lib.hid (show un (cutL x 13 (13 + 8)) = s1 from hs1)
  have HS2 := Lib.hid hs2
  have HN := Lib.hid hn
  have hn255 : n < 256 := by rw [← hn]; exact byteN_lt _ _
  rw [hs1, hs2] at hs
  subst hs
  rw [hn] at hl hz
  have d1 : decide ((42 : Int) < (n : Int)) = false := decide_eq_false (by omega)
  have d2 : ¬ (42 : Int) < (n : Int) := by omega
  have rw1 := fun W => run_win W g q 64 c (21 + n) 63 .i64 .i64 (by omega) (by omega) (by omega)
  simp only [Int.natCast_add, Int.cast_ofNat_Int] at rw1
  have hmw := w21_nat n hl
  have HZ := Lib.hid hz
  clear hs1 hs2 hn hz hT
  have hw64 := w64_nat n (Nat.lt_trans hn255 (by decide))
  clear hcc h hy0 hy1 hm hm' hx hD
  go_enter Tryd.func10, Tryd.ntmps10
  go_wp2_with (first
    | ((with_reducible refine at_slot 2 ?_); refine wpList_allocH rfl 33 rfl _ zero_pc ?_; intro W1 HW1; have HR := Lib.hid (Rg.new HB.out HW1.out); have c0 := HR.out.cell HX.out 0 (by decide); have c63 := HR.out.cell HX.out 63 (by decide); rw [Nat.add_zero] at c0; rw [HY.out.1] at c0; rw [HY.out.2] at c63; clear HW1)
    | (go_at_call 21; go_must (refine (HR.out.laid HX.out 13 8 (c - 13) (by decide) (by decide)).mono ?_; rintro e w' ⟨rfl, rfl⟩; rw [HS1.out]))
    | (go_at_call 18; go_must (refine (HR.out.sum HX.out hc HD.out hN).mono ?_; rintro e W2 ⟨rfl, hb2⟩; rw [HS2.out]; have HR2 := Lib.hid (HR.out.step hb2); clear hb2 c0 c63; have zb := zbuild W2; have c12 := HR2.out.cell HX.out 12 (by decide); rw [HN.out] at c12))
    | ((with_reducible refine at_store 33 ?_); go_must (refine wpList_storeH rfl 33 (.tmp 2) _ rfl w.heap.size 0 (pcs zeroPc none 0).toArray rfl rfl HR2.out.hr.th size_pc (pcs_one _ _ _) ?_); intro W3 HW3)
    | (go_at_call 22; go_must (refine (HR2.out.noughts HX.out n _ hl).mono ?_; rintro e w' ⟨rfl, rfl⟩; rw [HZ.out])))
  obtain ⟨h1, h2⟩ := HR2.out.fin (L' := pcs zeroPc none 0) rfl HW3.out
  refine ret_cell_tmp2 (pcs zeroPc none 0) w.heap.size rfl rfl h1.1 Tryd.underlying33 rfl size_pc rfl ?_
  exact rdans_no HC.out (by decide) h2

end Go.Proofs.YtmejpjknofbffaaDoor
