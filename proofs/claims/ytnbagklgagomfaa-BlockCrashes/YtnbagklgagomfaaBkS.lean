/-
  The laws' Is, walked: the program's disk and the document's, when they are alike.
-/
import Derived.Test.YtnbagklgagomfaaBkR7
import Derived.Test.YtnbagklgagomfaaBk8
import Derived.Deep.QuietTactic
import Derived.BigQuiet
namespace Go.Proofs.Ytnbagklgagomfaa
open Go.RowKit Go.Lib
set_option linter.unusedVariables false
set_option linter.unusedSimpArgs false

/-- The program's disk is the document's. -/
structure Sim (S : St) (R : RD) : Prop where
  n : R.n = S.n
  de : R.de = S.de
  st : R.st = S.st
  bl : ∀ k : Nat, k < S.n → S.B k = readR R.ws (k : Int)
  fu : R.fu = if S.fu = true then (S.lf : Int) else -1
  yes : S.de = true → R.rf = { bk := (S.ra : Int), b := S.rf, ld := 64 }
  no : S.de = false → R.rf.bk = -1
theorem drewN_below0 (W0 : World) (k : Nat) : Below W0.heap.size W0 (W0.drewN k) := ⟨rfl, rfl, rfl, Nat.le_refl _, fun _ _ => rfl⟩
def IsRel6 (w W : World) (d bk : Nat) (S : St) (g : Nat) (L : List Value) (m : Nat) (kk : Nat) (i : Value) (wr : World) : Prop := ∃ j : Nat, j + kk = m ∧ i = .int .i64 (j : Int) ∧ Below W.heap.size W wr
set_option maxRecDepth 100000 in
set_option maxHeartbeats 8000000 in
theorem is_any (w : World) (d bk : Nat) (S : St) (v : Value) (R : RD) (hD : Dk w d bk S) (hR : RV w v R) (hS : Sim S R) (hws : R.ws.length ≤ 900000) :
    Calls Try.prog 15 #[.pointer (some ⟨d, 0, none⟩), v] w fun e w' => e = .returned (.bool true) ∧ Below w.heap.size w w' := by
  obtain ⟨A, c, rfl, hm, hl⟩ := hR
  have HM := Lib.hid hm
  have HL := Lib.hid hl
  have HS := Lib.hid hS
  have HD := Lib.hid hD
  clear hm hl hS hD
  go_enter Try.func15, Try.ntmps15
  go_wp2_with (first | ((with_reducible refine at_slot 3 ?_); refine wpList_boxH rfl 35 _ rfl _ rfl ?_; intro W1 HW1; have DW1 := Lib.hid (show HdD W1 w.heap.size (rcs R A c) by rw [HW1.out]; exact hd_new w _ _); have BW1 := Lib.hid (show Below w.heap.size w W1 by rw [HW1.out]; exact new_below w _); have zW1 := Lib.hid (show W1.heap.size = w.heap.size + 1 by rw [HW1.out, new_size])))
  have D1 := Lib.hid (HD.out.below BW1.out)
  have hq1 := fun n => (len_disk (W1.drewN n) d bk S (D1.out.same rfl rfl (Nat.le_refl _))).mono (fun _ _ ⟨a, b⟩ => And.intro a b.symm)
  have hq2 := fun n => (dead_disk (W1.drewN n) d bk S (D1.out.same rfl rfl (Nat.le_refl _))).mono (fun _ _ ⟨a, b⟩ => And.intro a b.symm)
  have hq3 := fun n => (steps_disk (W1.drewN n) d bk S (D1.out.same rfl rfl (Nat.le_refl _))).mono (fun _ _ ⟨a, b⟩ => And.intro a b.symm)
  have Q1 := Lib.hid hq1
  have Q2 := Lib.hid hq2
  have Q3 := Lib.hid hq3
  obtain ⟨g0, hg0⟩ : ∃ g, w.heap.size = g := ⟨_, rfl⟩
  rw [hg0] at DW1 ⊢
  have k0 : W1.cell? ⟨g0, 0, none⟩ = some (.int .i64 (S.n : Int)) := (DW1.out.cell 0 _ (rcs_0 A c)).trans (by rw [HS.out.n])
  have k68 : W1.cell? ⟨g0, 68, none⟩ = some (.bool S.de) := (DW1.out.cell 68 _ (rcs_68 HL.out A c)).trans (by rw [HS.out.de])
  have k70 : W1.cell? ⟨g0, 70, none⟩ = some (.int .i64 (S.st : Int)) := (DW1.out.cell 70 _ (rcs_70 HL.out A c)).trans (by rw [HS.out.st])
  have HG0 := Lib.hid hg0
  have hmost := HD.out.most
  clear hq1 hq2 hq3 hg0 HW1
  go_quiet ((first | (go_at_call 23; exact Calls.quiet_of_same (Q1.out _)) | (go_at_call 17; exact Calls.quiet_of_same (Q2.out _)) | (go_at_call 20; exact Calls.quiet_of_same (Q3.out _))))
  go_wp2_with fail
  obtain ⟨m, hm1, hmS⟩ : ∃ m : Nat, min (S.n : Int) 40 = (m : Int) ∧ m ≤ S.n := ⟨min S.n 40, by omega, by omega⟩
  rw [hm1]
  have HB1 := Lib.hid (show Below w.heap.size w W1 from BW1.out)
  have hgW : g0 < W1.heap.size := by have := zW1.out; have := HG0.out; omega
  clear hm1 k0 k68 k70 Q1 Q2 Q3 BW1 zW1
  go_loopg [35] m (IsRel6 w W1 d bk S g0 [] m)
  case atStart => exact ⟨0, by omega, rfl, drewN_below0 W1 nq⟩
  case round =>
    obtain ⟨j, hk, rfl, hB⟩ := hrel
    have HB := Lib.hid hB
    clear hB
    by_cases hlt : j < m
    · go_wp2_with fail
      refine (read_yes wr d bk S (D1.out.below HB.out) j (by omega)).mono ?_
      rintro e W3 ⟨rfl, hr3, hb3⟩
      have HR3 := Lib.hid hr3
      have B3 := Lib.hid (HB.out.trans (hb3.mono HB.out.size))
      have hlen : (S.B j).length = 64 := (HD.out.hb.1 j (by omega)).2
      have HLen := Lib.hid hlen
      have hgA : wr.heap.size < W3.heap.size := block_lt_of_cell (hr3 0 _ (List.getElem?_eq_getElem (by rw [bcs_len, hlen]; omega)))
      have D3 := Lib.hid (DW1.out.keep hgW B3.out)
      clear hr3 hb3 hlen
      go_wp2_with (first | ((with_reducible refine at_slot 44 ?_); refine wpList_load_mid rfl 35 _ rfl _ _ rfl (rcs R A c) _ D3.out.1 Try.underlying35 rfl ?_ ?_; (rw [size_D, rcs_len HL.out])))
      refine (refRead_any W3 _ R ⟨A, c, rfl, (HM.out.keep HB1.out).keep (Below.mono B3.out (Nat.le_refl _)), HL.out⟩ (j : Int) (by omega)).mono ?_
      rintro e W4 ⟨rfl, hb4⟩
      have B4 := Lib.hid (B3.out.trans (hb4.mono B3.out.size))
      have HR4 := Lib.hid (rangeAt_of HR3.out (hb4.block _ hgA))
      have hgA4 : wr.heap.size < W4.heap.size := Nat.lt_of_lt_of_le hgA hb4.size
      have e0 := HS.out.bl j (by omega)
      rw [← e0]
      clear hb4 e0 hgA
      go_wp2_with (first | ((with_reducible refine at_slot 8 ?_); refine wpList_allocH rfl 31 rfl _ zero_31 ?_; intro W5 HW5; have DW5 := Lib.hid (show HdD W5 W4.heap.size (bcs zeros) by rw [HW5.out]; exact hd_new W4 _ _); have BW5 := Lib.hid (show Below W4.heap.size W4 W5 by rw [HW5.out]; exact new_below W4 _); have zW5 := Lib.hid (show W5.heap.size = W4.heap.size + 1 by rw [HW5.out, new_size])) | ((with_reducible refine at_store 31 ?_); refine wpList_storeH rfl 31 _ _ rfl _ _ _ rfl rfl ?c4 ?c5 (all_oneCell_toArray (bcs_one _)) ?_; (case c4 => ((have t := DW5.out.th; rw [bcs_len] at t; have e5 : (bcs (S.B j)).toArray.size = zeros.length := (by rw [List.size_toArray, bcs_len, HLen.out]; rfl); rw [e5]; exact t))); (case c5 => ((have e5 : (bcs (S.B j)).toArray.size = 64 := (by rw [List.size_toArray, bcs_len, HLen.out])); rw [size_31, e5])); intro W6 HW6))
      have e6 := HW6.out
      have hd6 : HdD W6 W4.heap.size (bcs (S.B j)) := by rw [e6]; exact DW5.out.all (by rw [bcs_len, bcs_len, HLen.out]; rfl)
      have b6 : Below W4.heap.size W4 W6 := by rw [e6]; exact below_setCells BW5.out (Nat.le_refl _) _ _
      have r6 : W6.rangeAt wr.heap.size 0 (bcs (S.B j)) := rangeAt_of HR4.out (b6.block _ hgA4)
      have B6 := Lib.hid (B4.out.trans (b6.mono B4.out.size))
      have hs1 := fun n => conv_bytes (W6.drewN n) wr.heap.size 0 64 64 (S.B j) HLen.out.symm r6
      have hs2 := fun n => conv_bytes (W6.drewN n) W4.heap.size 0 64 64 (S.B j) HLen.out.symm hd6.1
      obtain ⟨T, hT⟩ : ∃ T, (⟨(S.B j).toArray⟩ : ByteArray) = T := ⟨_, rfl⟩
      rw [hT] at hs1 hs2
      clear hT e6 hd6 b6 r6 HW6 DW5 BW5 zW5 HW5 hgA4
      go_quiet (fail)
      go_wp2_with fail
      go_roundg (m - (j + 1))
      case rel => exact ⟨j + 1, by omega, by go_num, B6.out.trans ((drewN_below0 W6 _).mono B6.out.size)⟩
      case measure => omega
    · obtain rfl : j = m := by omega
      go_wp2_with fail
      go_ret
      exact ⟨rfl, HB1.out.trans (HB.out.mono HB1.out.size)⟩
end Go.Proofs.Ytnbagklgagomfaa
