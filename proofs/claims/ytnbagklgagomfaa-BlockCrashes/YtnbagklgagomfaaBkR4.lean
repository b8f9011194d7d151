/-
  The document's disks: Write, walked: what is refused.
-/
import Derived.Test.YtnbagklgagomfaaBkR3
namespace Go.Proofs.Ytnbagklgagomfaa
open Go.RowKit Go.Lib
set_option linter.unusedVariables false
set_option linter.unusedSimpArgs false

/-- The document's disk behind a write, and the error's code. -/
def wrR (R : RD) (k : Int) (x : List UInt8) : RD × Nat :=
  if hasB R.n k = false then (R, 8) else if 64 < x.length then (R, 2) else if R.de = true then (R, 19)
  else if R.fu = 0 then ({ R with rf := { bk := k, b := pad x, ld := 64 }, de := true }, 19)
  else ({ R with fu := if 0 < R.fu then R.fu - 1 else R.fu, st := R.st + 1, ws := R.ws ++ [{ bk := k, b := pad x, ld := 64 }] }, 0)
theorem zero_W : (Try.prog.info? 33).map (·.zero) = some (some (.agg (wcs { bk := 0, b := List.replicate 64 0, ld := 0 }).toArray)) := by kernel_rfl
theorem build_W2 (k : Int) (w : World) : (Instr.build 33 #[(0, .int .i64 k), (2, .int .i64 64)]).run Try.prog w = .ok (.agg (wcs { bk := k, b := zeros, ld := 64 }).toArray) w := by kernel_rfl
/-- Only one block has changed. -/
structure OutG (w W : World) (g : Nat) (L : List Value) (wr : World) : Prop where
  hd : HdD wr g L
  sz : wr.heap.size = W.heap.size
  oth : ∀ k, k ≠ g → wr.heap[k]? = W.heap[k]?
  blw : Below w.heap.size w wr
theorem bt_spot {w : World} {A : Option Addr} {x : List UInt8} (h : Bt w A x) (h0 : 0 < x.length) : ∃ b off, A = some ⟨b, off, none⟩ ∧ b < w.heap.size ∧ ∀ j (hj : j < x.length), w.cell? ⟨b, off + j, none⟩ = some (.int .u8 (x[j].toNat : Int)) := by
  obtain ⟨ad, rfl, hc⟩ := h h0
  obtain ⟨b, off, spot⟩ := ad
  have hg : ∀ j (hj : j < x.length), w.cell? ((⟨b, off, spot⟩ : Addr).add j) = some (.int .u8 (x[j].toNat : Int)) := fun j hj => hc j _ (by rw [bcs_get, List.getElem?_eq_getElem hj]; rfl)
  have h1 := hg 0 h0
  have hs : spot = none := by simpa [Addr.add] using World.cell?_spot h1
  subst hs
  refine ⟨b, off, rfl, by simpa [Addr.add] using block_lt_of_cell h1, fun j hj => ?_⟩
  have := hg j hj
  rwa [Addr.add_mid] at this
def WrRel (w W : World) (g : Nat) (k : Int) (x : List UInt8) (kk : Nat) (i : Value) (wr : World) : Prop := ∃ j : Nat, j + kk = x.length ∧ i = .int .i64 (j : Int) ∧ OutG w W g (wcs { bk := k, b := x.take j ++ zeros.drop j, ld := 64 }) wr
theorem wcs_set {k : Int} {X : List UInt8} {n : Nat} (j : Nat) (hj : j < X.length) (b : UInt8) : (wcs { bk := k, b := X, ld := n }).set (1 + j) (.int .u8 (b.toNat : Int)) = wcs { bk := k, b := X.set j b, ld := n } := by
  unfold wcs
  rw [Nat.add_comm, List.set_cons_succ, List.set_append_left _ _ (by rw [bcs_len]; exact hj)]
  unfold bcs
  rw [List.map_set]
theorem take_set2 {x out : List UInt8} (k : Nat) (ho : out.length = 64) (hx : x.length ≤ 64) (hk : k < x.length) : (x.take k ++ out.drop k).set k x[k] = x.take (k + 1) ++ out.drop (k + 1) := by
  apply List.ext_getElem?
  intro i
  rcases Nat.lt_trichotomy i k with h | h | h
  · rw [List.getElem?_set_ne (by omega), List.getElem?_append_left (by rw [List.length_take]; omega), List.getElem?_append_left (by rw [List.length_take]; omega), List.getElem?_take_of_lt h, List.getElem?_take_of_lt (by omega)]
  · subst h
    rw [List.getElem?_set_self (by rw [List.length_append, List.length_take, List.length_drop]; omega), List.getElem?_append_left (by rw [List.length_take]; omega), List.getElem?_take_of_lt (by omega)]
    exact (List.getElem?_eq_getElem _).symm
  · rw [List.getElem?_set_ne (by omega), List.getElem?_append_right (by rw [List.length_take]; omega), List.getElem?_append_right (by rw [List.length_take]; omega), List.getElem?_drop, List.getElem?_drop, List.length_take, List.length_take]
    congr 1
    omega
theorem take_zeros {x : List UInt8} (hx : x.length ≤ 64) : x.take x.length ++ zeros.drop x.length = pad x := by
  rw [List.take_length]
  unfold pad zeros
  rw [List.drop_replicate]
theorem OutG.put {w W wr : World} {g : Nat} {k : Int} {X : List UInt8} (h : OutG w W g (wcs { bk := k, b := X, ld := 64 }) wr) (j : Nat) (hj : j < X.length) (b : UInt8) (hg : w.heap.size ≤ g) : OutG w W g (wcs { bk := k, b := X.set j b, ld := 64 }) (wr.setCell ⟨g, 1 + j, none⟩ (.int .u8 (b.toNat : Int))) := by
  refine ⟨?_, by simpa [World.setCell] using h.sz, fun q hq => (Below.heap_setCell wr ⟨g, 1 + j, none⟩ _ q hq).trans (h.oth q hq), h.blw.setCell hg _⟩
  have := h.hd.put (1 + j) (by simp [wcs, bcs_len]; omega) (.int .u8 (b.toNat : Int))
  rwa [wcs_set j hj b] at this
set_option maxRecDepth 100000 in
set_option maxHeartbeats 4000000 in
theorem refWrite_neg (w : World) (R : RD) (A : Option Addr) (c : Nat) (k : Int) (A' : Option Addr) (l c' : Nat) (hm : Rm w A c R.ws) (hl : R.rf.b.length = 64) (hk : k < 0) :
    Calls Try.prog 13 #[.agg (rcs R A c).toArray, .int .i64 k, .slice A' l c'] w (RAns w (R, 8)) := by
  have HM := Lib.hid hm
  have HL := Lib.hid hl
  clear hm hl
  go_enter Try.func13, Try.ntmps13
  go_wp2_with (first | ((with_reducible refine at_slot 3 ?_); refine wpList_boxH rfl 35 _ rfl _ rfl ?_; intro W1 HW1; have DW1 := Lib.hid (show HdD W1 w.heap.size (rcs R A c) by rw [HW1.out]; exact hd_new w _ _); have BW1 := Lib.hid (show Below w.heap.size w W1 by rw [HW1.out]; exact new_below w _); have zW1 := Lib.hid (show W1.heap.size = w.heap.size + 1 by rw [HW1.out, new_size])) | ((with_reducible refine at_slot 6 ?_); refine wpList_allocH rfl 35 rfl _ zero_D ?_; intro W2 HW2; have DW2 := Lib.hid (show HdD W2 W1.heap.size (rcs zR none 0) by rw [HW2.out]; exact hd_new W1 _ _); have BW2 := Lib.hid (show Below W1.heap.size W1 W2 by rw [HW2.out]; exact new_below W1 _); have E2 := Lib.hid (DW1.out.keep (by have := zW1.out; omega) BW2.out); have zW2 := Lib.hid (show W2.heap.size = W1.heap.size + 1 by rw [HW2.out, new_size]); have c0 : W2.cell? ⟨w.heap.size, 0, none⟩ = some (.int .i64 (R.n : Int)) := E2.out.cell 0 _ (rcs_0 A c)) | ((with_reducible refine at_slot 18 ?_); refine wpList_load_mid rfl 35 _ rfl _ _ rfl (rcs R A c) _ E2.out.1 Try.underlying35 rfl ?_ ?_; (rw [size_D, rcs_len HL.out])) | ((with_reducible refine at_store 35 ?_); refine wpList_storeH rfl 35 _ _ rfl _ _ _ rfl rfl ?c4 ?c5 (all_oneCell_toArray (rcs_one _ _ _)) ?_; (case c4 => ((have t := DW2.out.th; rw [rcs_len (R := zR) rfl] at t; rw [rcs_size HL.out]; exact t))); (case c5 => (rw [size_D, rcs_size HL.out])); intro W3 HW3))
  have hB3 : Below w.heap.size w W3 := by
    rw [HW3.out]
    exact below_setCells (BW1.out.trans (BW2.out.mono (by have := zW1.out; omega))) (by have := zW1.out; omega) _ _
  obtain ⟨h1, h2, h3⟩ := ref_end (R' := R) (L := rcs zR none 0) DW2.out (rcs_len (R := zR) rfl _ _) HL.out HW3.out (BW1.out.trans (BW2.out.mono (by have := zW1.out; omega))) (by have := zW1.out; omega) (HM.out.keep hB3)
  exact ret_cell_tmp _ W1.heap.size rfl rfl h1 Try.underlying35 rfl (by rw [size_D, rcs_len (R := R) HL.out]) rfl ⟨_, rfl, h2, h3⟩
set_option maxRecDepth 100000 in
set_option maxHeartbeats 4000000 in
theorem refWrite_far (w : World) (R : RD) (A : Option Addr) (c : Nat) (k : Int) (A' : Option Addr) (l c' : Nat) (hm : Rm w A c R.ws) (hl : R.rf.b.length = 64) (hk : ¬ k < 0) (hk2 : (R.n : Int) ≤ k) :
    Calls Try.prog 13 #[.agg (rcs R A c).toArray, .int .i64 k, .slice A' l c'] w (RAns w (R, 8)) := by
  have HM := Lib.hid hm
  have HL := Lib.hid hl
  clear hm hl
  go_enter Try.func13, Try.ntmps13
  go_wp2_with (first | ((with_reducible refine at_slot 3 ?_); refine wpList_boxH rfl 35 _ rfl _ rfl ?_; intro W1 HW1; have DW1 := Lib.hid (show HdD W1 w.heap.size (rcs R A c) by rw [HW1.out]; exact hd_new w _ _); have BW1 := Lib.hid (show Below w.heap.size w W1 by rw [HW1.out]; exact new_below w _); have zW1 := Lib.hid (show W1.heap.size = w.heap.size + 1 by rw [HW1.out, new_size])) | ((with_reducible refine at_slot 6 ?_); refine wpList_allocH rfl 35 rfl _ zero_D ?_; intro W2 HW2; have DW2 := Lib.hid (show HdD W2 W1.heap.size (rcs zR none 0) by rw [HW2.out]; exact hd_new W1 _ _); have BW2 := Lib.hid (show Below W1.heap.size W1 W2 by rw [HW2.out]; exact new_below W1 _); have E2 := Lib.hid (DW1.out.keep (by have := zW1.out; omega) BW2.out); have zW2 := Lib.hid (show W2.heap.size = W1.heap.size + 1 by rw [HW2.out, new_size]); have c0 : W2.cell? ⟨w.heap.size, 0, none⟩ = some (.int .i64 (R.n : Int)) := E2.out.cell 0 _ (rcs_0 A c)) | ((with_reducible refine at_slot 18 ?_); refine wpList_load_mid rfl 35 _ rfl _ _ rfl (rcs R A c) _ E2.out.1 Try.underlying35 rfl ?_ ?_; (rw [size_D, rcs_len HL.out])) | ((with_reducible refine at_store 35 ?_); refine wpList_storeH rfl 35 _ _ rfl _ _ _ rfl rfl ?c4 ?c5 (all_oneCell_toArray (rcs_one _ _ _)) ?_; (case c4 => ((have t := DW2.out.th; rw [rcs_len (R := zR) rfl] at t; rw [rcs_size HL.out]; exact t))); (case c5 => (rw [size_D, rcs_size HL.out])); intro W3 HW3))
  have hB3 : Below w.heap.size w W3 := by
    rw [HW3.out]
    exact below_setCells (BW1.out.trans (BW2.out.mono (by have := zW1.out; omega))) (by have := zW1.out; omega) _ _
  obtain ⟨h1, h2, h3⟩ := ref_end (R' := R) (L := rcs zR none 0) DW2.out (rcs_len (R := zR) rfl _ _) HL.out HW3.out (BW1.out.trans (BW2.out.mono (by have := zW1.out; omega))) (by have := zW1.out; omega) (HM.out.keep hB3)
  exact ret_cell_tmp _ W1.heap.size rfl rfl h1 Try.underlying35 rfl (by rw [size_D, rcs_len (R := R) HL.out]) rfl ⟨_, rfl, h2, h3⟩
set_option maxRecDepth 100000 in
set_option maxHeartbeats 4000000 in
theorem refWrite_long (w : World) (R : RD) (A : Option Addr) (c : Nat) (k : Int) (A' : Option Addr) (l c' : Nat) (hm : Rm w A c R.ws) (hl : R.rf.b.length = 64) (hk : ¬ k < 0) (hk2 : ¬ (R.n : Int) ≤ k) (h64 : (64 : Int) < (l : Int)) :
    Calls Try.prog 13 #[.agg (rcs R A c).toArray, .int .i64 k, .slice A' l c'] w (RAns w (R, 2)) := by
  have HM := Lib.hid hm
  have HL := Lib.hid hl
  clear hm hl
  go_enter Try.func13, Try.ntmps13
  go_wp2_with (first | ((with_reducible refine at_slot 3 ?_); refine wpList_boxH rfl 35 _ rfl _ rfl ?_; intro W1 HW1; have DW1 := Lib.hid (show HdD W1 w.heap.size (rcs R A c) by rw [HW1.out]; exact hd_new w _ _); have BW1 := Lib.hid (show Below w.heap.size w W1 by rw [HW1.out]; exact new_below w _); have zW1 := Lib.hid (show W1.heap.size = w.heap.size + 1 by rw [HW1.out, new_size])) | ((with_reducible refine at_slot 6 ?_); refine wpList_allocH rfl 35 rfl _ zero_D ?_; intro W2 HW2; have DW2 := Lib.hid (show HdD W2 W1.heap.size (rcs zR none 0) by rw [HW2.out]; exact hd_new W1 _ _); have BW2 := Lib.hid (show Below W1.heap.size W1 W2 by rw [HW2.out]; exact new_below W1 _); have E2 := Lib.hid (DW1.out.keep (by have := zW1.out; omega) BW2.out); have zW2 := Lib.hid (show W2.heap.size = W1.heap.size + 1 by rw [HW2.out, new_size]); have c0 : W2.cell? ⟨w.heap.size, 0, none⟩ = some (.int .i64 (R.n : Int)) := E2.out.cell 0 _ (rcs_0 A c)) | ((with_reducible refine at_slot 22 ?_); refine wpList_load_mid rfl 35 _ rfl _ _ rfl (rcs R A c) _ E2.out.1 Try.underlying35 rfl ?_ ?_; (rw [size_D, rcs_len HL.out])) | ((with_reducible refine at_store 35 ?_); refine wpList_storeH rfl 35 _ _ rfl _ _ _ rfl rfl ?c4 ?c5 (all_oneCell_toArray (rcs_one _ _ _)) ?_; (case c4 => ((have t := DW2.out.th; rw [rcs_len (R := zR) rfl] at t; rw [rcs_size HL.out]; exact t))); (case c5 => (rw [size_D, rcs_size HL.out])); intro W3 HW3))
  have hB3 : Below w.heap.size w W3 := by
    rw [HW3.out]
    exact below_setCells (BW1.out.trans (BW2.out.mono (by have := zW1.out; omega))) (by have := zW1.out; omega) _ _
  obtain ⟨h1, h2, h3⟩ := ref_end (R' := R) (L := rcs zR none 0) DW2.out (rcs_len (R := zR) rfl _ _) HL.out HW3.out (BW1.out.trans (BW2.out.mono (by have := zW1.out; omega))) (by have := zW1.out; omega) (HM.out.keep hB3)
  exact ret_cell_tmp _ W1.heap.size rfl rfl h1 Try.underlying35 rfl (by rw [size_D, rcs_len (R := R) HL.out]) rfl ⟨_, rfl, h2, h3⟩
theorem HdD.apart {W : World} {g b q : Nat} {L : List Value} (h : HdD W g L) (hg : g ≠ b) (v : Value) : HdD (W.setCell ⟨b, q, none⟩ v) g L := h.same (Below.heap_setCell _ _ _ _ hg)
theorem e68 {W : World} {R : RD} {A : Option Addr} {c : Nat} {v : Bool} (g : Nat) (hl : R.rf.b.length = 64) (h : HdD W g (rcs R A c)) : HdD (W.setCell ⟨g, 68, none⟩ (.bool v)) g (rcs { R with de := v } A c) := by
  have := (h.put 68 (by rw [rcs_len hl]; omega) (.bool v))
  rwa [rcs_set68 hl] at this
set_option maxRecDepth 100000 in
set_option maxHeartbeats 4000000 in
theorem refWrite_dead (w : World) (R : RD) (A : Option Addr) (c : Nat) (k : Int) (A' : Option Addr) (x : List UInt8) (c' : Nat) (hm : Rm w A c R.ws) (hl : R.rf.b.length = 64) (hk : ¬ k < 0) (hk2 : ¬ (R.n : Int) ≤ k) (h64 : ¬ (64 : Int) < (x.length : Int)) (hB : Bt w A' x) (hd : R.de = true) :
    Calls Try.prog 13 #[.agg (rcs R A c).toArray, .int .i64 k, .slice A' x.length c'] w (RAns w ({ R with de := true }, 19)) := by
  have HM := Lib.hid hm
  have HL := Lib.hid hl
  clear hm hl
  have HD := Lib.hid hd
  clear hd
  have HB := Lib.hid hB
  obtain ⟨l, hl⟩ : ∃ l, x.length = l := ⟨_, rfl⟩
  have HLx := Lib.hid hl
  rw [hl] at h64 ⊢
  clear hB hl
  go_enter Try.func13, Try.ntmps13
  go_wp2_with (first | ((with_reducible refine at_slot 3 ?_); refine wpList_boxH rfl 35 _ rfl _ rfl ?_; intro W1 HW1; have DW1 := Lib.hid (show HdD W1 w.heap.size (rcs R A c) by rw [HW1.out]; exact hd_new w _ _); have BW1 := Lib.hid (show Below w.heap.size w W1 by rw [HW1.out]; exact new_below w _); have zW1 := Lib.hid (show W1.heap.size = w.heap.size + 1 by rw [HW1.out, new_size])) | ((with_reducible refine at_slot 6 ?_); refine wpList_allocH rfl 35 rfl _ zero_D ?_; intro W2 HW2; have DW2 := Lib.hid (show HdD W2 W1.heap.size (rcs zR none 0) by rw [HW2.out]; exact hd_new W1 _ _); have BW2 := Lib.hid (show Below W1.heap.size W1 W2 by rw [HW2.out]; exact new_below W1 _); have E2 := Lib.hid (DW1.out.keep (by have := zW1.out; omega) BW2.out); have zW2 := Lib.hid (show W2.heap.size = W1.heap.size + 1 by rw [HW2.out, new_size]); have c0 : W2.cell? ⟨w.heap.size, 0, none⟩ = some (.int .i64 (R.n : Int)) := E2.out.cell 0 _ (rcs_0 A c)) | ((with_reducible refine at_slot 24 ?_); go_must (refine wpList_buildH rfl 33 #[(0, .tmp 23), (2, .const (.int .i64 64))] rfl #[(0, .int .i64 k), (2, .int .i64 64)] ?hp (.agg (wcs { bk := k, b := zeros, ld := 64 }).toArray) ?hr ?_; (case hr => (exact build_W2 _ _)); (case hp => (first | rfl | (simp [Act.eval]; done) | (go_simp; done) | kernel_rfl)))) | ((with_reducible refine at_slot 8 ?_); refine wpList_allocH rfl 33 rfl _ zero_W ?_; intro W3 HW3; have DW3 := Lib.hid (show HdD W3 W2.heap.size (wcs { bk := 0, b := List.replicate 64 0, ld := 0 }) by rw [HW3.out]; exact hd_new W2 _ _); have BW3 := Lib.hid (show Below W2.heap.size W2 W3 by rw [HW3.out]; exact new_below W2 _); have zW3 := Lib.hid (show W3.heap.size = W2.heap.size + 1 by rw [HW3.out, new_size])) | ((with_reducible refine at_store 33 ?_); refine wpList_storeH rfl 33 _ _ rfl _ _ _ rfl rfl ?c4 ?c5 (all_oneCell_toArray (wcs_one _)) ?_; (case c4 => ((have t := DW3.out.th; rw [wcs_len List.length_replicate] at t; rw [wcs_size (x := { bk := k, b := zeros, ld := 64 }) List.length_replicate]; exact t))); (case c5 => (rw [size_W, wcs_size (x := { bk := k, b := zeros, ld := 64 }) List.length_replicate])); intro W4 HW4))
  have hzs := And.intro zW1.out (And.intro zW2.out zW3.out)
  have B3 := Lib.hid (show Below w.heap.size w W3 from (BW1.out.trans (BW2.out.mono (by omega))).trans (BW3.out.mono (by omega)))
  have F2 := Lib.hid (show HdD W3 W1.heap.size (rcs zR none 0) from DW2.out.keep (by omega) BW3.out)
  have F0 := Lib.hid (show HdD W3 w.heap.size (rcs R A c) from E2.out.keep (by omega) BW3.out)
  have HOut := Lib.hid (show OutG w W3 W2.heap.size (wcs { bk := k, b := x.take 0 ++ zeros.drop 0, ld := 64 }) W4 from (by
    rw [List.take_zero, List.drop_zero, List.nil_append]
    have e4 := HW4.out
    refine ⟨by rw [e4]; exact DW3.out.all (by rw [wcs_len List.length_replicate, wcs_len List.length_replicate]), by rw [e4, size_setCells], fun q hq => by rw [e4]; exact heap_setCells _ _ _ _ _ hq, by rw [e4]; exact below_setCells B3.out (by omega) _ _⟩))
  obtain ⟨gW, hgW⟩ : ∃ g, W2.heap.size = g := ⟨_, rfl⟩
  obtain ⟨gR, hgR⟩ : ∃ g, W1.heap.size = g := ⟨_, rfl⟩
  obtain ⟨g0, hg0⟩ : ∃ g, w.heap.size = g := ⟨_, rfl⟩
  rw [hgW] at HOut ⊢
  rw [hgR] at F2 ⊢
  rw [hg0] at F0 ⊢
  have HZ := Lib.hid (show g0 + 1 = gR ∧ gR + 1 = gW ∧ gW + 1 = W3.heap.size ∧ w.heap.size = g0 by omega)
  clear hzs hgW hgR hg0 zW1 zW2 zW3 BW1 BW2 BW3 DW1 DW2 DW3 HW1 HW2 HW3 HW4 E2 c0
  go_loopg [27] x.length (WrRel w W3 gW k x)
  case atStart => exact ⟨0, by omega, rfl, HOut.out⟩
  case round =>
    obtain ⟨j, hkj, rfl, hO⟩ := hrel
    have HO := Lib.hid hO
    clear hO HOut
    by_cases hlt : j < l
    · obtain ⟨b, off, rfl, hb, hc⟩ := bt_spot HB.out (by have := HLx.out; omega)
      have hjx : j < x.length := by have := HLx.out; omega
      have r0 : wr.cell? ⟨b, off + j, none⟩ = some (.int .u8 (x[j].toNat : Int)) := (HO.out.blw.cell (p := ⟨b, off + j, none⟩) hb).trans (hc j hjx)
      have hXl : (x.take j ++ zeros.drop j).length = 64 := by rw [List.length_append, List.length_take, List.length_drop]; simp only [zeros, List.length_replicate]; have := HLx.out; omega
      obtain ⟨old, ho⟩ : ∃ old, (wcs { bk := k, b := x.take j ++ zeros.drop j, ld := 64 })[1 + j]? = some old := ⟨_, List.getElem?_eq_getElem (by rw [wcs_len hXl]; omega)⟩
      have ro : wr.cell? ⟨gW, 1 + j, none⟩ = some old := HO.out.hd.cell (1 + j) _ ho
      have fo : wr.frozen? ⟨gW, 1 + j, none⟩ = false := HO.out.hd.2 (1 + j) (by rw [wcs_len hXl]; omega)
      have HST := Lib.hid (HO.out.put j (by rw [hXl]; omega) x[j] (by have := HZ.out; omega))
      rw [take_set2 (out := zeros) j List.length_replicate (by have := HLx.out; omega) hjx] at HST
      obtain ⟨bb, hbb⟩ : ∃ bb : Nat, x[j].toNat = bb := ⟨_, rfl⟩
      rw [hbb] at r0 HST
      clear hc ho hXl hbb
      go_wp2_with fail
      go_roundg (x.length - (j + 1))
      case rel => exact ⟨j + 1, by omega, by go_num, HST.out⟩
      case measure => omega
    · have hjl : j = l := by have := HLx.out; omega
      subst hjl
      have hO := HO.out
      rw [← HLx.out, take_zeros (by have := HLx.out; omega)] at hO
      have HP := Lib.hid hO
      have G0 := Lib.hid (show HdD wr g0 (rcs R A c) from F0.out.same (HO.out.oth g0 (by have := HZ.out; omega)))
      have G2 := Lib.hid (show HdD wr gR (rcs zR none 0) from F2.out.same (HO.out.oth gR (by have := HZ.out; omega)))
      have hpl : (pad x).length = 64 := pad_len (by have := HLx.out; omega)
      have HPl := Lib.hid hpl
      have c68 : wr.cell? ⟨g0, 68, none⟩ = some (.bool R.de) := G0.out.cell 68 _ (rcs_68 HL.out A c)
      have c69 : wr.cell? ⟨g0, 69, none⟩ = some (.int .i64 R.fu) := G0.out.cell 69 _ (rcs_69 HL.out A c)
      have f68 : wr.frozen? ⟨g0, 68, none⟩ = false := G0.out.2 68 (by rw [rcs_len HL.out]; omega)
      clear hO hpl HO F0 F2
      rw [HD.out] at c68
      have K0 := Lib.hid (e68 (v := true) g0 HL.out G0.out)
      have K2 := Lib.hid (G2.out.apart (b := g0) (q := 68) (by have := HZ.out; omega) (.bool true))
      have KB := Lib.hid (HP.out.blw.setCell (p := ⟨g0, 68, none⟩) (show w.heap.size ≤ g0 by have := HZ.out; omega) (.bool true))
      go_wp2_with (first | ((with_reducible refine at_slot 51 ?_); refine wpList_load_mid rfl 35 _ rfl _ _ rfl (rcs { R with de := true } A c) _ K0.out.1 Try.underlying35 rfl ?_ ?_; (rw [size_D, rcs_len (R := { R with de := true }) HL.out])) | ((with_reducible refine at_store 35 ?_); refine wpList_storeH rfl 35 _ _ rfl _ _ _ rfl rfl ?c4 ?c5 (all_oneCell_toArray (rcs_one _ _ _)) ?_; (case c4 => ((have t := K2.out.th; rw [rcs_len (R := zR) rfl] at t; rw [rcs_size (R := { R with de := true }) HL.out]; exact t))); (case c5 => (rw [size_D, rcs_size (R := { R with de := true }) HL.out])); intro W5 HW5))
      have hB5 : Below w.heap.size w W5 := by
        rw [HW5.out]
        exact below_setCells KB.out (by have := HZ.out; omega) _ _
      obtain ⟨h1, h2, h3⟩ := ref_end (R' := { R with de := true }) (L := rcs zR none 0) K2.out (rcs_len (R := zR) rfl _ _) HL.out HW5.out KB.out (by have := HZ.out; omega) (HM.out.keep hB5)
      exact ret_cell_tmp _ gR rfl rfl h1 Try.underlying35 rfl (by rw [size_D, rcs_len (R := { R with de := true }) HL.out]) rfl ⟨_, rfl, h2, h3⟩
theorem e2 {W : World} {R : RD} {A : Option Addr} {c : Nat} {y : RW} (g : Nat) (hl : R.rf.b.length = 64) (hy : y.b.length = 64) (h : HdD W g (rcs R A c)) : HdD (W.setCells g 2 (wcs y)) g (rcs { R with rf := y } A c) :=
  HdD.mid (X := [.int .i64 (R.n : Int), .slice A R.ws.length c]) (Y := wcs R.rf) (Z := [.bool R.de, .int .i64 R.fu, .int .i64 (R.st : Int)]) h (by rw [wcs_len hl, wcs_len hy])
theorem HdD.aparts {W : World} {g b q : Nat} {L : List Value} (h : HdD W g L) (hg : g ≠ b) (vs : List Value) : HdD (W.setCells b q vs) g L := h.same (heap_setCells _ _ _ _ _ hg)
set_option maxRecDepth 100000 in
set_option maxHeartbeats 4000000 in
theorem refWrite_fuse (w : World) (R : RD) (A : Option Addr) (c : Nat) (k : Int) (A' : Option Addr) (x : List UInt8) (c' : Nat) (hm : Rm w A c R.ws) (hl : R.rf.b.length = 64) (hk : ¬ k < 0) (hk2 : ¬ (R.n : Int) ≤ k) (h64 : ¬ (64 : Int) < (x.length : Int)) (hB : Bt w A' x) (hd : R.de = false) (hf : R.fu = 0) :
    Calls Try.prog 13 #[.agg (rcs R A c).toArray, .int .i64 k, .slice A' x.length c'] w (RAns w ({ R with rf := { bk := k, b := pad x, ld := 64 }, de := true }, 19)) := by
  have HM := Lib.hid hm
  have HL := Lib.hid hl
  clear hm hl
  have HD := Lib.hid hd
  have HF := Lib.hid hf
  clear hd hf
  have HB := Lib.hid hB
  obtain ⟨l, hl⟩ : ∃ l, x.length = l := ⟨_, rfl⟩
  have HLx := Lib.hid hl
  rw [hl] at h64 ⊢
  clear hB hl
  go_enter Try.func13, Try.ntmps13
  go_wp2_with (first | ((with_reducible refine at_slot 3 ?_); refine wpList_boxH rfl 35 _ rfl _ rfl ?_; intro W1 HW1; have DW1 := Lib.hid (show HdD W1 w.heap.size (rcs R A c) by rw [HW1.out]; exact hd_new w _ _); have BW1 := Lib.hid (show Below w.heap.size w W1 by rw [HW1.out]; exact new_below w _); have zW1 := Lib.hid (show W1.heap.size = w.heap.size + 1 by rw [HW1.out, new_size])) | ((with_reducible refine at_slot 6 ?_); refine wpList_allocH rfl 35 rfl _ zero_D ?_; intro W2 HW2; have DW2 := Lib.hid (show HdD W2 W1.heap.size (rcs zR none 0) by rw [HW2.out]; exact hd_new W1 _ _); have BW2 := Lib.hid (show Below W1.heap.size W1 W2 by rw [HW2.out]; exact new_below W1 _); have E2 := Lib.hid (DW1.out.keep (by have := zW1.out; omega) BW2.out); have zW2 := Lib.hid (show W2.heap.size = W1.heap.size + 1 by rw [HW2.out, new_size]); have c0 : W2.cell? ⟨w.heap.size, 0, none⟩ = some (.int .i64 (R.n : Int)) := E2.out.cell 0 _ (rcs_0 A c)) | ((with_reducible refine at_slot 24 ?_); go_must (refine wpList_buildH rfl 33 #[(0, .tmp 23), (2, .const (.int .i64 64))] rfl #[(0, .int .i64 k), (2, .int .i64 64)] ?hp (.agg (wcs { bk := k, b := zeros, ld := 64 }).toArray) ?hr ?_; (case hr => (exact build_W2 _ _)); (case hp => (first | rfl | (simp [Act.eval]; done) | (go_simp; done) | kernel_rfl)))) | ((with_reducible refine at_slot 8 ?_); refine wpList_allocH rfl 33 rfl _ zero_W ?_; intro W3 HW3; have DW3 := Lib.hid (show HdD W3 W2.heap.size (wcs { bk := 0, b := List.replicate 64 0, ld := 0 }) by rw [HW3.out]; exact hd_new W2 _ _); have BW3 := Lib.hid (show Below W2.heap.size W2 W3 by rw [HW3.out]; exact new_below W2 _); have zW3 := Lib.hid (show W3.heap.size = W2.heap.size + 1 by rw [HW3.out, new_size])) | ((with_reducible refine at_store 33 ?_); refine wpList_storeH rfl 33 _ _ rfl _ _ _ rfl rfl ?c4 ?c5 (all_oneCell_toArray (wcs_one _)) ?_; (case c4 => ((have t := DW3.out.th; rw [wcs_len List.length_replicate] at t; rw [wcs_size (x := { bk := k, b := zeros, ld := 64 }) List.length_replicate]; exact t))); (case c5 => (rw [size_W, wcs_size (x := { bk := k, b := zeros, ld := 64 }) List.length_replicate])); intro W4 HW4))
  have hzs := And.intro zW1.out (And.intro zW2.out zW3.out)
  have B3 := Lib.hid (show Below w.heap.size w W3 from (BW1.out.trans (BW2.out.mono (by omega))).trans (BW3.out.mono (by omega)))
  have F2 := Lib.hid (show HdD W3 W1.heap.size (rcs zR none 0) from DW2.out.keep (by omega) BW3.out)
  have F0 := Lib.hid (show HdD W3 w.heap.size (rcs R A c) from E2.out.keep (by omega) BW3.out)
  have HOut := Lib.hid (show OutG w W3 W2.heap.size (wcs { bk := k, b := x.take 0 ++ zeros.drop 0, ld := 64 }) W4 from (by
    rw [List.take_zero, List.drop_zero, List.nil_append]
    have e4 := HW4.out
    refine ⟨by rw [e4]; exact DW3.out.all (by rw [wcs_len List.length_replicate, wcs_len List.length_replicate]), by rw [e4, size_setCells], fun q hq => by rw [e4]; exact heap_setCells _ _ _ _ _ hq, by rw [e4]; exact below_setCells B3.out (by omega) _ _⟩))
  obtain ⟨gW, hgW⟩ : ∃ g, W2.heap.size = g := ⟨_, rfl⟩
  obtain ⟨gR, hgR⟩ : ∃ g, W1.heap.size = g := ⟨_, rfl⟩
  obtain ⟨g0, hg0⟩ : ∃ g, w.heap.size = g := ⟨_, rfl⟩
  rw [hgW] at HOut ⊢
  rw [hgR] at F2 ⊢
  rw [hg0] at F0 ⊢
  have HZ := Lib.hid (show g0 + 1 = gR ∧ gR + 1 = gW ∧ gW + 1 = W3.heap.size ∧ w.heap.size = g0 by omega)
  clear hzs hgW hgR hg0 zW1 zW2 zW3 BW1 BW2 BW3 DW1 DW2 DW3 HW1 HW2 HW3 HW4 E2 c0
  go_loopg [27] x.length (WrRel w W3 gW k x)
  case atStart => exact ⟨0, by omega, rfl, HOut.out⟩
  case round =>
    obtain ⟨j, hkj, rfl, hO⟩ := hrel
    have HO := Lib.hid hO
    clear hO HOut
    by_cases hlt : j < l
    · obtain ⟨b, off, rfl, hb, hc⟩ := bt_spot HB.out (by have := HLx.out; omega)
      have hjx : j < x.length := by have := HLx.out; omega
      have r0 : wr.cell? ⟨b, off + j, none⟩ = some (.int .u8 (x[j].toNat : Int)) := (HO.out.blw.cell (p := ⟨b, off + j, none⟩) hb).trans (hc j hjx)
      have hXl : (x.take j ++ zeros.drop j).length = 64 := by rw [List.length_append, List.length_take, List.length_drop]; simp only [zeros, List.length_replicate]; have := HLx.out; omega
      obtain ⟨old, ho⟩ : ∃ old, (wcs { bk := k, b := x.take j ++ zeros.drop j, ld := 64 })[1 + j]? = some old := ⟨_, List.getElem?_eq_getElem (by rw [wcs_len hXl]; omega)⟩
      have ro : wr.cell? ⟨gW, 1 + j, none⟩ = some old := HO.out.hd.cell (1 + j) _ ho
      have fo : wr.frozen? ⟨gW, 1 + j, none⟩ = false := HO.out.hd.2 (1 + j) (by rw [wcs_len hXl]; omega)
      have HST := Lib.hid (HO.out.put j (by rw [hXl]; omega) x[j] (by have := HZ.out; omega))
      rw [take_set2 (out := zeros) j List.length_replicate (by have := HLx.out; omega) hjx] at HST
      obtain ⟨bb, hbb⟩ : ∃ bb : Nat, x[j].toNat = bb := ⟨_, rfl⟩
      rw [hbb] at r0 HST
      clear hc ho hXl hbb
      go_wp2_with fail
      go_roundg (x.length - (j + 1))
      case rel => exact ⟨j + 1, by omega, by go_num, HST.out⟩
      case measure => omega
    · have hjl : j = l := by have := HLx.out; omega
      subst hjl
      have hO := HO.out
      rw [← HLx.out, take_zeros (by have := HLx.out; omega)] at hO
      have HP := Lib.hid hO
      have G0 := Lib.hid (show HdD wr g0 (rcs R A c) from F0.out.same (HO.out.oth g0 (by have := HZ.out; omega)))
      have G2 := Lib.hid (show HdD wr gR (rcs zR none 0) from F2.out.same (HO.out.oth gR (by have := HZ.out; omega)))
      have hpl : (pad x).length = 64 := pad_len (by have := HLx.out; omega)
      have HPl := Lib.hid hpl
      have c68 : wr.cell? ⟨g0, 68, none⟩ = some (.bool R.de) := G0.out.cell 68 _ (rcs_68 HL.out A c)
      have c69 : wr.cell? ⟨g0, 69, none⟩ = some (.int .i64 R.fu) := G0.out.cell 69 _ (rcs_69 HL.out A c)
      have f68 : wr.frozen? ⟨g0, 68, none⟩ = false := G0.out.2 68 (by rw [rcs_len HL.out]; omega)
      clear hO hpl HO F0 F2
      rw [HD.out] at c68
      rw [HF.out] at c69
      go_wp2_with (first | ((with_reducible refine at_slot 48 ?_); refine wpList_load_mid rfl 33 _ rfl _ _ rfl (wcs { bk := k, b := pad x, ld := 64 }) _ HP.out.hd.1 Try.underlying33 rfl ?_ ?_; (rw [size_W, wcs_len (x := { bk := k, b := pad x, ld := 64 }) HPl.out])) | ((with_reducible refine at_store 33 ?_); refine wpList_storeH rfl 33 _ _ rfl _ _ _ rfl rfl ?c4 ?c5 (all_oneCell_toArray (wcs_one _)) ?_; (case c4 => ((rw [wcs_size (x := { bk := k, b := pad x, ld := 64 }) HPl.out]; have t := G0.out.th; rw [rcs_len HL.out] at t; exact fun j hj => (by have := t (2 + j) (by omega); simpa using this)))); (case c5 => (rw [size_W, wcs_size (x := { bk := k, b := pad x, ld := 64 }) HPl.out])); intro W5 HW5; have K5 := Lib.hid (show HdD W5 g0 (rcs { R with rf := { bk := k, b := pad x, ld := 64 } } A c) by rw [HW5.out]; exact e2 g0 HL.out HPl.out G0.out); have J5 := Lib.hid (show HdD W5 gR (rcs zR none 0) by rw [HW5.out]; exact G2.out.aparts (by have := HZ.out; omega) _); have B5 := Lib.hid (show Below w.heap.size w W5 by rw [HW5.out]; exact below_setCells HP.out.blw (show w.heap.size ≤ g0 by have := HZ.out; omega) _ _); have k68 : W5.cell? ⟨g0, 68, none⟩ = some (.bool R.de) := K5.out.cell 68 _ (rcs_68 (R := { R with rf := { bk := k, b := pad x, ld := 64 } }) HPl.out A c); have q68 : W5.frozen? ⟨g0, 68, none⟩ = false := K5.out.2 68 (by rw [rcs_len (R := { R with rf := { bk := k, b := pad x, ld := 64 } }) HPl.out]; omega)) | ((with_reducible refine at_slot 51 ?_); refine wpList_load_mid rfl 35 _ rfl _ _ rfl (rcs { R with rf := { bk := k, b := pad x, ld := 64 }, de := true } A c) _ (e68 (v := true) g0 HPl.out K5.out).1 Try.underlying35 rfl ?_ ?_; (rw [size_D, rcs_len (R := { R with rf := { bk := k, b := pad x, ld := 64 }, de := true }) HPl.out])) | ((with_reducible refine at_store 35 ?_); refine wpList_storeH rfl 35 _ _ rfl _ _ _ rfl rfl ?c4 ?c5 (all_oneCell_toArray (rcs_one _ _ _)) ?_; (case c4 => ((have t := (J5.out.apart (b := g0) (q := 68) (by have := HZ.out; omega) (.bool true)).th; rw [rcs_len (R := zR) rfl] at t; rw [rcs_size (R := { R with rf := { bk := k, b := pad x, ld := 64 }, de := true }) HPl.out]; exact t))); (case c5 => (rw [size_D, rcs_size (R := { R with rf := { bk := k, b := pad x, ld := 64 }, de := true }) HPl.out])); intro W6 HW6))
      have hB5 := B5.out.setCell (p := ⟨g0, 68, none⟩) (show w.heap.size ≤ g0 by have := HZ.out; omega) (.bool true)
      have hB6 : Below w.heap.size w W6 := by
        rw [HW6.out]
        exact below_setCells hB5 (by have := HZ.out; omega) _ _
      obtain ⟨h1, h2, h3⟩ := ref_end (R' := { R with rf := { bk := k, b := pad x, ld := 64 }, de := true }) (L := rcs zR none 0) (J5.out.apart (b := g0) (q := 68) (by have := HZ.out; omega) (.bool true)) (rcs_len (R := zR) rfl _ _) HPl.out HW6.out hB5 (by have := HZ.out; omega) (HM.out.keep hB6)
      exact ret_cell_tmp _ gR rfl rfl h1 Try.underlying35 rfl (by rw [size_D, rcs_len (R := { R with rf := { bk := k, b := pad x, ld := 64 }, de := true }) HPl.out]) rfl ⟨_, rfl, h2, h3⟩
end Go.Proofs.Ytnbagklgagomfaa
