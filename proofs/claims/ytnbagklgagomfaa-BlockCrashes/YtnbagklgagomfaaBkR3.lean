/-
  The document's disks: Read, walked.
-/
import Derived.Test.YtnbagklgagomfaaBkR2
namespace Go.Proofs.Ytnbagklgagomfaa
open Go.RowKit Go.Lib
set_option linter.unusedVariables false
set_option linter.unusedSimpArgs false

/-- The first bytes of a write over what lay there; a block behind the writes. -/
def layW (out : List UInt8) (x : RW) : List UInt8 := x.b.take x.ld ++ out.drop x.ld
def stepW (n : Int) (out : List UInt8) (x : RW) : List UInt8 := if x.bk = n then layW out x else out
def readR (ws : List RW) (n : Int) : List UInt8 := ws.foldl (stepW n) zeros
theorem layW_len {out : List UInt8} {x : RW} (h : out.length = 64) (hx : x.b.length = 64 ∧ x.ld ≤ 64) : (layW out x).length = 64 := by
  unfold layW
  rw [List.length_append, List.length_take, List.length_drop]
  omega
theorem readR_len (n : Int) : ∀ (ws : List RW) (out : List UInt8), (∀ x ∈ ws, x.b.length = 64 ∧ x.ld ≤ 64) → out.length = 64 → (ws.foldl (stepW n) out).length = 64
  | [], out, _, h => h
  | x :: r, out, hx, h => by
    refine readR_len n r _ (fun y hy => hx y (by simp [hy])) ?_
    unfold stepW
    split
    · exact layW_len h (hx x (by simp))
    · exact h
theorem readR_take (ws : List RW) (n : Int) (i : Nat) (hi : i < ws.length) : readR (ws.take (i + 1)) n = stepW n (readR (ws.take i) n) ws[i] := by
  unfold readR
  rw [List.take_succ_eq_append_getElem hi, List.foldl_append]
  rfl
/-- Only the block of the answer has changed. -/
structure OutR (w W : World) (g : Nat) (X : List UInt8) (wr : World) : Prop where
  hd : HdD wr g (bcs X)
  len : X.length = 64
  sz : wr.heap.size = W.heap.size
  oth : ∀ k, k ≠ g → wr.heap[k]? = W.heap[k]?
  blw : Below w.heap.size w wr
theorem OutR.set {w W wr : World} {g : Nat} {X : List UInt8} (h : OutR w W g X wr) (k : Nat) (hk : k < 64) (b : UInt8) (hg : w.heap.size ≤ g) : OutR w W g (X.set k b) (wr.setCell ⟨g, k, none⟩ (.int .u8 (b.toNat : Int))) := by
  refine ⟨?_, by simp [h.len], by simpa [World.setCell] using h.sz, fun q hq => (Below.heap_setCell wr ⟨g, k, none⟩ _ q hq).trans (h.oth q hq), h.blw.setCell hg _⟩
  have := h.hd.put k (by rw [bcs_len, h.len]; exact hk) (.int .u8 (b.toNat : Int))
  have e : (bcs X).set k (.int .u8 (b.toNat : Int)) = bcs (X.set k b) := by
    unfold bcs
    rw [List.map_set]
  rwa [e] at this
theorem take_set {b out : List UInt8} (k : Nat) (hb : b.length = 64) (ho : out.length = 64) (hk : k < 64) : (b.take k ++ out.drop k).set k (b[k]'(by omega)) = b.take (k + 1) ++ out.drop (k + 1) := by
  apply List.ext_getElem?
  intro i
  rcases Nat.lt_trichotomy i k with h | h | h
  · rw [List.getElem?_set_ne (by omega), List.getElem?_append_left (by rw [List.length_take]; omega), List.getElem?_append_left (by rw [List.length_take]; omega), List.getElem?_take_of_lt h, List.getElem?_take_of_lt (by omega)]
  · subst h
    rw [List.getElem?_set_self (by rw [List.length_append, List.length_take, List.length_drop]; omega), List.getElem?_append_left (by rw [List.length_take]; omega), List.getElem?_take_of_lt (by omega)]
    exact (List.getElem?_eq_getElem _).symm
  · rw [List.getElem?_set_ne (by omega), List.getElem?_append_right (by rw [List.length_take]; omega), List.getElem?_append_right (by rw [List.length_take]; omega), List.getElem?_drop, List.getElem?_drop, List.length_take, List.length_take]
    congr 1
    omega
theorem wcs_65 {x : RW} (h : x.b.length = 64) : (wcs x)[65]? = some (.int .i64 (x.ld : Int)) := by
  unfold wcs
  rw [List.getElem?_cons_succ, List.getElem?_append_right (by rw [bcs_len]; omega), bcs_len, h]
  rfl
theorem wcs_b {x : RW} (k : Nat) (h : k < x.b.length) : (wcs x)[1 + k]? = some (.int .u8 (x.b[k].toNat : Int)) := by
  unfold wcs
  rw [Nat.add_comm, List.getElem?_cons_succ, List.getElem?_append_left (by rw [bcs_len]; exact h), bcs_get, List.getElem?_eq_getElem h]
  rfl
def RdRel1 (w W : World) (g : Nat) (R : RD) (n : Int) (kk : Nat) (i : Value) (wr : World) : Prop := ∃ j : Nat, j + kk = R.ws.length ∧ i = .int .i64 (j : Int) ∧ OutR w W g (readR (R.ws.take j) n) wr
def RdRel2 (w W : World) (g : Nat) (x : RW) (out : List UInt8) (kk : Nat) (i : Value) (wr : World) : Prop := ∃ k : Nat, k + kk = x.ld ∧ i = .int .i64 (k : Int) ∧ OutR w W g (x.b.take k ++ out.drop k) wr
theorem zero_31 : (Try.prog.info? 31).map (·.zero) = some (some (.agg (bcs zeros).toArray)) := by kernel_rfl
theorem size_31 : (Try.prog.info? 31).map (·.size) = some 64 := by kernel_rfl
def ArrAns (w : World) (l : List UInt8) (e : Ending) (w' : World) : Prop := e = .returned (.agg (bcs l).toArray) ∧ Below w.heap.size w w'
set_option maxRecDepth 100000 in
set_option maxHeartbeats 4000000 in
theorem refRead_any (w : World) (v : Value) (R : RD) (h : RV w v R) (n : Int) (hlen : R.ws.length ≤ 1000000) :
    Calls Try.prog 24 #[v, .int .i64 n] w (ArrAns w (readR R.ws n)) := by
  obtain ⟨A, c, rfl, hm, hl⟩ := h
  have HM := Lib.hid hm
  have HL := Lib.hid hl
  clear hm hl
  go_enter Try.func24, Try.ntmps24
  go_wp2_with (first | ((with_reducible refine at_slot 2 ?_); refine wpList_boxH rfl 35 _ rfl _ rfl ?_; intro W1 HW1; have DW1 := Lib.hid (show HdD W1 w.heap.size (rcs R A c) by rw [HW1.out]; exact hd_new w _ _); have BW1 := Lib.hid (show Below w.heap.size w W1 by rw [HW1.out]; exact new_below w _); have zW1 := Lib.hid (show W1.heap.size = w.heap.size + 1 by rw [HW1.out, new_size])) | ((with_reducible refine at_slot 4 ?_); refine wpList_allocH rfl 31 rfl _ zero_31 ?_; intro W2 HW2; have DW2 := Lib.hid (show HdD W2 W1.heap.size (bcs zeros) by rw [HW2.out]; exact hd_new W1 _ _); have BW2 := Lib.hid (show Below W1.heap.size W1 W2 by rw [HW2.out]; exact new_below W1 _); have zW2 := Lib.hid (show W2.heap.size = W1.heap.size + 1 by rw [HW2.out, new_size])) | ((with_reducible refine at_slot 5 ?_); refine wpList_allocH rfl 31 rfl _ zero_31 ?_; intro W3 HW3; have DW3 := Lib.hid (show HdD W3 W2.heap.size (bcs zeros) by rw [HW3.out]; exact hd_new W2 _ _); have BW3 := Lib.hid (show Below W2.heap.size W2 W3 by rw [HW3.out]; exact new_below W2 _); have zW3 := Lib.hid (show W3.heap.size = W2.heap.size + 1 by rw [HW3.out, new_size]); have E3 := Lib.hid ((DW1.out.keep (by have := zW1.out; omega) BW2.out).keep (by have := zW1.out; have := zW2.out; omega) BW3.out); have c1 : W3.cell? ⟨w.heap.size, 1, none⟩ = some (.slice A R.ws.length c) := E3.out.cell 1 _ (rcs_1 A c)))
  have hzs := And.intro zW1.out (And.intro zW2.out zW3.out)
  have B3 := Lib.hid (show Below w.heap.size w W3 from (BW1.out.trans (BW2.out.mono (by omega))).trans (BW3.out.mono (by omega)))
  have E2 := Lib.hid (show HdD W3 W1.heap.size (bcs zeros) from DW2.out.keep (by omega) BW3.out)
  obtain ⟨gO, hgO⟩ : ∃ g, W2.heap.size = g := ⟨_, rfl⟩
  obtain ⟨gR, hgR⟩ : ∃ g, W1.heap.size = g := ⟨_, rfl⟩
  obtain ⟨g0, hg0⟩ : ∃ g, w.heap.size = g := ⟨_, rfl⟩
  rw [hgO] at DW3 ⊢
  rw [hgR] at E2 ⊢
  rw [hg0] at E3 c1 ⊢
  have HZ := Lib.hid (show g0 + 1 = gR ∧ gR + 1 = gO ∧ gO + 1 = W3.heap.size ∧ w.heap.size = g0 by omega)
  clear hzs hgO hgR hg0 zW1 zW2 zW3 BW1 BW2 BW3 DW1 DW2 HW1 HW2 HW3
  go_loopg [11] R.ws.length (RdRel1 w W3 gO R n)
  case atStart => exact ⟨0, by omega, rfl, DW3.out, rfl, rfl, fun _ _ => rfl, B3.out⟩
  case round =>
    obtain ⟨j, hk, rfl, hO⟩ := hrel
    have HO := Lib.hid hO
    clear hO
    have k1 : wr.cell? ⟨g0, 1, none⟩ = some (.slice A R.ws.length c) := (World.cell?_of_block (a := ⟨g0, 1, none⟩) (HO.out.oth g0 (by have := HZ.out; omega))).trans c1
    by_cases hlt : j < R.ws.length
    · obtain ⟨b, hA, hr, hb⟩ := HM.out.at_ (by omega)
      have hrow := Rm.one_at HM.out.ok hr j hlt
      rw [Nat.zero_add] at hrow
      have hbo : b ≠ gO := by have := HZ.out; omega
      have hrw : wr.rangeAt b (j * 66) (wcs R.ws[j]) := rangeAt_of hrow ((HO.out.oth b hbo).trans (B3.out.block b hb))
      obtain ⟨x, hx⟩ : ∃ x, R.ws[j] = x := ⟨_, rfl⟩
      have hxo := HM.out.ok x (by rw [← hx]; exact List.getElem_mem _)
      rw [hx] at hrw hrow
      have HX := Lib.hid hx
      have HXO := Lib.hid hxo
      subst hA
      have r0 : wr.cell? ⟨b, j * 66, none⟩ = some (.int .i64 x.bk) := hrw 0 _ rfl
      have HRow := Lib.hid (show W3.rangeAt b (j * 66) (wcs x) from rangeAt_of hrow (B3.out.block b hb))
      clear hrw hrow hr hx hxo
      by_cases hbk : x.bk = n
      · have hbk' : (x.bk == n) = true := by simpa using hbk
        go_wp2_with fail
        have hX := HO.out.len
        have HXl := Lib.hid hX
        have HO2 := Lib.hid (show OutR w W3 gO (x.b.take 0 ++ (readR (R.ws.take j) n).drop 0) wr by rw [List.take_zero, List.drop_zero, List.nil_append]; exact HO.out)
        clear hX r0 k1
        go_loopg [7] x.ld (RdRel2 w W3 gO x (readR (R.ws.take j) n))
        case atStart => exact ⟨0, by omega, rfl, HO2.out⟩
        case round =>
          rename World => wr2
          obtain ⟨k, hk2, rfl, hO2⟩ := hrel
          have HO3 := Lib.hid hO2
          clear hO2
          have k1 : wr2.cell? ⟨g0, 1, none⟩ = some (.slice (some ⟨b, 0, none⟩) R.ws.length c) := (World.cell?_of_block (a := ⟨g0, 1, none⟩) (HO3.out.oth g0 (by have := HZ.out; omega))).trans c1
          have hrw2 : wr2.rangeAt b (j * 66) (wcs x) := rangeAt_of HRow.out (HO3.out.oth b hbo)
          have hl64 : x.ld ≤ 64 := HXO.out.2
          have rl : wr2.cell? ⟨b, j * 66 + 65, none⟩ = some (.int .i64 (x.ld : Int)) := hrw2 65 _ (wcs_65 HXO.out.1)
          by_cases hkl : k < x.ld
          · have hkb : k < x.b.length := by rw [HXO.out.1]; omega
            have rb : wr2.cell? ⟨b, j * 66 + 1 + k, none⟩ = some (.int .u8 (x.b[k].toNat : Int)) := by
              have := hrw2 (1 + k) _ (wcs_b k hkb)
              rwa [← Nat.add_assoc] at this
            have hOl := HO3.out.len
            obtain ⟨old, ho⟩ : ∃ old, (bcs (x.b.take k ++ (readR (R.ws.take j) n).drop k))[k]? = some old := ⟨_, List.getElem?_eq_getElem (by rw [bcs_len, hOl]; omega)⟩
            have ro : wr2.cell? ⟨gO, k, none⟩ = some old := HO3.out.hd.cell k _ ho
            have fo : wr2.frozen? ⟨gO, k, none⟩ = false := HO3.out.hd.2 k (by rw [bcs_len, hOl]; omega)
            have HST := Lib.hid (HO3.out.set k (by omega) x.b[k] (by have := HZ.out; omega))
            rw [take_set k HXO.out.1 HXl.out (by omega)] at HST
            obtain ⟨bb, hbb⟩ : ∃ bb : Nat, x.b[k].toNat = bb := ⟨_, rfl⟩
            rw [hbb] at rb HST
            clear hrw2 ho hOl hbb
            go_wp2_with fail
            go_roundg (x.ld - (k + 1))
            case rel => exact ⟨k + 1, by omega, by go_num, HST.out⟩
            case measure => omega
          · have hkl' : k = x.ld := by omega
            have HKL := Lib.hid hkl'
            have hkk : ¬ ((k : Int) < (x.ld : Int)) := by omega
            clear hrw2 hkl'
            go_wp2_with fail
            go_roundg (R.ws.length - (j + 1))
            case rel =>
              refine ⟨j + 1, by omega, by go_num, ?_⟩
              rw [readR_take _ _ _ hlt, HX.out]
              unfold stepW
              rw [if_pos hbk]
              have := HO3.out
              rw [HKL.out] at this
              exact this
            case measure => omega
      · have hbk' : (x.bk == n) = false := by simpa using hbk
        go_wp2_with fail
        go_roundg (R.ws.length - (j + 1))
        case rel =>
          refine ⟨j + 1, by omega, by go_num, ?_⟩
          rw [readR_take _ _ _ hlt, HX.out]
          unfold stepW
          rw [if_neg hbk]
          exact HO.out
        case measure => omega
    · obtain rfl : j = R.ws.length := by omega
      have hO := HO.out
      rw [List.take_length] at hO
      have HOF := Lib.hid hO
      have HE := Lib.hid (show HdD wr gR (bcs zeros) from E2.out.same (HO.out.oth gR (by have := HZ.out; omega)))
      clear hO k1
      go_wp2_with (first | ((with_reducible refine at_slot 43 ?_); refine wpList_load_mid rfl 31 _ rfl _ _ rfl (bcs (readR R.ws n)) _ HOF.out.hd.1 Try.underlying31 rfl ?_ ?_; (rw [size_31, bcs_len, HOF.out.len])) | ((with_reducible refine at_store 31 ?_); refine wpList_storeH rfl 31 _ _ rfl _ _ _ rfl rfl ?c4 ?c5 (all_oneCell_toArray (bcs_one _)) ?_; (case c4 => ((have t := HE.out.th; rw [bcs_len] at t; have e5 : (bcs (readR R.ws n)).toArray.size = zeros.length := (by rw [List.size_toArray, bcs_len, HOF.out.len]; rfl); rw [e5]; exact t))); (case c5 => (rw [size_31]; have e5 : (bcs (readR R.ws n)).toArray.size = 64 := (by rw [List.size_toArray, bcs_len, HOF.out.len]); rw [e5])); intro W4 HW4))
      have e4 := HW4.out
      have h4 := HE.out.all (L' := bcs (readR R.ws n)) (by rw [bcs_len, bcs_len, HOF.out.len]; rfl)
      rw [← e4] at h4
      exact ret_cell _ gR rfl rfl h4.1 Try.underlying31 rfl (by rw [size_31, bcs_len, HOF.out.len]) rfl ⟨rfl, by rw [e4]; exact below_setCells HOF.out.blw (by have := HZ.out; omega) _ _⟩
end Go.Proofs.Ytnbagklgagomfaa
