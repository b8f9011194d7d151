/-
  A block that was made is read as its piece and mark; one whose marks are unlike is not. Plain.
-/
import Derived.Test.YtmejpjknofbffaaDoorRe6
namespace Go.Proofs.YtmejpjknofbffaaDoor
open Go.RowKit Go.Lib
set_option linter.unusedVariables false
set_option linter.unusedSimpArgs false

theorem un_one (n : Nat) : (UInt8.ofNat (n % 256)).toNat = n % 256 := by rw [UInt8.toNat_ofNat']; omega
theorem p4 : (256 : Nat) ^ 4 = 4294967296 := by decide
theorem p8 : (256 : Nat) ^ 8 = 18446744073709551616 := by decide
section
variable {p : Pc} {m : UInt8}
theorem blk0 : (p.blk m).getD 0 0 = m := rfl
theorem blk63 (h : p.da.length ≤ 42) : (p.blk m).getD 63 0 = m := by
  have e : p.blk m = (m :: (p.head ++ be 8 (fnv (p.head ++ p.da)) ++ p.da ++ List.replicate (42 - p.da.length) 0)) ++ [m] := by simp [Pc.blk]
  have hl : (m :: (p.head ++ be 8 (fnv (p.head ++ p.da)) ++ p.da ++ List.replicate (42 - p.da.length) 0)).length = 63 := by simp [p.head_len, be_len]; omega
  rw [e, List.getD_eq_getElem?_getD, List.getElem?_append_right (by omega), hl]
  rfl
theorem blk12 (h : p.da.length ≤ 42) : byteN (p.blk m) 12 = p.da.length := by
  have e0 : (p.blk m).getD 12 0 = UInt8.ofNat (p.da.length % 256) := by rw [blk_pre]; rfl
  rw [byteN, e0, un_one]
  omega
theorem blk_sum : cutL (p.blk m) 13 21 = be 8 (fnv (p.head ++ p.da)) := by
  rw [blk_pre]
  have e : p.pre m (be 8 (fnv (p.head ++ p.da))) = (m :: p.head) ++ (be 8 (fnv (p.head ++ p.da)) ++ (p.da ++ (List.replicate (42 - p.da.length) 0 ++ [m]))) := by simp [Pc.pre]
  unfold cutL
  rw [e, List.drop_left' (by simp [p.head_len]), List.take_left' (by rw [be_len])]
theorem blk_data (h : p.da.length ≤ 42) : cutL (p.blk m) 21 (21 + p.da.length) = p.da := by
  have e : p.blk m = (m :: (p.head ++ be 8 (fnv (p.head ++ p.da)))) ++ (p.da ++ (List.replicate (42 - p.da.length) 0 ++ [m])) := by simp [Pc.blk]
  unfold cutL
  rw [e, List.drop_left' (by simp [p.head_len, be_len]), show 21 + p.da.length - 21 = p.da.length by omega, List.take_left' rfl]
theorem blk_rest (h : p.da.length ≤ 42) : cutL (p.blk m) (21 + p.da.length) 63 = List.replicate (42 - p.da.length) 0 := by
  have e : p.blk m = (m :: (p.head ++ be 8 (fnv (p.head ++ p.da)) ++ p.da)) ++ (List.replicate (42 - p.da.length) 0 ++ [m]) := by simp [Pc.blk]
  unfold cutL
  rw [e, List.drop_left' (by simp [p.head_len, be_len]; omega), List.take_left' (by simp; omega)]
theorem readP_blk (h : p.Ok) : readP (p.blk m) = p := by
  have hl := h.d1
  have e1 : byteN (p.blk m) 1 = p.kd.toNat % 256 := by
    have e0 : (p.blk m).getD 1 0 = UInt8.ofNat (p.kd.toNat % 256) := by rw [blk_pre]; rfl
    rw [byteN, e0, un_one]
  have e10 : byteN (p.blk m) 10 = p.pa.toNat % 256 := by
    have e0 : (p.blk m).getD 10 0 = UInt8.ofNat (p.pa.toNat % 256) := by rw [blk_pre]; rfl
    rw [byteN, e0, un_one]
  have e11 : byteN (p.blk m) 11 = p.ps.toNat % 256 := by
    have e0 : (p.blk m).getD 11 0 = UInt8.ofNat (p.ps.toNat % 256) := by rw [blk_pre]; rfl
    rw [byteN, e0, un_one]
  have e2 : cutL (p.blk m) 2 6 = be 4 p.ep.toNat := by
    have e : p.blk m = (m :: be 1 p.kd.toNat) ++ (be 4 p.ep.toNat ++ (be 4 p.nu.toNat ++ (be 1 p.pa.toNat ++ be 1 p.ps.toNat ++ be 1 p.da.length ++ be 8 (fnv (p.head ++ p.da)) ++ p.da ++ List.replicate (42 - p.da.length) 0 ++ [m]))) := by simp [Pc.blk, Pc.head]
    unfold cutL
    rw [e, List.drop_left' (by simp [be_len]), List.take_left' (by rw [be_len])]
  have e6 : cutL (p.blk m) 6 10 = be 4 p.nu.toNat := by
    have e : p.blk m = (m :: (be 1 p.kd.toNat ++ be 4 p.ep.toNat)) ++ (be 4 p.nu.toNat ++ (be 1 p.pa.toNat ++ be 1 p.ps.toNat ++ be 1 p.da.length ++ be 8 (fnv (p.head ++ p.da)) ++ p.da ++ List.replicate (42 - p.da.length) 0 ++ [m])) := by simp [Pc.blk, Pc.head]
    unfold cutL
    rw [e, List.drop_left' (by simp [be_len]), List.take_left' (by rw [be_len])]
  have u2 : un (be 4 p.ep.toNat) = p.ep.toNat := un_be 4 _ (by have := h.e2; rw [p4]; omega)
  have u6 : un (be 4 p.nu.toNat) = p.nu.toNat := un_be 4 _ (by have := h.n2; rw [p4]; omega)
  rw [readP, e1, e10, e11, e2, e6, u2, u6, blk12 hl, blk_data hl]
  clear e1 e10 e11 e2 e6 u2 u6
  obtain ⟨h1, h2, h3, h4, h5, h6, h7, h8, h9, h10, h11, h12⟩ := h
  have a1 : ((p.kd.toNat % 256 : Nat) : Int) = p.kd := by omega
  have a2 : ((p.ep.toNat : Nat) : Int) = p.ep := by omega
  have a3 : ((p.nu.toNat : Nat) : Int) = p.nu := by omega
  have a4 : ((p.pa.toNat % 256 : Nat) : Int) = p.pa := by omega
  have a5 : ((p.ps.toNat % 256 : Nat) : Int) = p.ps := by omega
  rw [a1, a2, a3, a4, a5]
theorem blk_read (h : p.Ok) : readC (p.blk m) = 0 ∧ readA (p.blk m) = p ∧ readM (p.blk m) = m.toNat := by
  have hl := h.d1
  have hc : readC (p.blk m) = 0 := by
    have hs : sumL (p.blk m) = p.head ++ p.da := by rw [blk_pre]; exact sum_pre hl m (by rw [be_len])
    have hf := fnv_lt (p.head ++ p.da)
    rw [readC, if_neg (by rw [Pc.blk_len hl]; simp), if_neg (by rw [blk0, blk63 hl]; simp), if_neg (by rw [blk_sum, hs, un_be 8 _ (by rw [p8]; omega)]; simp),
      if_neg (by rw [blk12 hl]; omega), if_neg (by rw [blk12 hl, blk_rest hl]; simp [allZ]), if_neg (by rw [readP_blk h, Pc.bad_of h]; simp)]
  refine ⟨hc, ?_, ?_⟩
  · rw [readA, if_pos hc, readP_blk h]
  · rw [readM, if_pos hc, byteN, blk0]
end
/-- Unlike marks. -/
theorem torn_read {x : List UInt8} (h : x.length = 64) (h2 : x.getD 0 0 ≠ x.getD 63 0) : readC x = 20 := by rw [readC, if_neg (by omega), if_pos h2]
/-- A block on which the first bytes of another one stand. -/
theorem torn_marks {a b : List UInt8} (ha : a.length = 64) (hb : b.length = 64) {k : Nat} (h1 : 1 ≤ k) (h2 : k ≤ 63) : (b.take k ++ a.drop k).length = 64 ∧ (b.take k ++ a.drop k).getD 0 0 = b.getD 0 0 ∧ (b.take k ++ a.drop k).getD 63 0 = a.getD 63 0 := by
  refine ⟨by simp; omega, ?_, ?_⟩
  · rw [List.getD_eq_getElem?_getD, List.getElem?_append_left (by simp; omega), List.getElem?_take, if_pos (by omega), ← List.getD_eq_getElem?_getD]
  · rw [List.getD_eq_getElem?_getD, List.getElem?_append_right (by simp; omega), List.getElem?_drop, List.length_take, Nat.min_eq_left (by omega), show k + (63 - k) = 63 by omega, ← List.getD_eq_getElem?_getD]
end Go.Proofs.YtmejpjknofbffaaDoor
