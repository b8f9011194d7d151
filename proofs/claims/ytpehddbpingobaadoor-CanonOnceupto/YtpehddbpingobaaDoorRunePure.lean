/-
  The arithmetic of a sign's bytes: what the document's Rune says of them is what package utf8's decoder says.
-/
import Derived.Test.YtpehddbpingobaaDoorVTree
import Derived.Lib.ValidLaws
namespace Go.Proofs.YtpehddbpingobaaDoor
open Go.Lib

theorem get_at (s : ByteArray) (i : Nat) (h : i < s.size) : s.get! i = s[i] := by
  show s.data[i]! = s.data[i]
  rw [getElem!_pos s.data i h]
/-- What Rune answers of a text: its first sign and the width; no width where the decoder finds none. -/
def RuneOK (s : ByteArray) (n k : Int) : Prop := (Utf8.decode s 0 = (65533, 1) ∧ n = 0 ∧ k = 0) ∨ (Utf8.decode s 0 ≠ (65533, 1) ∧ n = (Utf8.decode s 0).1 ∧ k = (Utf8.decode s 0).2)
theorem rune_bad {s : ByteArray} (h : decodeN s.size (s.get! 0).toNat (s.get! 1).toNat (s.get! 2).toNat (s.get! 3).toNat = (65533, 1)) : RuneOK s 0 0 :=
  .inl ⟨by rw [decode_at]; simpa using h, rfl, rfl⟩
theorem rune_ok {s : ByteArray} {n k : Nat} (h : decodeN s.size (s.get! 0).toNat (s.get! 1).toNat (s.get! 2).toNat (s.get! 3).toNat = (n, k)) (hk : (n, k) ≠ (65533, 1)) : RuneOK s n k := by
  have e : Utf8.decode s 0 = (n, k) := by rw [decode_at]; simpa using h
  exact .inr ⟨by rw [e]; exact hk, by rw [e], by rw [e]⟩

set_option maxRecDepth 100000
set_option maxHeartbeats 4000000
theorem dec1 (n b0 b1 b2 b3 : Nat) (h : b0 < 128) : decodeN n b0 b1 b2 b3 = (b0, 1) := by unfold decodeN; rw [if_pos h]
theorem dec0 (n b0 b1 b2 b3 : Nat) (h0 : b0 < 256) (h : 128 ≤ b0 ∧ b0 < 194 ∨ 245 ≤ b0) : decodeN n b0 b1 b2 b3 = (65533, 1) := by
  unfold decodeN
  repeat' split
  all_goals first | rfl | (exfalso; omega)
theorem dec2_bad (n b0 b1 b2 b3 : Nat) (h0 : 194 ≤ b0 ∧ b0 < 224) (h1 : b1 < 256) (h : n < 2 ∨ b1 < 128 ∨ 191 < b1) : decodeN n b0 b1 b2 b3 = (65533, 1) := by
  unfold decodeN
  repeat' split
  all_goals first | rfl | (exfalso; omega)
theorem dec2_ok (n b0 b1 b2 b3 : Nat) (h0 : 194 ≤ b0 ∧ b0 < 224) (h1 : 128 ≤ b1 ∧ b1 ≤ 191) (h : 2 ≤ n) : decodeN n b0 b1 b2 b3 = ((b0 - 192) * 64 + (b1 - 128), 2) := by
  unfold decodeN
  repeat' split
  all_goals first | (exfalso; omega) | (apply Prod.ext <;> simp only <;> omega)
theorem dec3_bad (n b0 b1 b2 b3 : Nat) (h0 : 224 ≤ b0 ∧ b0 < 240) (h1 : b1 < 256) (h2 : b2 < 256) (h : n < 3 ∨ (b1 < 128 ∨ 191 < b1) ∨ (b2 < 128 ∨ 191 < b2) ∨ ((b0 - 224) * 64 + (b1 - 128)) * 64 + (b2 - 128) < 2048 ∨ (55296 ≤ ((b0 - 224) * 64 + (b1 - 128)) * 64 + (b2 - 128) ∧ ((b0 - 224) * 64 + (b1 - 128)) * 64 + (b2 - 128) < 57344)) : decodeN n b0 b1 b2 b3 = (65533, 1) := by
  unfold decodeN
  repeat' split
  all_goals first | rfl | (exfalso; omega)
theorem dec3_ok (n b0 b1 b2 b3 : Nat) (h0 : 224 ≤ b0 ∧ b0 < 240) (h1 : 128 ≤ b1 ∧ b1 ≤ 191) (h2 : 128 ≤ b2 ∧ b2 ≤ 191) (h : 3 ≤ n) (hc : 2048 ≤ ((b0 - 224) * 64 + (b1 - 128)) * 64 + (b2 - 128)) (hd : ((b0 - 224) * 64 + (b1 - 128)) * 64 + (b2 - 128) < 55296 ∨ 57344 ≤ ((b0 - 224) * 64 + (b1 - 128)) * 64 + (b2 - 128)) :
    decodeN n b0 b1 b2 b3 = (((b0 - 224) * 64 + (b1 - 128)) * 64 + (b2 - 128), 3) := by
  unfold decodeN
  repeat' split
  all_goals first | (exfalso; omega) | (apply Prod.ext <;> simp only <;> omega)
theorem dec4_bad (n b0 b1 b2 b3 : Nat) (h0 : 240 ≤ b0 ∧ b0 < 245) (h1 : b1 < 256) (h2 : b2 < 256) (h3 : b3 < 256) (h : n < 4 ∨ (b1 < 128 ∨ 191 < b1) ∨ (b2 < 128 ∨ 191 < b2) ∨ (b3 < 128 ∨ 191 < b3) ∨ (((b0 - 240) * 64 + (b1 - 128)) * 64 + (b2 - 128)) * 64 + (b3 - 128) < 65536 ∨ 1114111 < (((b0 - 240) * 64 + (b1 - 128)) * 64 + (b2 - 128)) * 64 + (b3 - 128)) :
    decodeN n b0 b1 b2 b3 = (65533, 1) := by
  unfold decodeN
  repeat' split
  all_goals first | rfl | (exfalso; omega)
theorem dec4_ok (n b0 b1 b2 b3 : Nat) (h0 : 240 ≤ b0 ∧ b0 < 245) (h1 : 128 ≤ b1 ∧ b1 ≤ 191) (h2 : 128 ≤ b2 ∧ b2 ≤ 191) (h3 : 128 ≤ b3 ∧ b3 ≤ 191) (h : 4 ≤ n) (hc : 65536 ≤ (((b0 - 240) * 64 + (b1 - 128)) * 64 + (b2 - 128)) * 64 + (b3 - 128)) (hd : (((b0 - 240) * 64 + (b1 - 128)) * 64 + (b2 - 128)) * 64 + (b3 - 128) ≤ 1114111) :
    decodeN n b0 b1 b2 b3 = ((((b0 - 240) * 64 + (b1 - 128)) * 64 + (b2 - 128)) * 64 + (b3 - 128), 4) := by
  unfold decodeN
  repeat' split
  all_goals first | (exfalso; omega) | (apply Prod.ext <;> simp only <;> omega)
theorem rune_ok' {s : ByteArray} {n k : Nat} {n' k' : Int} (h : decodeN s.size (s.get! 0).toNat (s.get! 1).toNat (s.get! 2).toNat (s.get! 3).toNat = (n, k)) (hk : k ≠ 1 ∨ n < 65533) (hn : n' = n) (hk' : k' = k) : RuneOK s n' k' := by
  subst hn; subst hk'
  exact rune_ok h (by intro e; simp at e; omega)
theorem rune1_ok (s : ByteArray) (h : 0 < s.size) (h0 : s[0].toNat < 128) : RuneOK s (s[0].toNat : Int) 1 :=
  rune_ok' (dec1 _ _ _ _ _ (by rw [get_at s 0 h]; exact h0)) (.inr (by rw [get_at s 0 h]; omega)) (by rw [get_at s 0 h]) rfl
theorem rune0_bad (s : ByteArray) (h : 0 < s.size) (h0 : 128 ≤ s[0].toNat ∧ s[0].toNat < 194 ∨ 245 ≤ s[0].toNat) : RuneOK s 0 0 :=
  rune_bad (dec0 _ _ _ _ _ (UInt8.toNat_lt _) (by rw [get_at s 0 h]; exact h0))
theorem rune_short2 (s : ByteArray) (h : 0 < s.size) (h0 : 194 ≤ s[0].toNat ∧ s[0].toNat < 224) (hz : s.size < 2) : RuneOK s 0 0 :=
  rune_bad (dec2_bad _ _ _ _ _ (by rw [get_at s 0 h]; exact h0) (UInt8.toNat_lt _) (.inl hz))
theorem rune_short3 (s : ByteArray) (h : 0 < s.size) (h0 : 224 ≤ s[0].toNat ∧ s[0].toNat < 240) (hz : s.size < 3) : RuneOK s 0 0 :=
  rune_bad (dec3_bad _ _ _ _ _ (by rw [get_at s 0 h]; exact h0) (UInt8.toNat_lt _) (UInt8.toNat_lt _) (.inl hz))
theorem rune_short4 (s : ByteArray) (h : 0 < s.size) (h0 : 240 ≤ s[0].toNat ∧ s[0].toNat < 245) (hz : s.size < 4) : RuneOK s 0 0 :=
  rune_bad (dec4_bad _ _ _ _ _ (by rw [get_at s 0 h]; exact h0) (UInt8.toNat_lt _) (UInt8.toNat_lt _) (UInt8.toNat_lt _) (.inl hz))
theorem rune2_bad (s : ByteArray) (hz : 2 ≤ s.size) (h0 : 194 ≤ s[0].toNat ∧ s[0].toNat < 224) (h : (s[1].toNat < 128 ∨ 191 < s[1].toNat)) : RuneOK s 0 0 :=
  rune_bad (by rw [get_at s 0 (by omega), get_at s 1 (by omega)]; exact dec2_bad _ _ _ _ _ h0 (UInt8.toNat_lt _) (.inr h))
theorem rune2_ok (s : ByteArray) (hz : 2 ≤ s.size) (h0 : 194 ≤ s[0].toNat ∧ s[0].toNat < 224) (h1 : 128 ≤ s[1].toNat ∧ s[1].toNat ≤ 191) : RuneOK s (((s[0].toNat : Int) - 192) * 64 + (s[1].toNat : Int) - 128) 2 :=
  rune_ok' (k := 2) (by rw [get_at s 0 (by omega), get_at s 1 (by omega)]; exact dec2_ok _ _ _ _ _ h0 h1 hz) (.inl (by omega)) (by omega) rfl
theorem rune3_bad (s : ByteArray) (hz : 3 ≤ s.size) (h0 : 224 ≤ s[0].toNat ∧ s[0].toNat < 240) (h : (s[1].toNat < 128 ∨ 191 < s[1].toNat) ∨ (s[2].toNat < 128 ∨ 191 < s[2].toNat)) : RuneOK s 0 0 :=
  rune_bad (by rw [get_at s 0 (by omega), get_at s 1 (by omega), get_at s 2 (by omega)]; exact dec3_bad _ _ _ _ _ h0 (UInt8.toNat_lt _) (UInt8.toNat_lt _) (by omega))
theorem rune3_out (s : ByteArray) (hz : 3 ≤ s.size) (h0 : 224 ≤ s[0].toNat ∧ s[0].toNat < 240) (h1 : 128 ≤ s[1].toNat ∧ s[1].toNat ≤ 191) (h2 : 128 ≤ s[2].toNat ∧ s[2].toNat ≤ 191) (hc : ((((s[0].toNat : Int) - 224) * 64 + (s[1].toNat : Int) - 128) * 64 + (s[2].toNat : Int) - 128) < 2048 ∨ 1114111 < ((((s[0].toNat : Int) - 224) * 64 + (s[1].toNat : Int) - 128) * 64 + (s[2].toNat : Int) - 128) ∨ (55296 ≤ ((((s[0].toNat : Int) - 224) * 64 + (s[1].toNat : Int) - 128) * 64 + (s[2].toNat : Int) - 128) ∧ ((((s[0].toNat : Int) - 224) * 64 + (s[1].toNat : Int) - 128) * 64 + (s[2].toNat : Int) - 128) < 57344)) : RuneOK s 0 0 :=
  rune_bad (by rw [get_at s 0 (by omega), get_at s 1 (by omega), get_at s 2 (by omega)]; exact dec3_bad _ _ _ _ _ h0 (UInt8.toNat_lt _) (UInt8.toNat_lt _) (by omega))
theorem rune3_ok (s : ByteArray) (hz : 3 ≤ s.size) (h0 : 224 ≤ s[0].toNat ∧ s[0].toNat < 240) (h1 : 128 ≤ s[1].toNat ∧ s[1].toNat ≤ 191) (h2 : 128 ≤ s[2].toNat ∧ s[2].toNat ≤ 191) (hc : 2048 ≤ ((((s[0].toNat : Int) - 224) * 64 + (s[1].toNat : Int) - 128) * 64 + (s[2].toNat : Int) - 128)) (hd : ((((s[0].toNat : Int) - 224) * 64 + (s[1].toNat : Int) - 128) * 64 + (s[2].toNat : Int) - 128) < 55296 ∨ 57344 ≤ ((((s[0].toNat : Int) - 224) * 64 + (s[1].toNat : Int) - 128) * 64 + (s[2].toNat : Int) - 128)) : RuneOK s ((((s[0].toNat : Int) - 224) * 64 + (s[1].toNat : Int) - 128) * 64 + (s[2].toNat : Int) - 128) 3 :=
  rune_ok' (k := 3) (by rw [get_at s 0 (by omega), get_at s 1 (by omega), get_at s 2 (by omega)]; exact dec3_ok _ _ _ _ _ h0 h1 h2 hz (by omega) (by omega)) (.inl (by omega)) (by omega) rfl
theorem rune4_bad (s : ByteArray) (hz : 4 ≤ s.size) (h0 : 240 ≤ s[0].toNat ∧ s[0].toNat < 245) (h : (s[1].toNat < 128 ∨ 191 < s[1].toNat) ∨ (s[2].toNat < 128 ∨ 191 < s[2].toNat) ∨ (s[3].toNat < 128 ∨ 191 < s[3].toNat)) : RuneOK s 0 0 :=
  rune_bad (by rw [get_at s 0 (by omega), get_at s 1 (by omega), get_at s 2 (by omega), get_at s 3 (by omega)]; exact dec4_bad _ _ _ _ _ h0 (UInt8.toNat_lt _) (UInt8.toNat_lt _) (UInt8.toNat_lt _) (by omega))
theorem rune4_out (s : ByteArray) (hz : 4 ≤ s.size) (h0 : 240 ≤ s[0].toNat ∧ s[0].toNat < 245) (h1 : 128 ≤ s[1].toNat ∧ s[1].toNat ≤ 191) (h2 : 128 ≤ s[2].toNat ∧ s[2].toNat ≤ 191) (h3 : 128 ≤ s[3].toNat ∧ s[3].toNat ≤ 191) (hc : (((((s[0].toNat : Int) - 240) * 64 + (s[1].toNat : Int) - 128) * 64 + (s[2].toNat : Int) - 128) * 64 + (s[3].toNat : Int) - 128) < 65536 ∨ 1114111 < (((((s[0].toNat : Int) - 240) * 64 + (s[1].toNat : Int) - 128) * 64 + (s[2].toNat : Int) - 128) * 64 + (s[3].toNat : Int) - 128) ∨ (55296 ≤ (((((s[0].toNat : Int) - 240) * 64 + (s[1].toNat : Int) - 128) * 64 + (s[2].toNat : Int) - 128) * 64 + (s[3].toNat : Int) - 128) ∧ (((((s[0].toNat : Int) - 240) * 64 + (s[1].toNat : Int) - 128) * 64 + (s[2].toNat : Int) - 128) * 64 + (s[3].toNat : Int) - 128) < 57344)) : RuneOK s 0 0 :=
  rune_bad (by rw [get_at s 0 (by omega), get_at s 1 (by omega), get_at s 2 (by omega), get_at s 3 (by omega)]; exact dec4_bad _ _ _ _ _ h0 (UInt8.toNat_lt _) (UInt8.toNat_lt _) (UInt8.toNat_lt _) (by omega))
theorem rune4_ok (s : ByteArray) (hz : 4 ≤ s.size) (h0 : 240 ≤ s[0].toNat ∧ s[0].toNat < 245) (h1 : 128 ≤ s[1].toNat ∧ s[1].toNat ≤ 191) (h2 : 128 ≤ s[2].toNat ∧ s[2].toNat ≤ 191) (h3 : 128 ≤ s[3].toNat ∧ s[3].toNat ≤ 191) (hc : 65536 ≤ (((((s[0].toNat : Int) - 240) * 64 + (s[1].toNat : Int) - 128) * 64 + (s[2].toNat : Int) - 128) * 64 + (s[3].toNat : Int) - 128)) (hd : (((((s[0].toNat : Int) - 240) * 64 + (s[1].toNat : Int) - 128) * 64 + (s[2].toNat : Int) - 128) * 64 + (s[3].toNat : Int) - 128) ≤ 1114111) : RuneOK s (((((s[0].toNat : Int) - 240) * 64 + (s[1].toNat : Int) - 128) * 64 + (s[2].toNat : Int) - 128) * 64 + (s[3].toNat : Int) - 128) 4 :=
  rune_ok' (k := 4) (by rw [get_at s 0 (by omega), get_at s 1 (by omega), get_at s 2 (by omega), get_at s 3 (by omega)]; exact dec4_ok _ _ _ _ _ h0 h1 h2 h3 hz (by omega) (by omega)) (.inl (by omega)) (by omega) rfl
end Go.Proofs.YtpehddbpingobaaDoor
