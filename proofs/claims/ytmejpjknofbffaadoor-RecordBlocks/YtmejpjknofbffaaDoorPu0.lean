/-
  Hexadecimal digits, read: plain.
-/
import Derived.Test.YtmejpjknofbffaaDoorHx0
namespace Go.Proofs.YtmejpjknofbffaaDoor
open Go.RowKit Go.Lib
set_option linter.unusedVariables false
set_option linter.unusedSimpArgs false

/-- What a letter is as a hexadecimal digit. -/
def hexv (c : UInt8) : Option Nat := if 48 ≤ c.toNat ∧ c.toNat ≤ 57 then some (c.toNat - 48) else if 65 ≤ c.toNat ∧ c.toNat ≤ 70 then some (c.toNat - 55) else if 97 ≤ c.toNat ∧ c.toNat ≤ 102 then some (c.toNat - 87) else none
def hexn (c : UInt8) : Nat := (hexv c).getD 0
def pvStep (n : Nat) (c : UInt8) : Nat := n * 16 + hexn c
/-- The number of digits. -/
def pv (l : List UInt8) : Nat := l.foldl pvStep 0
theorem pv_snoc (l : List UInt8) (c : UInt8) : pv (l ++ [c]) = pv l * 16 + hexn c := by unfold pv; rw [List.foldl_append, List.foldl_cons, List.foldl_nil]; rfl
theorem pv_fold : ∀ (l : List UInt8) (n : Nat), n ≤ l.foldl pvStep n
  | [], n => Nat.le_refl _
  | c :: r, n => Nat.le_trans (by unfold pvStep; omega) (pv_fold r (pvStep n c))
theorem pv_take (l : List UInt8) (k : Nat) : pv (l.take k) ≤ pv l := by
  have h : pv l = (l.drop k).foldl pvStep (pv (l.take k)) := by
    unfold pv
    rw [← List.foldl_append, List.take_append_drop]
  rw [h]
  exact pv_fold _ _
theorem hexn_lt (c : UInt8) : hexn c < 16 := by
  unfold hexn hexv
  split
  · simp; omega
  · split
    · simp; omega
    · split
      · simp; omega
      · simp
set_option maxRecDepth 100000 in
theorem or32_all : ∀ k : Fin 256, ((65 ≤ k.val ∧ k.val ≤ 70) → k.val ||| 32 = k.val + 32) ∧ ((97 ≤ k.val ∧ k.val ≤ 102) → k.val ||| 32 = k.val) ∧ k.val ||| 32 < 256 := by decide
theorem hexv_digit {c : UInt8} {v : Nat} (h : hexv c = some v) (hd : 48 ≤ c.toNat ∧ c.toNat ≤ 57) : c.toNat = v + 48 ∧ v < 10 := by
  unfold hexv at h
  rw [if_pos hd] at h
  cases h
  omega
theorem hexv_letter {c : UInt8} {v : Nat} (h : hexv c = some v) (hd : ¬ (48 ≤ c.toNat ∧ c.toNat ≤ 57)) : c.toNat ||| 32 = v + 87 ∧ 10 ≤ v ∧ v < 16 ∧ 65 ≤ c.toNat ∧ c.toNat ≠ 95 := by
  obtain ⟨h1, h2, h3⟩ := or32_all ⟨c.toNat, c.toNat_lt⟩
  simp only at h1 h2 h3
  unfold hexv at h
  rw [if_neg hd] at h
  split at h
  · rename_i hh
    cases h
    rw [h1 hh]
    omega
  · split at h
    · rename_i hh
      cases h
      rw [h2 hh]
      omega
    · cases h
/-- The digits of hx read as they are. -/
theorem hexv_hexD : ∀ r : Fin 16, hexv (hexD r.val) = some r.val := by decide
theorem hexn_hexD {r : Nat} (h : r < 16) : hexn (hexD r) = r := by
  have := hexv_hexD ⟨r, h⟩
  unfold hexn
  rw [this]
  rfl
theorem pv_hx : ∀ (k n : Nat), n < 16 ^ k → pv (hx k n) = n
  | 0, n, h => by simp at h; simp [hx, pv, h]
  | k + 1, n, h => by
    rw [hx, pv_snoc, pv_hx k (n / 16) (by rw [Nat.pow_succ] at h; omega), hexn_hexD (by omega)]
    omega
theorem hx_digits : ∀ (k n : Nat), ∀ c ∈ hx k n, (hexv c).isSome = true
  | 0, n, c, hc => by simp [hx] at hc
  | k + 1, n, c, hc => by
    rw [hx, List.mem_append] at hc
    rcases hc with hc | hc
    · exact hx_digits k _ c hc
    · rw [List.mem_singleton] at hc
      rw [hc, hexv_hexD ⟨n % 16, by omega⟩]
      rfl
theorem isEmpty_ne {s : ByteArray} (hne : s ≠ ⟨#[]⟩) : s.toList.isEmpty = false := by
  rcases hl : s.toList with _ | ⟨a, r⟩
  · exact absurd (ByteArray.ext (by simpa [ByteArray.toList_eq] using hl)) hne
  · rfl
end Go.Proofs.YtmejpjknofbffaaDoor
