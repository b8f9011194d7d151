/-
  Hexadecimal digits, plain: so many lowest digits of a number; with noughts ahead.
-/
import Derived.WalkKit
import Derived.Lib.Hide
namespace Go.Proofs.YtmejpjknofbffaaDoor
open Go.RowKit Go.Lib
set_option linter.unusedVariables false
set_option linter.unusedSimpArgs false

def hexL : List UInt8 := [48, 49, 50, 51, 52, 53, 54, 55, 56, 57, 97, 98, 99, 100, 101, 102]
def hexD (n : Nat) : UInt8 := hexL.getD n 0
/-- The k lowest digits. -/
def hx : Nat → Nat → List UInt8
  | 0, _ => []
  | k + 1, n => hx k (n / 16) ++ [hexD (n % 16)]
theorem hx_len : ∀ k n, (hx k n).length = k
  | 0, _ => rfl
  | k + 1, n => by rw [hx, List.length_append, hx_len k]; rfl
theorem hx_head : ∀ k n, hx (k + 1) n = hexD (n / 16 ^ k % 16) :: hx k n
  | 0, n => by simp [hx]
  | k + 1, n => by
    have ih := hx_head k (n / 16)
    rw [hx, ih, List.cons_append, Nat.div_div_eq_div_mul]
    have e : 16 * 16 ^ k = 16 ^ (k + 1) := by rw [Nat.pow_succ, Nat.mul_comm]
    rw [e]
    rfl
theorem hx_pad (k n : Nat) (h : n < 16 ^ k) : ∀ d, hx (k + d) n = List.replicate d 48 ++ hx k n
  | 0 => rfl
  | d + 1 => by
    have ih := hx_pad k n h d
    rw [← Nat.add_assoc, hx_head, ih]
    have hz : n / 16 ^ (k + d) = 0 := Nat.div_eq_of_lt (Nat.lt_of_lt_of_le h (Nat.pow_le_pow_right (by decide) (by omega)))
    rw [hz]
    rfl
theorem hx_pad' {k n d : Nat} (h : n < 16 ^ k) (hk : k ≤ d) : hx d n = List.replicate (d - k) 48 ++ hx k n := by
  have := hx_pad k n h (d - k)
  rw [show k + (d - k) = d by omega] at this
  exact this
theorem hexD_at (n : Nat) (h : n < 16) : hexL[n]? = some (hexD n) := by
  rw [hexD, List.getD_eq_getElem?_getD, List.getElem?_eq_getElem (by simpa [hexL] using h)]
  rfl
/-- A text's sum, as a number. -/
def fnvStep (h : Nat) (c : UInt8) : Nat := ((h ^^^ c.toNat) * 1099511628211) % 18446744073709551616
def fnv (l : List UInt8) : Nat := l.foldl fnvStep 14695981039346656037
theorem fnv_snoc (l : List UInt8) (c : UInt8) : fnv (l ++ [c]) = fnvStep (fnv l) c := by unfold fnv; rw [List.foldl_append, List.foldl_cons, List.foldl_nil]
theorem fnvStep_lt (h : Nat) (c : UInt8) : fnvStep h c < 18446744073709551616 := Nat.mod_lt _ (by decide)
theorem fold_lt : ∀ (l : List UInt8) (h : Nat), h < 18446744073709551616 → l.foldl fnvStep h < 18446744073709551616
  | [], h, hh => hh
  | c :: r, h, _ => fold_lt r (fnvStep h c) (fnvStep_lt h c)
theorem fnv_lt (l : List UInt8) : fnv l < 18446744073709551616 := fold_lt l _ (by omega)
def sumB (s : ByteArray) : ByteArray := ⟨(hx 16 (fnv s.data.toList)).toArray⟩
end Go.Proofs.YtmejpjknofbffaaDoor
