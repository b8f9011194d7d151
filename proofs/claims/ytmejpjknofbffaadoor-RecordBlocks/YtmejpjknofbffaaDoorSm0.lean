/-
  A text's sum: the program's, walked, as long as its hex is.
-/
import Derived.Test.YtmejpjknofbffaaDoorHex1
import Derived.Laws.Bits64
namespace Go.Proofs.YtmejpjknofbffaaDoor
open Go.RowKit Go.Lib
set_option linter.unusedVariables false
set_option linter.unusedSimpArgs false

theorem take_snocS (s : ByteArray) (k : Nat) (h : k < s.size) : s.data.toList.take (k + 1) = s.data.toList.take k ++ [s[k]] := by
  rw [List.take_succ_eq_append_getElem (by simpa using h)]; rfl
theorem fnv_step (s : ByteArray) (k : Nat) (h : k < s.size) : fnv (s.data.toList.take (k + 1)) = fnvStep (fnv (s.data.toList.take k)) s[k] := by
  rw [take_snocS s k h, fnv_snoc]
def SumRel (w : World) (s : ByteArray) (kk : Nat) (u i : Value) (wr : World) : Prop :=
  ∃ k : Nat, k + kk = s.size ∧ i = .int .i64 k ∧ u = .int .u64 (fnv (s.data.toList.take k) : Nat) ∧ w = wr
set_option maxHeartbeats 1000000 in
set_option maxRecDepth 100000 in
theorem sum_of (s : ByteArray) (w : World) (hs : s.size ≤ 1000000)
    (hH : ∀ n : Nat, n < 18446744073709551616 → Calls Tryd.prog 34 #[.int .u64 n, .int .i64 16] w fun e w' => e = .returned (.string ⟨(hx 16 n).toArray⟩) ∧ Below w.heap.size w w') :
    Calls Tryd.prog 26 #[.string s] w fun e w' => e = .returned (.string (sumB s)) ∧ Below w.heap.size w w' := by
  have HH := Lib.hid hH
  clear hH
  go_enter Tryd.func26, Tryd.ntmps26
  go_wp2_with fail
  go_loopg [3, 7] s.size (SumRel w s)
  case atStart => exact ⟨0, by simp, rfl, rfl, rfl⟩
  case round =>
    obtain ⟨k, hk, rfl, rfl, rfl⟩ := hrel
    have hf := fnv_lt (s.data.toList.take k)
    by_cases hlt : k < s.size
    · have hst := fnv_step s k hlt
      obtain ⟨f, hfe⟩ : ∃ f, fnv (s.data.toList.take k) = f := ⟨_, rfl⟩
      rw [hfe] at hst hf ⊢
      have hc : s[k].toNat < 18446744073709551616 := by have := s[k].toNat_lt; omega
      have hxor := bits_xor_u64_nat f s[k].toNat hf hc
      obtain ⟨x, hx⟩ : ∃ x, f ^^^ s[k].toNat = x := ⟨_, rfl⟩
      rw [hx] at hxor
      have hmul : IntKind.u64.wrap ((x : Int) * 1099511628211) = ((x * 1099511628211 % 18446744073709551616 : Nat) : Int) := by rw [IntKind.wrap_u64]; omega
      have HX := Lib.hid (And.intro hst (And.intro hx hk))
      clear hst hx hk hfe
      go_wp2_with fail
      go_roundg (s.size - (k + 1))
      case rel =>
        obtain ⟨hst, hx, hk⟩ := HX.out
        refine ⟨k + 1, by omega, by go_num, ?_, rfl⟩
        rw [hst, fnvStep, hx]
        exact congrArg (Value.int .u64) (by omega)
      case measure => have := HX.out.2.2; omega
    · obtain rfl : k = s.size := by omega
      have HX := Lib.hid (show fnv (s.data.toList.take s.size) = fnv s.data.toList by rw [List.take_of_length_le (by simp)])
      rw [HX.out] at hf ⊢
      obtain ⟨f, hfe⟩ : ∃ f, fnv s.data.toList = f := ⟨_, rfl⟩
      rw [hfe] at hf ⊢
      have HF := Lib.hid hfe
      clear hfe HX hk
      go_wp2_with fail
      refine (HH.out f hf).mono ?_
      rintro e w' ⟨rfl, hb⟩
      have HB := Lib.hid hb
      clear hb
      go_wp2_with fail
      go_ret
      exact ⟨by rw [sumB, HF.out]; rfl, HB.out⟩
end Go.Proofs.YtmejpjknofbffaaDoor
