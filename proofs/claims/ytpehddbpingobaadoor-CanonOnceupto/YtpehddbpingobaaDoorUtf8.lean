/-
  The document's UTF8 (package enfiladeref01) answers as package utf8's ValidString.
-/
import Derived.Test.YtpehddbpingobaaDoorRune
namespace Go.Proofs.YtpehddbpingobaaDoor
open Go.RowKit Go.Lib
set_option linter.unusedVariables false
set_option linter.unusedSimpArgs false

theorem decodeL_of (t : ByteArray) : decodeL t.data.toList = Utf8.decode t 0 := by
  unfold decodeL
  rw [Lib.mk_data]
theorem validB_empty {t : ByteArray} (h : t.toList.isEmpty = true) : validB t = true := by
  have : t.data.toList = [] := by rw [← Go.ByteArray.toList_eq]; simpa using h
  unfold validB validD
  rw [this]; rfl
theorem data_ne {t : ByteArray} (h : 0 < t.size) : t.data.toList ≠ [] := fun e => by
  have : t.data.toList.length = 0 := by rw [e]; rfl
  rw [Array.length_toList] at this
  exact absurd (show t.size = 0 from this) (by omega)
theorem validB_bad {t : ByteArray} (h : 0 < t.size) (hd : Utf8.decode t 0 = (65533, 1)) : validB t = false := by
  unfold validB
  rw [validD_step _ (data_ne h), decodeL_of, hd]
  simp
theorem width_le (n b0 b1 b2 b3 : Nat) (h : 0 < n) : (decodeN n b0 b1 b2 b3).2 ≤ n ∧ 1 ≤ (decodeN n b0 b1 b2 b3).2 := by
  unfold decodeN
  repeat' split
  all_goals simp only <;> omega
theorem validB_ok {t : ByteArray} (h : 0 < t.size) (hd : Utf8.decode t 0 ≠ (65533, 1)) : validB (t.extract (Utf8.decode t 0).2 t.size) = validB t ∧ 1 ≤ (Utf8.decode t 0).2 ∧ (Utf8.decode t 0).2 ≤ t.size := by
  have hw := width_le t.size (t.get! 0).toNat (t.get! 1).toNat (t.get! 2).toNat (t.get! 3).toNat h
  have e : Utf8.decode t 0 = decodeN t.size (t.get! 0).toNat (t.get! 1).toNat (t.get! 2).toNat (t.get! 3).toNat := by rw [decode_at]; simp
  rw [← e] at hw
  refine ⟨?_, hw.2, hw.1⟩
  unfold validB
  rw [validD_step _ (data_ne h), decodeL_of, if_neg (fun hh => hd (Prod.ext hh.1 hh.2)), Lib.extract_data]
  congr 1
  have hl : t.data.toList.length = t.size := by rw [Array.length_toList]; rfl
  rw [List.take_of_length_le (by simp)]

def Utf8Rel (s : ByteArray) (w : World) (k : Nat) (e : Value) (wr : World) : Prop := ∃ t : ByteArray, t.size = k ∧ e = .string t ∧ validB t = validB s ∧ t.size ≤ 9223372036854775807 ∧ w = wr

set_option maxHeartbeats 4000000 in
theorem utf8_any (s : ByteArray) (w : World) (hs : s.size ≤ 9223372036854775807) :
    Calls Tryd.prog 28 #[.string s] w fun e w' => e = .returned (.bool (validB s)) ∧ w = w' := by
  obtain ⟨R, hR⟩ : ∃ R, validB s = R := ⟨_, rfl⟩
  rw [hR]
  have HR := Lib.hid hR
  clear hR
  go_enter Tryd.func28, Tryd.ntmps28
  go_wp2_with fail
  go_loopg [0] s.size (Utf8Rel s w)
  case atStart => exact ⟨s, rfl, rfl, rfl, hs, rfl⟩
  case round =>
    obtain ⟨t, hk, rfl, hv, ht, rfl⟩ := hrel
    have HV := Lib.hid (And.intro hk hv)
    clear hk hv
    by_cases h0 : 0 < t.size
    · have hne := isEmpty_of h0
      go_wp2_with fail
      refine (rune_any t _ ht h0).mono ?_
      rintro e w1 ⟨n, k, rfl, hr, rfl⟩
      rcases hr with ⟨hd, rfl, rfl⟩ | ⟨hd, rfl, rfl⟩
      · have HD := Lib.hid hd
        clear hd
        go_wp2_with fail
        go_ret
        exact ⟨by rw [← HR.out, ← HV.out.2, validB_bad h0 HD.out]; rfl, rfl⟩
      · obtain ⟨hx, h1, h2⟩ := validB_ok h0 hd
        have HX := Lib.hid hx
        clear hx hd
        generalize (Utf8.decode t 0).2 = m at *
        generalize (Utf8.decode t 0).1 = c at *
        have hm0 : (((m : Nat) : Int) == 0) = false := by rw [beq_eq_false_iff_ne]; omega
        have hm1 : (0 : Int) ≤ (m : Int) := by omega
        have hm2 : (m : Int) ≤ (t.size : Int) := by omega
        go_wp2_with fail
        go_roundg (t.size - m)
        case rel => 
          refine ⟨t.extract m t.size, ?_, ?_, ?_, ?_, rfl⟩
          · simp
          · rfl
          · rw [HX.out, HV.out.2]
          · simp; omega
        case measure => have := HV.out.1; omega
    · have hne : t.toList.isEmpty = true := by
        have : t.toList = [] := List.eq_nil_of_length_eq_zero (by rw [Go.ByteArray.toList_eq, Array.length_toList]; show t.size = 0; omega)
        simp [this]
      go_wp2_with fail
      go_ret
      exact ⟨by rw [← HR.out, ← HV.out.2, validB_empty hne]; rfl, rfl⟩
end Go.Proofs.YtpehddbpingobaaDoor
