/-
  The program's hex: a number's hexadecimal digits with noughts ahead, walked.
-/
import Derived.Test.YtmejpjknofbffaaDoorHex1
import Derived.Test.YtmejpjknofbffaaDoorPlain
namespace Go.Proofs.YtmejpjknofbffaaDoor
open Go.RowKit Go.Lib
set_option linter.unusedVariables false
set_option linter.unusedSimpArgs false

def FmtAns (n : Nat) (w : World) (e : Ending) (w' : World) : Prop := (∃ k, e = .returned (.string ⟨(hx k n).toArray⟩) ∧ 1 ≤ k ∧ k ≤ 16 ∧ n < 16 ^ k ∧ (k = 1 ∨ 16 ^ (k - 1) ≤ n)) ∧ Below w.heap.size w w'
set_option maxHeartbeats 1000000 in
set_option maxRecDepth 100000 in
theorem fmtI_any (n : Nat) (hn : n < 18446744073709551616) (w : World) (hd : Deb w) : Calls Tryd.prog 48 #[.int .u64 n, .int .i64 16] w (FmtAns n w) := by
  have H := Lib.hid (formatBits_any n hn w hd)
  go_enter Tryd.func48, Tryd.ntmps48
  go_wp2_with fail
  refine H.out.mono ?_
  rintro e w' ⟨⟨k, v, rfl, h1⟩, hb⟩
  have HB := Lib.hid (And.intro h1 hb)
  clear h1 hb
  go_wp2_with fail
  go_ret
  exact ⟨⟨k, rfl, HB.out.1⟩, HB.out.2⟩
set_option maxHeartbeats 1000000 in
set_option maxRecDepth 100000 in
theorem fmtU_any (n : Nat) (hn : n < 18446744073709551616) (w : World) (hd : Deb w) : Calls Tryd.prog 40 #[.int .u64 n, .int .i64 16] w (FmtAns n w) := by
  have H := Lib.hid (fmtI_any n hn w hd)
  unfold FmtAns at H
  go_enter Tryd.func40, Tryd.ntmps40
  go_wp2_with fail
  refine H.out.mono ?_
  rintro e w' ⟨⟨k, rfl, h1⟩, hb⟩
  have HB := Lib.hid (And.intro h1 hb)
  clear h1 hb
  go_wp2_with fail
  go_ret
  exact ⟨⟨k, rfl, HB.out.1⟩, HB.out.2⟩
theorem hx_size (k n : Nat) : (ByteArray.mk (hx k n).toArray).size = k := by
  have h2 : (ByteArray.mk (hx k n).toArray).size = (hx k n).length := List.size_toArray
  rw [h2, hx_len]
theorem repeat_nought (c : Nat) : Lib.repeatL [48] c = List.replicate c 48 := by
  induction c with
  | zero => rfl
  | succ c ih => rw [List.replicate_succ, ← ih]; rfl
theorem repeat_any (c : Nat) (hc : c ≤ 1000000) (w : World) : Calls Tryd.prog 41 #[.string ⟨#[48]⟩, .int .i64 c] w fun e w' => e = .returned (.string ⟨(List.replicate c 48).toArray⟩) ∧ Below w.heap.size w w' := by
  have h := Tryd.strings_Repeat ⟨#[48]⟩ c w (by omega) (by have : (ByteArray.mk #[48]).size = 1 := rfl; rw [this]; omega)
  refine h.mono ?_
  rintro e w' ⟨rfl, hb⟩
  exact ⟨by rw [← repeat_nought], hb⟩

set_option maxHeartbeats 1000000 in
set_option maxRecDepth 100000 in
theorem hex_any (n d : Nat) (w : World) (hw : Deb w) (hd1 : 1 ≤ d) (hd : d ≤ 16) (hn : n < 16 ^ d) (hn6 : n < 18446744073709551616) :
    Calls Tryd.prog 34 #[.int .u64 n, .int .i64 d] w fun e w' => e = .returned (.string ⟨(hx d n).toArray⟩) ∧ Below w.heap.size w w' := by
  have H := Lib.hid (fmtU_any n hn6 w hw)
  unfold FmtAns at H
  have HN := Lib.hid hn
  clear hn hn6 hw
  go_enter Tryd.func34, Tryd.ntmps34
  go_wp2_with fail
  refine H.out.mono ?_
  rintro e w1 ⟨⟨k, rfl, hk1, hk16, hkn, hmin⟩, hb⟩
  have hkd : k ≤ d := by
    rcases hmin with rfl | hmin
    · exact hd1
    · rcases Nat.lt_or_ge d k with h | h
      · have : 16 ^ d ≤ 16 ^ (k - 1) := Nat.pow_le_pow_right (by decide) (by omega)
        have := HN.out
        omega
      · exact h
  have hz := hx_size k n
  have HF := Lib.hid (And.intro (hx_pad' hkn hkd) hb)
  have HR := Lib.hid (repeat_any (d - k) (by omega))
  have hmx : max (0 : Int) ((d : Int) - (k : Int)) = ((d - k : Nat) : Int) := by omega
  clear hkn hmin hb
  have hrz : (ByteArray.mk (List.replicate (d - k) (48 : UInt8)).toArray).size = d - k := by
    have h2 : (ByteArray.mk (List.replicate (d - k) (48 : UInt8)).toArray).size = (List.replicate (d - k) (48 : UInt8)).length := List.size_toArray
    rw [h2, List.length_replicate]
  go_wp2_with fail
  refine (HR.out _).mono ?_
  rintro e w2 ⟨rfl, hb2⟩
  have HB2 := Lib.hid hb2
  clear hb2
  go_wp2_with fail
  go_ret
  obtain ⟨hp, hb⟩ := HF.out
  refine ⟨congrArg (fun x => Ending.returned (Value.string x)) (ByteArray.ext (Array.ext' ?_)), hb.trans (HB2.out.mono hb.size)⟩
  rw [ByteArray.data_append, Array.toList_append, hp]
  simp
end Go.Proofs.YtmejpjknofbffaaDoor
