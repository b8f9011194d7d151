/-
  Names: what the program calls of package strings (the first byte of a kind, a cut at the first colon, a sign ahead), walked.
-/
import Derived.Test.YtakibkbmikkpdaaDoorIdP0
import Derived.Test.YtakibkbmikkpdaaDoorProg
import Derived.Lib.Bytealg
namespace Go.Proofs.YtakibkbmikkpdaaDoor
open Go.RowKit Go.Lib
set_option linter.unusedVariables false
set_option linter.unusedSimpArgs false

set_option maxHeartbeats 1000000 in
set_option maxRecDepth 100000 in
theorem slIndexByte_any (s : ByteArray) (c : UInt8) (w : World) :
    Calls Tryd.prog 43 #[.string s, .int .u8 c.toNat] w fun e w' => e = .returned (.int .i64 (indexByte s.data.toList c)) ∧ w = w' := by
  have hc : ((c.toNat : Int)).toNat.toUInt8 = c := by simp
  go_enter Tryd.func43, Tryd.ntmps43
  go_wp2_with fail
  rw [run_callFunc_extern Tryd.func48 (by kernel_rfl) (by kernel_rfl) (by kernel_rfl) (e := Extern.BytealgIndexByte.indexByte) (by kernel_rfl), Lib.run_indexByteString, hc]
  simp only [Result.andThen]
  rw [Oper.upon_value]
  go_wp2_with fail
  go_ret
  exact ⟨rfl, rfl⟩
set_option maxHeartbeats 1000000 in
set_option maxRecDepth 100000 in
theorem indexByte_any (s : ByteArray) (c : UInt8) (w : World) :
    Calls Tryd.prog 40 #[.string s, .int .u8 c.toNat] w fun e w' => e = .returned (.int .i64 (indexByte s.data.toList c)) ∧ w = w' := by
  have H := Lib.hid (slIndexByte_any s c w)
  go_enter Tryd.func40, Tryd.ntmps40
  go_wp2_with fail
  refine H.out.mono ?_
  rintro e w' ⟨rfl, rfl⟩
  go_wp2_with fail
  go_ret
  exact ⟨rfl, rfl⟩
set_option maxHeartbeats 1000000 in
set_option maxRecDepth 100000 in
theorem slIndex_any (s : ByteArray) (w : World) :
    Calls Tryd.prog 42 #[.string s, .string ⟨#[58]⟩] w fun e w' => e = .returned (.int .i64 (indexByte s.data.toList 58)) ∧ w = w' := by
  by_cases hs : s = ⟨#[58]⟩
  · subst hs
    have hi : indexByte [58] 58 = 0 := rfl
    go_enter Tryd.func42, Tryd.ntmps42
    go_wp2_with fail
    go_ret
    exact ⟨rfl, rfl⟩
  · have h2 : ([58] == s.toList) = false := by
      rw [beq_eq_false_iff_ne]
      intro h
      rw [Go.ByteArray.toList_eq] at h
      exact hs (byte_ext (b := ⟨#[58]⟩) h.symm)
    have h1 : (ByteArray.toList ⟨#[58]⟩ == s.toList) = false := by rw [Go.ByteArray.toList_eq]; exact h2
    have h3 : ([58] == s.data.toList) = false := by rw [Go.ByteArray.toList_eq] at h2; exact h2
    have H := Lib.hid (slIndexByte_any s 58 w)
    clear hs
    go_enter Tryd.func42, Tryd.ntmps42
    go_wp2_with fail
    refine H.out.mono ?_
    rintro e w' ⟨rfl, rfl⟩
    go_wp2_with fail
    go_ret
    exact ⟨rfl, rfl⟩
set_option maxHeartbeats 1000000 in
set_option maxRecDepth 100000 in
theorem slCut_any (s : ByteArray) (w : World) (hs : s.size ≤ 1000000) :
    Calls Tryd.prog 38 #[.string s, .string ⟨#[58]⟩] w fun e w' => e = .returned (.tuple #[.string (aheadB s), .string (behindB s), .bool (hasB s 58)]) ∧ ∃ n, w.drewN n = w' := by
  have H := Lib.hid (slIndex_any s w)
  rw [index_ahead] at H
  have hl : (aheadL s.data.toList).length ≤ s.data.toList.length := (List.takeWhile_prefix _).length_le
  obtain ⟨P, hP⟩ : ∃ P, aheadB s = P := ⟨_, rfl⟩
  obtain ⟨Q, hQ⟩ : ∃ Q, behindB s = Q := ⟨_, rfl⟩
  by_cases hh : s.data.toList.contains 58 = true
  · rw [if_pos hh] at H
    obtain ⟨k, hk⟩ : ∃ k, (aheadL s.data.toList).length = k := ⟨_, rfl⟩
    rw [hk] at H
    have hlt : k < s.size := by
      rcases Nat.lt_or_ge k s.size with h | h
      · exact h
      · exfalso
        have h2 : s.data.toList.length = s.size := by rw [Array.length_toList]; rfl
        have h3 : aheadL s.data.toList = s.data.toList := (List.takeWhile_prefix _).eq_of_length_le (by show s.data.toList.length ≤ (aheadL s.data.toList).length; omega)
        have h4 : (aheadL s.data.toList).all (fun c => !(c == 58)) = true := List.all_takeWhile
        rw [h3, List.all_eq_true] at h4
        have := h4 58 (by simpa using hh)
        exact absurd this (by decide)
    have ht : aheadL s.data.toList = s.data.toList.take k := by
      rw [← hk]
      exact List.prefix_iff_eq_take.1 (List.takeWhile_prefix _)
    obtain ⟨e1, e2⟩ := extract_ahead hlt ht
    rw [hP] at e1
    rw [hQ] at e2
    have hb : hasB s 58 = true := hh
    rw [hP, hQ, hb]
    have HE := Lib.hid (And.intro e1 e2)
    have q0 : (0 : Int) ≤ (k : Int) := by omega
    have q1 : (k : Int) ≤ (s.size : Int) := by omega
    have q2 : (k : Int) + 1 ≤ (s.size : Int) := by omega
    have q3 : IntKind.i64.wrap ((k : Int) + 1) = (k : Int) + 1 := IntWalk.i64_in _ (by omega)
    have q4 : (0 : Int) ≤ (k : Int) + 1 := by omega
    have q5 : ((k : Int) + 1).toNat = k + 1 := by omega
    clear e1 e2 hb hh hk ht hP hQ hl
    go_enter Tryd.func38, Tryd.ntmps38
    go_wp2_with fail
    refine H.out.mono ?_
    rintro e w' ⟨rfl, rfl⟩
    go_wp2_with fail
    go_quiet (fail)
    go_wp2_with fail
    refine bodyPost_ret (v := .tuple #[.string (s.extract 0 k), .string (s.extract (k + 1) s.size), .bool true]) (by simp [results, Tryd.results38, go_sem]) rfl ⟨?_, nq, rfl⟩
    rw [HE.out.1, HE.out.2]
  · rw [if_neg hh] at H
    have hb : hasB s 58 = false := by
      cases h : hasB s 58 with
      | false => rfl
      | true => exact absurd h hh
    have e1 : aheadB s = s := by rw [aheadB, ahead_none hb]
    have e2 : behindB s = ⟨#[]⟩ := behind_none hb
    rw [e1, e2, hb]
    clear e1 e2 hb hh hP hQ hl
    go_enter Tryd.func38, Tryd.ntmps38
    go_wp2_with fail
    refine H.out.mono ?_
    rintro e w' ⟨rfl, rfl⟩
    go_wp2_with fail
    exact bodyPost_ret (v := .tuple #[.string s, .string ⟨#[]⟩, .bool false]) (by simp [results, Tryd.results38, go_sem]) rfl ⟨rfl, 0, rfl⟩
set_option maxHeartbeats 1000000 in
set_option maxRecDepth 100000 in
theorem cut_any (s : ByteArray) (w : World) (hs : s.size ≤ 1000000) :
    Calls Tryd.prog 28 #[.string s, .string ⟨#[58]⟩] w fun e w' => e = .returned (.tuple #[.string (aheadB s), .string (behindB s), .bool (hasB s 58)]) ∧ ∃ n, w.drewN n = w' := by
  have H := Lib.hid (slCut_any s w hs)
  go_enter Tryd.func28, Tryd.ntmps28
  go_wp2_with fail
  refine H.out.mono ?_
  rintro e w' ⟨rfl, n, rfl⟩
  go_wp2_with fail
  exact bodyPost_ret (v := .tuple #[.string (aheadB s), .string (behindB s), .bool (hasB s 58)]) (by simp [results, Tryd.results28, go_sem]) rfl ⟨rfl, n, rfl⟩
end Go.Proofs.YtakibkbmikkpdaaDoor
