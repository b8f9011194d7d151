/-
  Names: the document's first colon, walked.
-/
import Derived.Test.YtakibkbmikkpdaaDoorId1
namespace Go.Proofs.YtakibkbmikkpdaaDoor
open Go.RowKit Go.Lib
set_option linter.unusedVariables false
set_option linter.unusedSimpArgs false

set_option maxHeartbeats 800000 in
theorem colon_ref (s : ByteArray) (w : World) (hs : s.size ≤ 1000000) :
    Calls Tryd.prog 32 #[.string s] w fun e w' => e = .returned (.tuple #[.string (aheadB s), .string (behindB s), .bool (hasB s 58)]) ∧ ∃ n, w.drewN n = w' := by
  obtain ⟨P, hP⟩ : ∃ P, aheadB s = P := ⟨_, rfl⟩
  obtain ⟨Q, hQ⟩ : ∃ Q, behindB s = Q := ⟨_, rfl⟩
  obtain ⟨R, hR⟩ : ∃ R, hasB s 58 = R := ⟨_, rfl⟩
  rw [hP, hQ, hR]
  have HR := Lib.hid (And.intro hP (And.intro hQ hR))
  clear hP hQ hR
  go_enter Tryd.func32, Tryd.ntmps32
  go_wp2_with fail
  go_loop [8] (fun i => ∃ k : Nat, k ≤ s.size ∧ i = .int .i64 k ∧ (s.data.toList.take k).contains 58 = false) (fun i => s.size - (intOf i).toNat)
  case atStart => exact ⟨0, Nat.zero_le _, rfl, by simp⟩
  case round =>
    obtain ⟨k, hk, rfl, hno⟩ := hrel
    have HN := Lib.hid hno
    clear hno
    by_cases hlt : k < s.size
    · have hsn := Lib.hid (take_snocB s k hlt)
      cases hc : (s[k] == 58) with
      | true =>
        have hb : (((s[k].toNat : Int)) == 58) = true := by
          have := u8_beq s[k] 58
          rw [hc] at this
          exact this
        have HC := Lib.hid hc
        have q0 : (0 : Int) ≤ (k : Int) := by omega
        have q1 : (k : Int) ≤ (s.size : Int) := by omega
        have q2 : (k : Int) + 1 ≤ (s.size : Int) := by omega
        have q3 : IntKind.i64.wrap ((k : Int) + 1) = (k : Int) + 1 := IntWalk.i64_in _ (by omega)
        have q4 : (0 : Int) ≤ (k : Int) + 1 := by omega
        have q5 : ((k : Int) + 1).toNat = k + 1 := by omega
        clear hc
        go_wp2_with fail
        go_quiet (fail)
        go_wp2_with fail
        have h58 : s[k] = 58 := by simpa using HC.out
        have he := extract_ahead hlt (ahead_at (l := s.data.toList) (by simpa using hlt) HN.out h58)
        have hh : hasB s 58 = true := by
          unfold hasB
          rw [List.contains_iff_mem, ← h58]
          exact List.getElem_mem (by simpa using hlt)
        refine bodyPost_ret (v := .tuple #[.string (s.extract 0 k), .string (s.extract (k + 1) s.size), .bool true]) (by simp [results, Tryd.results32, go_sem]) rfl ⟨?_, nq, rfl⟩
        obtain ⟨rfl, rfl, rfl⟩ := HR.out
        rw [he.1, he.2, hh]
      | false =>
        have hb : (((s[k].toNat : Int)) == 58) = false := by
          have := u8_beq s[k] 58
          rw [hc] at this
          exact this
        have HC := Lib.hid hc
        clear hc
        go_wp2_with fail
        go_round
        case rel =>
          refine ⟨k + 1, hlt, by go_num, ?_⟩
          rw [hsn.out, List.contains_append, HN.out]
          have h1 : ¬ s[k] = 58 := by simpa using HC.out
          simp [Ne.symm h1]
        case measure => simp [intOf]; omega
    · obtain rfl : k = s.size := by omega
      go_wp2_with fail
      have hno : hasB s 58 = false := by
        have h := HN.out
        rw [List.take_of_length_le (by simp)] at h
        exact h
      have ha := ahead_none hno
      refine bodyPost_ret (v := .tuple #[.string s, .string ⟨#[]⟩, .bool false]) (by simp [results, Tryd.results32, go_sem]) rfl ⟨?_, 0, rfl⟩
      obtain ⟨rfl, rfl, rfl⟩ := HR.out
      have e1 : aheadB s = s := by
        rw [aheadB, ha]
      have e2 : behindB s = ⟨#[]⟩ := by
        rw [behindB, ha, List.drop_eq_nil_of_le (by omega)]
      rw [e1, e2, hno]
end Go.Proofs.YtakibkbmikkpdaaDoor
