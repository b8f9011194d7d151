/-
  Names: the document's question for a server's name, walked.
-/
import Derived.Test.YtakibkbmikkpdaaDoorId2
namespace Go.Proofs.YtakibkbmikkpdaaDoor
open Go.RowKit Go.Lib
set_option linter.unusedVariables false
set_option linter.unusedSimpArgs false

set_option maxRecDepth 10000 in
set_option maxHeartbeats 800000 in
theorem isServer_ref (s : ByteArray) (w : World) (hs : s.size ≤ 1000000) :
    Calls Tryd.prog 19 #[.string s] w fun e w' => e = .returned (.bool (isServer s)) ∧ ∃ n, w.drewN n = w' := by
  have hp := ahead_size s
  have hq := behind_size s
  have HC := Lib.hid (colon_ref s w hs)
  have HA : Hid (∀ W, Calls Tryd.prog 18 #[.string (aheadB s), .int .i64 1, .int .i64 50, .string ⟨#[97, 98, 99, 100, 101, 102, 103, 104, 105, 106, 107, 108, 109, 110, 111, 112, 113, 114, 115, 116, 117, 118, 119, 120, 121, 122, 48, 49, 50, 51, 52, 53, 54, 55, 56, 57, 46, 45]⟩] W fun e w' => e = .returned (.bool (allB (aheadB s) 1 50 srvL)) ∧ W = w') := Lib.hid (fun W => all_ref (aheadB s) 1 50 srvL W (by omega) (by decide) (by omega) (by omega))
  have HD : Hid (∀ W, Calls Tryd.prog 18 #[.string (behindB s), .int .i64 1, .int .i64 5, .string ⟨#[48, 49, 50, 51, 52, 53, 54, 55, 56, 57]⟩] W fun e w' => e = .returned (.bool (allB (behindB s) 1 5 digL)) ∧ W = w') := Lib.hid (fun W => all_ref (behindB s) 1 5 digL W (by omega) (by decide) (by omega) (by omega))
  unfold isServer
  obtain ⟨P, hP⟩ : ∃ P, aheadB s = P := ⟨_, rfl⟩
  obtain ⟨Q, hQ⟩ : ∃ Q, behindB s = Q := ⟨_, rfl⟩
  obtain ⟨T, hT⟩ : ∃ T, hasB s 58 = T := ⟨_, rfl⟩
  obtain ⟨A, hA⟩ : ∃ A, allB (aheadB s) 1 50 srvL = A := ⟨_, rfl⟩
  obtain ⟨D, hD⟩ : ∃ D, allB (behindB s) 1 5 digL = D := ⟨_, rfl⟩
  rw [hA] at HA
  rw [hD] at HD
  rw [hA, hT, hD]
  rw [hP, hQ, hT] at HC
  rw [hP] at HA
  rw [hQ] at HD
  clear hP hQ hT hA hD hp hq
  cases A with
  | false =>
    go_enter Tryd.func19, Tryd.ntmps19
    go_wp2_with fail
    refine HC.out.mono ?_
    rintro e w' ⟨rfl, n, rfl⟩
    go_wp2_with fail
    refine (HA.out _).mono ?_
    rintro e w' ⟨rfl, rfl⟩
    go_wp2_with fail
    go_ret
    exact ⟨rfl, n, rfl⟩
  | true =>
    cases T with
    | false =>
      go_enter Tryd.func19, Tryd.ntmps19
      go_wp2_with fail
      refine HC.out.mono ?_
      rintro e w' ⟨rfl, n, rfl⟩
      go_wp2_with fail
      refine (HA.out _).mono ?_
      rintro e w' ⟨rfl, rfl⟩
      go_wp2_with fail
      go_ret
      exact ⟨rfl, n, rfl⟩
    | true =>
      go_enter Tryd.func19, Tryd.ntmps19
      go_wp2_with fail
      refine HC.out.mono ?_
      rintro e w' ⟨rfl, n, rfl⟩
      go_wp2_with fail
      refine (HA.out _).mono ?_
      rintro e w' ⟨rfl, rfl⟩
      go_wp2_with fail
      refine (HD.out _).mono ?_
      rintro e w' ⟨rfl, rfl⟩
      go_wp2_with fail
      go_ret
      exact ⟨by simp, n, rfl⟩
end Go.Proofs.YtakibkbmikkpdaaDoor
