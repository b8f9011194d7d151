/-
  Names: is a text one of a kind, by the document; a kind's word; a name's server: walked.
-/
import Derived.Test.YtakibkbmikkpdaaDoorId4
namespace Go.Proofs.YtakibkbmikkpdaaDoor
open Go.RowKit Go.Lib
set_option linter.unusedVariables false
set_option linter.unusedSimpArgs false

set_option maxRecDepth 10000 in
set_option maxHeartbeats 4000000 in
theorem is_ref (k : Int) (s : ByteArray) (w : World) (hs : s.size ≤ 1000000) : Calls Tryd.prog 7 #[.int .i64 k, .string s] w fun e w' => e = .returned (.bool (isName k s)) ∧ ∃ n, w.drewN n = w' := by
  have HSp := Lib.hid (fun W => split_ref s W hs)
  unfold SplitAns at HSp
  have HSv := Lib.hid (fun W => isServer_ref s W hs)
  by_cases k1 : k = 1
  · subst k1
    obtain ⟨K, hK⟩ : ∃ K : Int, (nameKind s : Int) = K := ⟨_, rfl⟩
    have hI : isName 1 s = (K == 1) := by rw [isName, if_pos (by decide), hK]
    rw [hK] at HSp
    have HI := Lib.hid hI
    clear hI hK
    cases hz : (K == 1) with
    | true =>
      go_enter Tryd.func7, Tryd.ntmps7
      go_wp2_with fail
      refine (HSp.out _).mono ?_
      rintro e w' ⟨rfl, n, rfl⟩
      go_wp2_with fail
      go_ret
      exact ⟨by rw [HI.out, hz]; rfl, n, rfl⟩
    | false =>
      go_enter Tryd.func7, Tryd.ntmps7
      go_wp2_with fail
      refine (HSp.out _).mono ?_
      rintro e w' ⟨rfl, n, rfl⟩
      go_wp2_with fail
      go_ret
      exact ⟨by rw [HI.out, hz]; rfl, n, rfl⟩
  have n1 : (k == 1) = false := beq_eq_false_iff_ne.2 k1
  by_cases k2 : k = 2
  · subst k2
    obtain ⟨K, hK⟩ : ∃ K : Int, (nameKind s : Int) = K := ⟨_, rfl⟩
    have hI : isName 2 s = (K == 2) := by rw [isName, if_pos (by decide), hK]
    rw [hK] at HSp
    have HI := Lib.hid hI
    clear hI hK
    cases hz : (K == 2) with
    | true =>
      go_enter Tryd.func7, Tryd.ntmps7
      go_wp2_with fail
      refine (HSp.out _).mono ?_
      rintro e w' ⟨rfl, n, rfl⟩
      go_wp2_with fail
      go_ret
      exact ⟨by rw [HI.out, hz]; rfl, n, rfl⟩
    | false =>
      go_enter Tryd.func7, Tryd.ntmps7
      go_wp2_with fail
      refine (HSp.out _).mono ?_
      rintro e w' ⟨rfl, n, rfl⟩
      go_wp2_with fail
      go_ret
      exact ⟨by rw [HI.out, hz]; rfl, n, rfl⟩
  have n2 : (k == 2) = false := beq_eq_false_iff_ne.2 k2
  by_cases k3 : k = 3
  · subst k3
    obtain ⟨K, hK⟩ : ∃ K : Int, (nameKind s : Int) = K := ⟨_, rfl⟩
    have hI : isName 3 s = (K == 3) := by rw [isName, if_pos (by decide), hK]
    rw [hK] at HSp
    have HI := Lib.hid hI
    clear hI hK
    cases hz : (K == 3) with
    | true =>
      go_enter Tryd.func7, Tryd.ntmps7
      go_wp2_with fail
      refine (HSp.out _).mono ?_
      rintro e w' ⟨rfl, n, rfl⟩
      go_wp2_with fail
      go_ret
      exact ⟨by rw [HI.out, hz]; rfl, n, rfl⟩
    | false =>
      go_enter Tryd.func7, Tryd.ntmps7
      go_wp2_with fail
      refine (HSp.out _).mono ?_
      rintro e w' ⟨rfl, n, rfl⟩
      go_wp2_with fail
      go_ret
      exact ⟨by rw [HI.out, hz]; rfl, n, rfl⟩
  have n3 : (k == 3) = false := beq_eq_false_iff_ne.2 k3
  by_cases k4 : k = 4
  · subst k4
    have hI : isName 4 s = isEvent s := by rw [isName, if_neg (by decide), if_pos rfl]
    have HI := Lib.hid hI
    clear hI k1 k2 k3 n1 n2 n3
    by_cases h17 : s.size = 17
    · have h0 : 0 < s.size := by omega
      have d17 : ((s.size : Int) == 17) = true := by rw [h17]; rfl
      have q0 : (0 : Int) < (s.size : Int) := by omega
      have q1 : (1 : Int) ≤ (s.size : Int) := by omega
      have hr := rest_size s
      have hf := first_eq h0
      have e36 := u8_beq s[0] 36
      have HA : Hid (∀ W, Calls Tryd.prog 18 #[.string (s.extract 1 s.size), .int .i64 16, .int .i64 16, .string ⟨#[48, 49, 50, 51, 52, 53, 54, 55, 56, 57, 97, 98, 99, 100, 101, 102]⟩] W fun e w' => e = .returned (.bool (allB (restB s) 16 16 hexL)) ∧ W = w') := Lib.hid (fun W => all_ref (restB s) 16 16 hexL W (by omega) (by decide) (by omega) (by omega))
      obtain ⟨A, hA⟩ : ∃ A, allB (restB s) 16 16 hexL = A := ⟨_, rfl⟩
      rw [hA] at HA
      have HE := Lib.hid (And.intro h17 (And.intro hf hA))
      clear hA hf hr h17
      cases c36 : (s[0] == 36) with
      | true =>
        have b36 : (((s[0].toNat : Int)) == 36) = true := by rw [c36] at e36; exact e36
        clear e36
        go_enter Tryd.func7, Tryd.ntmps7
        go_wp2_with fail
        refine (HA.out _).mono ?_
        rintro e w' ⟨rfl, rfl⟩
        go_wp2_with fail
        go_ret
        refine ⟨?_, 0, rfl⟩
        rw [HI.out, isEvent, HE.out.2.1, HE.out.2.2, c36, decide_eq_true HE.out.1]
        rfl
      | false =>
        have b36 : (((s[0].toNat : Int)) == 36) = false := by rw [c36] at e36; exact e36
        clear e36
        go_enter Tryd.func7, Tryd.ntmps7
        go_wp2_with fail
        go_ret
        refine ⟨?_, 0, rfl⟩
        rw [HI.out, isEvent, HE.out.2.1, c36, decide_eq_true HE.out.1]
        rfl
    · have d17 : ((s.size : Int) == 17) = false := by
        rw [beq_eq_false_iff_ne]
        omega
      have HE := Lib.hid h17
      clear h17
      go_enter Tryd.func7, Tryd.ntmps7
      go_wp2_with fail
      go_ret
      refine ⟨?_, 0, rfl⟩
      rw [HI.out, isEvent, decide_eq_false HE.out]
      rfl
  have n4 : (k == 4) = false := beq_eq_false_iff_ne.2 k4
  by_cases k5 : k = 5
  · subst k5
    have hI : isName 5 s = isServer s := by rw [isName, if_neg (by decide), if_neg (by decide), if_pos rfl]
    have HI := Lib.hid hI
    clear hI k1 k2 k3 k4 n1 n2 n3 n4
    obtain ⟨R, hR⟩ : ∃ R, isServer s = R := ⟨_, rfl⟩
    rw [hR] at HSv HI
    clear hR
    go_enter Tryd.func7, Tryd.ntmps7
    go_wp2_with fail
    refine (HSv.out _).mono ?_
    rintro e w' ⟨rfl, n, rfl⟩
    go_wp2_with fail
    go_ret
    exact ⟨by rw [HI.out]; rfl, n, rfl⟩
  have n5 : (k == 5) = false := beq_eq_false_iff_ne.2 k5
  have hI : isName k s = false := by rw [isName, if_neg (by omega), if_neg k4, if_neg k5]
  have HI := Lib.hid hI
  clear hI
  go_enter Tryd.func7, Tryd.ntmps7
  go_wp2_with fail
  go_ret
  exact ⟨by rw [HI.out]; rfl, 0, rfl⟩

end Go.Proofs.YtakibkbmikkpdaaDoor
