/-
  Names: how the document splits one, walked.
-/
import Derived.Test.YtakibkbmikkpdaaDoorId3
namespace Go.Proofs.YtakibkbmikkpdaaDoor
open Go.RowKit Go.Lib
set_option linter.unusedVariables false
set_option linter.unusedSimpArgs false

def SplitAns (s : ByteArray) (w : World) (e : Ending) (w' : World) : Prop := e = .returned (.tuple #[.int .i64 (nameKind s), .string (namePart s), .string (nameServer s)]) ∧ ∃ n, w.drewN n = w'
theorem splitAns_zero {s : ByteArray} {w w' : World} {n : Nat} (h : nameKind s = 0) (hw : w.drewN n = w') : SplitAns s w (.returned (.tuple #[.int .i64 0, .string ⟨#[]⟩, .string ⟨#[]⟩])) w' :=
  ⟨by rw [namePart, nameServer, h]; rfl, n, hw⟩
theorem splitAns_some {s : ByteArray} {w w' : World} {n k : Nat} (h : nameKind s = k) (hk : k ≠ 0) (hw : w.drewN n = w') : SplitAns s w (.returned (.tuple #[.int .i64 k, .string (aheadB (restB s)), .string (behindB (restB s))])) w' :=
  ⟨by rw [namePart, nameServer, h, if_neg hk, if_neg hk], n, hw⟩

set_option maxRecDepth 10000 in
set_option maxHeartbeats 4000000 in
theorem split_ref (s : ByteArray) (w : World) (hs : s.size ≤ 1000000) : Calls Tryd.prog 13 #[.string s] w (SplitAns s w) := by
  by_cases h0 : s.size = 0
  · have he : s.toList = [] := by
      rw [Go.ByteArray.toList_eq]
      exact List.eq_nil_of_length_eq_zero (by rw [Array.length_toList]; exact h0)
    have he2 : (s.toList == []) = true := by rw [he]; rfl
    have he3 : s.toList.isEmpty = true := by rw [he]; rfl
    have HZ := Lib.hid h0
    have HE := Lib.hid he
    clear h0
    go_enter Tryd.func13, Tryd.ntmps13
    go_wp2_with fail
    refine bodyPost_ret (v := .tuple #[.int .i64 0, .string ⟨#[]⟩, .string ⟨#[]⟩]) (by simp [results, Tryd.results13, go_sem]) rfl ?_
    exact splitAns_zero (n := 0) (by rw [nameKind, if_pos HZ.out]) rfl
  · have h0' : 0 < s.size := by omega
    have hne : ¬ s.toList = [] := fun e => by
      rw [Go.ByteArray.toList_eq] at e
      have := congrArg List.length e
      rw [Array.length_toList] at this
      exact h0 this
    have he2 : (s.toList == []) = false := by simpa using hne
    have he3 : s.toList.isEmpty = false := by simpa using hne
    have hf : firstB s = s[0] := by
      have h1 : 0 < s.data.toList.length := by rw [Array.length_toList]; exact h0'
      rw [firstB, List.headD_eq_head?_getD, List.head?_eq_getElem?, List.getElem?_eq_getElem h1]
      rfl
    have q0 : (0 : Int) < (s.size : Int) := by omega
    have q1 : (1 : Int) ≤ (s.size : Int) := by omega
    have hr := rest_size s
    have hp := ahead_size (restB s)
    have hq := behind_size (restB s)
    have HC := Lib.hid (fun W => colon_ref (restB s) W (by omega))
    have HS := Lib.hid (fun W => isServer_ref (behindB (restB s)) W (by omega))
    have HO : Hid (∀ W, Calls Tryd.prog 18 #[.string (aheadB (restB s)), .int .i64 1, .int .i64 50, .string ⟨#[97, 98, 99, 100, 101, 102, 103, 104, 105, 106, 107, 108, 109, 110, 111, 112, 113, 114, 115, 116, 117, 118, 119, 120, 121, 122, 48, 49, 50, 51, 52, 53, 54, 55, 56, 57, 65, 66, 67, 68, 69, 70, 71, 72, 73, 74, 75, 76, 77, 78, 79, 80, 81, 82, 83, 84, 85, 86, 87, 88, 89, 90, 95, 45, 46]⟩] W fun e w' => e = .returned (.bool (allB (aheadB (restB s)) 1 50 opqL)) ∧ W = w') := Lib.hid (fun W => all_ref (aheadB (restB s)) 1 50 opqL W (by omega) (by decide) (by omega) (by omega))
    have HL : Hid (∀ W, Calls Tryd.prog 18 #[.string (aheadB (restB s)), .int .i64 1, .int .i64 50, .string ⟨#[97, 98, 99, 100, 101, 102, 103, 104, 105, 106, 107, 108, 109, 110, 111, 112, 113, 114, 115, 116, 117, 118, 119, 120, 121, 122, 48, 49, 50, 51, 52, 53, 54, 55, 56, 57, 46, 95, 61, 45, 47]⟩] W fun e w' => e = .returned (.bool (allB (aheadB (restB s)) 1 50 locL)) ∧ W = w') := Lib.hid (fun W => all_ref (aheadB (restB s)) 1 50 locL W (by omega) (by decide) (by omega) (by omega))
    have hkind : nameKind s = if hasB (restB s) 58 && (allB (aheadB (restB s)) 1 50 (signL s[0]) && isServer (behindB (restB s))) then signKind s[0] else 0 := by
      rw [nameKind, if_neg h0, hf]
    have hrest : s.extract 1 s.size = restB s := rfl
    have hfin0 := fun n w' (h : nameKind s = 0) (hw : w.drewN n = w') => splitAns_zero (s := s) (n := n) h hw
    have hfin1 := fun n k w' (h : nameKind s = k) (hk : k ≠ 0) (hw : w.drewN n = w') => splitAns_some (s := s) (n := n) h hk hw
    obtain ⟨X, hX⟩ : ∃ X, restB s = X := ⟨_, rfl⟩
    rw [hX] at HC HS HO HL hkind hrest hfin1
    obtain ⟨P, hP⟩ : ∃ P, aheadB X = P := ⟨_, rfl⟩
    obtain ⟨Q, hQ⟩ : ∃ Q, behindB X = Q := ⟨_, rfl⟩
    obtain ⟨T, hT⟩ : ∃ T, hasB X 58 = T := ⟨_, rfl⟩
    obtain ⟨D, hD⟩ : ∃ D, isServer (behindB X) = D := ⟨_, rfl⟩
    rw [hD] at HS
    rw [hT, hD] at hkind
    rw [hP, hQ] at hfin1
    rw [hP, hQ, hT] at HC
    rw [hQ] at HS
    rw [hP] at HO HL hkind
    have F0 := Lib.hid hfin0
    have F1 := Lib.hid hfin1
    have HK := Lib.hid hkind
    have HRe := Lib.hid hrest
    clear hfin0 hfin1 hkind hP hQ hT hD hX hp hq hr hne h0 hf hrest
    have e33 := u8_beq s[0] 33
    have e64 := u8_beq s[0] 64
    have e35 := u8_beq s[0] 35
    cases c33 : (s[0] == 33) with
    | true =>
      have b33 : (((s[0].toNat : Int)) == 33) = true := by rw [c33] at e33; exact e33
      clear e33 e64 e35
      obtain ⟨A, hA⟩ : ∃ A, allB P 1 50 opqL = A := ⟨_, rfl⟩
      rw [hA] at HO
      have HAe := Lib.hid hA
      clear hA
      cases T with
      | false =>
        go_enter Tryd.func13, Tryd.ntmps13
        go_wp2_with fail
        rw [HRe.out]
        refine (HC.out _).mono ?_
        rintro e w' ⟨rfl, n, rfl⟩
        go_wp2_with fail
        refine bodyPost_ret (v := .tuple #[.int .i64 0, .string ⟨#[]⟩, .string ⟨#[]⟩]) (by simp [results, Tryd.results13, go_sem]) rfl ?_
        exact F0.out _ _ (by rw [HK.out]; rfl) rfl
      | true =>
        cases A with
        | false =>
          go_enter Tryd.func13, Tryd.ntmps13
          go_wp2_with fail
          rw [HRe.out]
          refine (HC.out _).mono ?_
          rintro e w' ⟨rfl, n, rfl⟩
          go_wp2_with fail
          refine (HO.out _).mono ?_
          rintro e w' ⟨rfl, rfl⟩
          go_wp2_with fail
          refine bodyPost_ret (v := .tuple #[.int .i64 0, .string ⟨#[]⟩, .string ⟨#[]⟩]) (by simp [results, Tryd.results13, go_sem]) rfl ?_
          exact F0.out _ _ (by rw [HK.out]; simp [signL, c33, HAe.out]) rfl
        | true =>
          cases D with
          | false =>
            go_enter Tryd.func13, Tryd.ntmps13
            go_wp2_with fail
            rw [HRe.out]
            refine (HC.out _).mono ?_
            rintro e w' ⟨rfl, n, rfl⟩
            go_wp2_with fail
            refine (HO.out _).mono ?_
            rintro e w' ⟨rfl, rfl⟩
            go_wp2_with fail
            refine (HS.out _).mono ?_
            rintro e w' ⟨rfl, m, rfl⟩
            go_wp2_with fail
            refine bodyPost_ret (v := .tuple #[.int .i64 0, .string ⟨#[]⟩, .string ⟨#[]⟩]) (by simp [results, Tryd.results13, go_sem]) rfl ?_
            exact F0.out _ _ (by rw [HK.out]; simp) (by first | rfl | rw [World.drewN_drewN])
          | true =>
            go_enter Tryd.func13, Tryd.ntmps13
            go_wp2_with fail
            rw [HRe.out]
            refine (HC.out _).mono ?_
            rintro e w' ⟨rfl, n, rfl⟩
            go_wp2_with fail
            refine (HO.out _).mono ?_
            rintro e w' ⟨rfl, rfl⟩
            go_wp2_with fail
            refine (HS.out _).mono ?_
            rintro e w' ⟨rfl, m, rfl⟩
            go_wp2_with fail
            refine bodyPost_ret (v := .tuple #[.int .i64 1, .string P, .string Q]) (by simp [results, Tryd.results13, go_sem]) rfl ?_
            exact F1.out _ 1 _ (by rw [HK.out]; simp [signL, signKind, c33, HAe.out]) (by decide) (by first | rfl | rw [World.drewN_drewN])
    | false =>
      have b33 : (((s[0].toNat : Int)) == 33) = false := by rw [c33] at e33; exact e33
      cases c64 : (s[0] == 64) with
      | true =>
        have b64 : (((s[0].toNat : Int)) == 64) = true := by rw [c64] at e64; exact e64
        clear e33 e64 e35
        obtain ⟨A, hA⟩ : ∃ A, allB P 1 50 locL = A := ⟨_, rfl⟩
        rw [hA] at HL
        have HAe := Lib.hid hA
        clear hA
        cases T with
        | false =>
          go_enter Tryd.func13, Tryd.ntmps13
          go_wp2_with fail
          rw [HRe.out]
          refine (HC.out _).mono ?_
          rintro e w' ⟨rfl, n, rfl⟩
          go_wp2_with fail
          refine bodyPost_ret (v := .tuple #[.int .i64 0, .string ⟨#[]⟩, .string ⟨#[]⟩]) (by simp [results, Tryd.results13, go_sem]) rfl ?_
          exact F0.out _ _ (by rw [HK.out]; rfl) rfl
        | true =>
          cases A with
          | false =>
            go_enter Tryd.func13, Tryd.ntmps13
            go_wp2_with fail
            rw [HRe.out]
            refine (HC.out _).mono ?_
            rintro e w' ⟨rfl, n, rfl⟩
            go_wp2_with fail
            refine (HL.out _).mono ?_
            rintro e w' ⟨rfl, rfl⟩
            go_wp2_with fail
            refine bodyPost_ret (v := .tuple #[.int .i64 0, .string ⟨#[]⟩, .string ⟨#[]⟩]) (by simp [results, Tryd.results13, go_sem]) rfl ?_
            exact F0.out _ _ (by rw [HK.out]; simp [signL, c33, c64, HAe.out]) rfl
          | true =>
            cases D with
            | false =>
              go_enter Tryd.func13, Tryd.ntmps13
              go_wp2_with fail
              rw [HRe.out]
              refine (HC.out _).mono ?_
              rintro e w' ⟨rfl, n, rfl⟩
              go_wp2_with fail
              refine (HL.out _).mono ?_
              rintro e w' ⟨rfl, rfl⟩
              go_wp2_with fail
              refine (HS.out _).mono ?_
              rintro e w' ⟨rfl, m, rfl⟩
              go_wp2_with fail
              refine bodyPost_ret (v := .tuple #[.int .i64 0, .string ⟨#[]⟩, .string ⟨#[]⟩]) (by simp [results, Tryd.results13, go_sem]) rfl ?_
              exact F0.out _ _ (by rw [HK.out]; simp) (by first | rfl | rw [World.drewN_drewN])
            | true =>
              go_enter Tryd.func13, Tryd.ntmps13
              go_wp2_with fail
              rw [HRe.out]
              refine (HC.out _).mono ?_
              rintro e w' ⟨rfl, n, rfl⟩
              go_wp2_with fail
              refine (HL.out _).mono ?_
              rintro e w' ⟨rfl, rfl⟩
              go_wp2_with fail
              refine (HS.out _).mono ?_
              rintro e w' ⟨rfl, m, rfl⟩
              go_wp2_with fail
              refine bodyPost_ret (v := .tuple #[.int .i64 2, .string P, .string Q]) (by simp [results, Tryd.results13, go_sem]) rfl ?_
              exact F1.out _ 2 _ (by rw [HK.out]; simp [signL, signKind, c33, c64, HAe.out]) (by decide) (by first | rfl | rw [World.drewN_drewN])
      | false =>
        have b64 : (((s[0].toNat : Int)) == 64) = false := by rw [c64] at e64; exact e64
        cases c35 : (s[0] == 35) with
        | true =>
          have b35 : (((s[0].toNat : Int)) == 35) = true := by rw [c35] at e35; exact e35
          clear e33 e64 e35
          obtain ⟨A, hA⟩ : ∃ A, allB P 1 50 locL = A := ⟨_, rfl⟩
          rw [hA] at HL
          have HAe := Lib.hid hA
          clear hA
          cases T with
          | false =>
            go_enter Tryd.func13, Tryd.ntmps13
            go_wp2_with fail
            rw [HRe.out]
            refine (HC.out _).mono ?_
            rintro e w' ⟨rfl, n, rfl⟩
            go_wp2_with fail
            refine bodyPost_ret (v := .tuple #[.int .i64 0, .string ⟨#[]⟩, .string ⟨#[]⟩]) (by simp [results, Tryd.results13, go_sem]) rfl ?_
            exact F0.out _ _ (by rw [HK.out]; rfl) rfl
          | true =>
            cases A with
            | false =>
              go_enter Tryd.func13, Tryd.ntmps13
              go_wp2_with fail
              rw [HRe.out]
              refine (HC.out _).mono ?_
              rintro e w' ⟨rfl, n, rfl⟩
              go_wp2_with fail
              refine (HL.out _).mono ?_
              rintro e w' ⟨rfl, rfl⟩
              go_wp2_with fail
              refine bodyPost_ret (v := .tuple #[.int .i64 0, .string ⟨#[]⟩, .string ⟨#[]⟩]) (by simp [results, Tryd.results13, go_sem]) rfl ?_
              exact F0.out _ _ (by rw [HK.out]; simp [signL, c33, c64, c35, HAe.out]) rfl
            | true =>
              cases D with
              | false =>
                go_enter Tryd.func13, Tryd.ntmps13
                go_wp2_with fail
                rw [HRe.out]
                refine (HC.out _).mono ?_
                rintro e w' ⟨rfl, n, rfl⟩
                go_wp2_with fail
                refine (HL.out _).mono ?_
                rintro e w' ⟨rfl, rfl⟩
                go_wp2_with fail
                refine (HS.out _).mono ?_
                rintro e w' ⟨rfl, m, rfl⟩
                go_wp2_with fail
                refine bodyPost_ret (v := .tuple #[.int .i64 0, .string ⟨#[]⟩, .string ⟨#[]⟩]) (by simp [results, Tryd.results13, go_sem]) rfl ?_
                exact F0.out _ _ (by rw [HK.out]; simp) (by first | rfl | rw [World.drewN_drewN])
              | true =>
                go_enter Tryd.func13, Tryd.ntmps13
                go_wp2_with fail
                rw [HRe.out]
                refine (HC.out _).mono ?_
                rintro e w' ⟨rfl, n, rfl⟩
                go_wp2_with fail
                refine (HL.out _).mono ?_
                rintro e w' ⟨rfl, rfl⟩
                go_wp2_with fail
                refine (HS.out _).mono ?_
                rintro e w' ⟨rfl, m, rfl⟩
                go_wp2_with fail
                refine bodyPost_ret (v := .tuple #[.int .i64 3, .string P, .string Q]) (by simp [results, Tryd.results13, go_sem]) rfl ?_
                exact F1.out _ 3 _ (by rw [HK.out]; simp [signL, signKind, c33, c64, c35, HAe.out]) (by decide) (by first | rfl | rw [World.drewN_drewN])
        | false =>
          have b35 : (((s[0].toNat : Int)) == 35) = false := by rw [c35] at e35; exact e35
          clear e33 e64 e35
          go_enter Tryd.func13, Tryd.ntmps13
          go_wp2_with fail
          rw [HRe.out]
          refine (HC.out _).mono ?_
          rintro e w' ⟨rfl, n, rfl⟩
          go_wp2_with fail
          refine bodyPost_ret (v := .tuple #[.int .i64 0, .string ⟨#[]⟩, .string ⟨#[]⟩]) (by simp [results, Tryd.results13, go_sem]) rfl ?_
          exact F0.out _ _ (by rw [HK.out]; simp [signKind, c33, c64, c35]) rfl
end Go.Proofs.YtakibkbmikkpdaaDoor
