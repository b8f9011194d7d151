/-
  Names: a sign ahead (package strings), walked.
-/
import Derived.Test.YtakibkbmikkpdaaDoorIdP3
namespace Go.Proofs.YtakibkbmikkpdaaDoor
open Go.RowKit Go.Lib
set_option linter.unusedVariables false
set_option linter.unusedSimpArgs false

theorem first_one {s : ByteArray} (h : s.size ≠ 0) : (s.extract 0 1).toList = [firstB s] := by
  rw [Go.ByteArray.toList_eq, ByteArray.data_extract, Array.toList_extract, List.extract_eq_take_drop, list_cons h]
  rfl
set_option maxHeartbeats 1000000 in
set_option maxRecDepth 100000 in
theorem slHasPrefix_any (s : ByteArray) (w : World) (hs : s.size ≤ 1000000) :
    Calls Tryd.prog 44 #[.string s, .string ⟨#[36]⟩] w fun e w' => e = .returned (.bool (hasPrefix s.data.toList [36])) ∧ ∃ n, w.drewN n = w' := by
  obtain ⟨R, hR⟩ : ∃ R, hasPrefix s.data.toList [36] = R := ⟨_, rfl⟩
  rw [hR]
  rw [event_pre] at hR
  by_cases h0 : s.size = 0
  · have hR' : false = R := by rw [← hR]; simp [h0]
    subst hR'
    have d1 : decide ((1 : Int) ≤ (s.size : Int)) = false := decide_eq_false (by omega)
    have d2 : decide (1 ≤ s.size) = false := decide_eq_false (by omega)
    clear hR
    go_enter Tryd.func44, Tryd.ntmps44
    go_wp2_with fail
    go_ret
    exact ⟨rfl, 0, rfl⟩
  · have hR' : (firstB s == 36) = R := by rw [← hR]; simp [h0]
    have h1 := first_one h0
    have d1 : decide ((1 : Int) ≤ (s.size : Int)) = true := decide_eq_true (by omega)
    have d2 : decide (1 ≤ s.size) = true := decide_eq_true (by omega)
    have q1 : (1 : Int) ≤ (s.size : Int) := by omega
    have hb : ((s.extract 0 1).toList == [36]) = R := by
      rw [h1, ← hR']
      simp
    have hb2 : ((s.extract 0 1).toList == ByteArray.toList ⟨#[36]⟩) = R := by
      rw [Go.ByteArray.toList_eq ⟨#[36]⟩]
      exact hb
    clear hR hR' h1
    go_enter Tryd.func44, Tryd.ntmps44
    go_wp2_with fail
    go_ret
    first | exact ⟨rfl, 0, rfl⟩ | exact ⟨rfl, 1, rfl⟩
set_option maxHeartbeats 1000000 in
set_option maxRecDepth 100000 in
theorem slCutPrefix_any (s : ByteArray) (w : World) (hs : s.size ≤ 1000000) :
    Calls Tryd.prog 41 #[.string s, .string ⟨#[36]⟩] w fun e w' => (∃ t, e = .returned (.tuple #[.string t, .bool (hasPrefix s.data.toList [36])]) ∧ t.size ≤ s.size ∧ (hasPrefix s.data.toList [36] = true → t = restB s)) ∧ ∃ n, w.drewN n = w' := by
  have H := Lib.hid (slHasPrefix_any s w hs)
  have hre := event_pre s
  obtain ⟨R, hR⟩ : ∃ R, hasPrefix s.data.toList [36] = R := ⟨_, rfl⟩
  rw [hR] at H hre ⊢
  have hsz : Hid ((restB s).size ≤ s.size) := rest_size s
  cases R with
  | false =>
    clear hre
    go_enter Tryd.func41, Tryd.ntmps41
    go_wp2_with fail
    refine H.out.mono ?_
    rintro e w' ⟨rfl, n, rfl⟩
    go_wp2_with fail
    exact bodyPost_ret (v := .tuple #[.string s, .bool false]) (by simp [results, Tryd.results41, go_sem]) rfl ⟨⟨s, rfl, Nat.le_refl _, fun h => by cases h⟩, n, rfl⟩
  | true =>
    have h0 : s.size ≠ 0 := by
      intro h
      simp [h] at hre
    have q1 : (1 : Int) ≤ (s.size : Int) := by omega
    clear hre
    go_enter Tryd.func41, Tryd.ntmps41
    go_wp2_with fail
    refine H.out.mono ?_
    rintro e w' ⟨rfl, n, rfl⟩
    go_wp2_with fail
    exact bodyPost_ret (v := .tuple #[.string (restB s), .bool true]) (by simp [results, Tryd.results41, go_sem, restB]) rfl ⟨⟨_, rfl, hsz.out, fun _ => rfl⟩, n, rfl⟩
set_option maxHeartbeats 1000000 in
set_option maxRecDepth 100000 in
theorem cutPrefix_any (s : ByteArray) (w : World) (hs : s.size ≤ 1000000) :
    Calls Tryd.prog 35 #[.string s, .string ⟨#[36]⟩] w fun e w' => (∃ t, e = .returned (.tuple #[.string t, .bool (hasPrefix s.data.toList [36])]) ∧ t.size ≤ s.size ∧ (hasPrefix s.data.toList [36] = true → t = restB s)) ∧ ∃ n, w.drewN n = w' := by
  have H := Lib.hid (slCutPrefix_any s w hs)
  go_enter Tryd.func35, Tryd.ntmps35
  go_wp2_with fail
  refine H.out.mono ?_
  rintro e w' ⟨⟨t, rfl, ht⟩, n, rfl⟩
  go_wp2_with fail
  exact bodyPost_ret (v := .tuple #[.string t, .bool (hasPrefix s.data.toList [36])]) (by simp [results, Tryd.results35, go_sem]) rfl ⟨⟨t, rfl, ht⟩, n, rfl⟩
end Go.Proofs.YtakibkbmikkpdaaDoor
