/-
  Names: the program's event ids and signs, walked.
-/
import Derived.Test.YtakibkbmikkpdaaDoorIdP5
namespace Go.Proofs.YtakibkbmikkpdaaDoor
open Go.RowKit Go.Lib
set_option linter.unusedVariables false
set_option linter.unusedSimpArgs false

set_option maxHeartbeats 2000000 in
set_option maxRecDepth 100000 in
theorem isEvent_any (s : ByteArray) (W : World) (hs : s.size ≤ 100000) :
    Calls Tryd.prog 20 #[.string s] W fun e w' => e = .returned (.bool (isEvent s)) ∧ Below W.heap.size W w' := by
  have H := Lib.hid (cutPrefix_any s W (by omega))
  have HH := Lib.hid (fun (t : ByteArray) (ht : t.size ≤ s.size) w => made_new t 16 hexL w (by omega) (by decide))
  have hR := event_eq s
  obtain ⟨h, hh⟩ : ∃ h, hasPrefix s.data.toList [36] = h := ⟨_, rfl⟩
  obtain ⟨R, hR'⟩ : ∃ R, isEvent s = R := ⟨_, rfl⟩
  rw [hh] at H hR
  rw [hR'] at hR ⊢
  clear hh hR'
  cases h with
  | false =>
    have hR2 : R = false := by rw [hR]; simp
    subst hR2
    clear hR
    go_enter Tryd.func20, Tryd.ntmps20
    go_wp2_with fail
    refine H.out.mono ?_
    rintro e W1 ⟨⟨t, rfl, -, -⟩, n, rfl⟩
    go_wp2_with fail
    go_ret
    exact ⟨rfl, below_drewN W n⟩
  | true =>
    rw [Bool.true_and] at hR
    by_cases h16 : (restB s).size = 16
    · rw [decide_eq_true h16, Bool.true_and] at hR
      have HR := Lib.hid hR
      have H16 := Lib.hid h16
      clear hR h16
      go_enter Tryd.func20, Tryd.ntmps20
      go_wp2_with fail
      refine H.out.mono ?_
      rintro e W1 ⟨⟨t, rfl, ht, hr⟩, n, rfl⟩
      have HT := Lib.hid (And.intro ht (hr (by simp)))
      have d1 : ((t.size : Int) == 16) = true := by rw [hr (by simp), H16.out]; rfl
      have d2 : (t.size == 16) = true := by rw [hr (by simp), H16.out]; rfl
      clear ht hr
      go_wp2_with fail
      refine (HH.out t HT.out.1 _).mono ?_
      rintro e W2 ⟨g, rfl, hb, hc⟩
      go_wp2_with fail
      refine hc.out.mono ?_
      rintro e W3 ⟨rfl, rfl⟩
      go_wp2_with fail
      go_ret
      refine ⟨?_, (below_drewN W n).trans hb.out⟩
      rw [HR.out, ← HT.out.2]
      rfl
    · rw [decide_eq_false h16, Bool.false_and] at hR
      subst hR
      have H16 := Lib.hid h16
      clear h16
      go_enter Tryd.func20, Tryd.ntmps20
      go_wp2_with fail
      refine H.out.mono ?_
      rintro e W1 ⟨⟨t, rfl, ht, hr⟩, n, rfl⟩
      have d0 : t.size ≠ 16 := by rw [hr (by simp)]; exact H16.out
      have d1 : ((t.size : Int) == 16) = false := by rw [beq_eq_false_iff_ne]; omega
      have d2 : (t.size == 16) = false := by rw [beq_eq_false_iff_ne]; exact d0
      clear ht hr d0
      go_wp2_with fail
      go_ret
      exact ⟨rfl, below_drewN W n⟩
def signQ (c : UInt8) : ByteArray := if c = 33 then opqP else if c = 64 ∨ c = 35 then locL else ⟨#[]⟩
theorem signQ_all {c : UInt8} (h : signKind c ≠ 0) (s : ByteArray) (a b : Nat) : allB s a b (signQ c) = allB s a b (signL c) := by
  rcases sign_cases c h with rfl | rfl | rfl
  · exact opq_all s a b
  · rfl
  · rfl
set_option maxHeartbeats 2000000 in
set_option maxRecDepth 100000 in
theorem signed_any (c : UInt8) (W : World) :
    Calls Tryd.prog 29 #[.int .u8 c.toNat] W fun e w' => e = .returned (.tuple #[.int .i64 (signKind c), .string (signQ c)]) ∧ W = w' := by
  by_cases h1 : c = 33
  · subst h1
    go_enter Tryd.func29, Tryd.ntmps29
    go_wp2_with fail
    exact bodyPost_ret (v := .tuple #[.int .i64 1, .string opqP]) (by simp [results, Tryd.results29, go_sem, opqP]) rfl ⟨rfl, rfl⟩
  by_cases h2 : c = 64
  · subst h2
    go_enter Tryd.func29, Tryd.ntmps29
    go_wp2_with fail
    exact bodyPost_ret (v := .tuple #[.int .i64 2, .string locL]) (by simp [results, Tryd.results29, go_sem, locL]) rfl ⟨rfl, rfl⟩
  by_cases h3 : c = 35
  · subst h3
    go_enter Tryd.func29, Tryd.ntmps29
    go_wp2_with fail
    exact bodyPost_ret (v := .tuple #[.int .i64 3, .string locL]) (by simp [results, Tryd.results29, go_sem, locL]) rfl ⟨rfl, rfl⟩
  have e1 : (((c.toNat : Int)) == 33) = false := (u8_beq c 33).trans (by simpa using h1)
  have e2 : (((c.toNat : Int)) == 64) = false := (u8_beq c 64).trans (by simpa using h2)
  have e3 : (((c.toNat : Int)) == 35) = false := (u8_beq c 35).trans (by simpa using h3)
  have k0 : signKind c = 0 := by simp [signKind, h1, h2, h3]
  have q0 : signQ c = ⟨#[]⟩ := by simp [signQ, h1, h2, h3]
  rw [k0, q0]
  clear h1 h2 h3 k0 q0
  go_enter Tryd.func29, Tryd.ntmps29
  go_wp2_with fail
  exact bodyPost_ret (v := .tuple #[.int .i64 0, .string ⟨#[]⟩]) (by simp [results, Tryd.results29, go_sem]) rfl ⟨rfl, rfl⟩
end Go.Proofs.YtakibkbmikkpdaaDoor
