/-
  Names: the program's question whether a text is a server's name, walked.
-/
import Derived.Test.YtakibkbmikkpdaaDoorIdP4
namespace Go.Proofs.YtakibkbmikkpdaaDoor
open Go.RowKit Go.Lib
set_option linter.unusedVariables false
set_option linter.unusedSimpArgs false

theorem below_drewN (w : World) (n : Nat) : Below w.heap.size w (w.drewN n) := ⟨rfl, rfl, rfl, Nat.le_refl _, fun _ _ => rfl⟩
theorem ltOfCell {w : World} {a : Addr} {v : Value} (h : w.cell? a = some v) : a.block < w.heap.size := by
  rcases Nat.lt_or_ge a.block w.heap.size with hlt | hge
  · exact hlt
  · simp [World.cell?, Array.getElem?_eq_none hge] at h
def clo (g : Nat) : Value := .func (.func 39) #[] #[.pointer (some ⟨g, 0, none⟩)]
theorem among_new (l : ByteArray) (W : World) : Calls Tryd.prog 31 #[.string l] W fun e w' => ∃ g, e = .returned (clo g) ∧ w'.cell? ⟨g, 0, none⟩ = some (.string l) ∧ Below W.heap.size W w' := by
  refine (among_any l W).mono ?_
  rintro e w' ⟨rfl, rfl⟩
  exact ⟨_, rfl, by simp, (Below.refl _ _).alloc (Nat.le_refl _) _⟩
/-- A set is laid, and a text held against it. -/
theorem made_new (s : ByteArray) (most : Nat) (l : ByteArray) (W : World) (hs : s.size ≤ 1000000) (hm : most ≤ 1000000) :
    Calls Tryd.prog 31 #[.string l] W fun e w' => ∃ g, e = .returned (clo g) ∧ Hid (Below W.heap.size W w') ∧ Hid (Calls Tryd.prog 30 #[.string s, .int .i64 most, clo g] w' fun e w'' => e = .returned (.bool (allB s 1 most l)) ∧ w' = w'') := by
  refine (among_new l W).mono ?_
  rintro e w' ⟨g, rfl, hc, hb⟩
  exact ⟨g, rfl, hb, madeOf_any s l most g w' hs hm hc⟩

/-- So, and whatever is made between. -/
theorem made_late (s : ByteArray) (most : Nat) (l : ByteArray) (W : World) (hs : s.size ≤ 1000000) (hm : most ≤ 1000000) :
    Calls Tryd.prog 31 #[.string l] W fun e w' => ∃ g, e = .returned (clo g) ∧ Below W.heap.size W w' ∧ ∀ w1, Below w'.heap.size w' w1 → Calls Tryd.prog 30 #[.string s, .int .i64 most, clo g] w1 fun e w'' => e = .returned (.bool (allB s 1 most l)) ∧ w1 = w'' := by
  refine (among_new l W).mono ?_
  rintro e w' ⟨g, rfl, hc, hb⟩
  exact ⟨g, rfl, hb, fun w1 h1 => madeOf_any s l most g w1 hs hm ((h1.cell (p := ⟨g, 0, none⟩) (ltOfCell hc)).trans hc)⟩

set_option maxHeartbeats 2000000 in
set_option maxRecDepth 100000 in
theorem isServer_any (s : ByteArray) (W : World) (hs : s.size ≤ 100000) :
    Calls Tryd.prog 21 #[.string s] W fun e w' => e = .returned (.bool (isServer s)) ∧ Below W.heap.size W w' := by
  have H := Lib.hid (cut_any s W (by omega))
  have h1 := ahead_size s
  have h2 := behind_size s
  have HD := Lib.hid (fun w => made_new (behindB s) 5 digL w (by omega) (by decide))
  have HH := Lib.hid (fun w => made_new (aheadB s) 50 srvL w (by omega) (by decide))
  have hR : isServer s = (allB (aheadB s) 1 50 srvL && (!(hasB s 58) || allB (behindB s) 1 5 digL)) := rfl
  obtain ⟨A, hA⟩ : ∃ A, aheadB s = A := ⟨_, rfl⟩
  obtain ⟨B, hB⟩ : ∃ B, behindB s = B := ⟨_, rfl⟩
  obtain ⟨h, hh⟩ : ∃ h, hasB s 58 = h := ⟨_, rfl⟩
  obtain ⟨R, hR'⟩ : ∃ R, isServer s = R := ⟨_, rfl⟩
  rw [hA] at H HH hR
  rw [hB] at H HD hR
  rw [hh] at H hR
  rw [hR'] at hR ⊢
  obtain ⟨b1, hb1⟩ : ∃ b, allB A 1 50 srvL = b := ⟨_, rfl⟩
  obtain ⟨b2, hb2⟩ : ∃ b, allB B 1 5 digL = b := ⟨_, rfl⟩
  rw [hb1] at HH hR
  rw [hb2] at HD hR
  clear hA hB hh hR' hb1 hb2 h1 h2
  cases h with
  | false =>
    have hR2 : R = b1 := by rw [hR]; simp
    subst hR2
    clear hR
    go_enter Tryd.func21, Tryd.ntmps21
    go_wp2_with fail
    refine H.out.mono ?_
    rintro e W1 ⟨rfl, n, rfl⟩
    go_wp2_with fail
    refine (HH.out _).mono ?_
    rintro e W2 ⟨g, rfl, hb, hc⟩
    go_wp2_with fail
    refine hc.out.mono ?_
    rintro e W3 ⟨rfl, rfl⟩
    go_wp2_with fail
    go_ret
    exact ⟨rfl, (below_drewN W n).trans hb.out⟩
  | true =>
    cases b2 with
    | false =>
      have hR2 : R = false := by rw [hR]; simp
      subst hR2
      clear hR
      go_enter Tryd.func21, Tryd.ntmps21
      go_wp2_with fail
      refine H.out.mono ?_
      rintro e W1 ⟨rfl, n, rfl⟩
      go_wp2_with fail
      refine (HD.out _).mono ?_
      rintro e W2 ⟨g, rfl, hb, hc⟩
      go_wp2_with fail
      refine hc.out.mono ?_
      rintro e W3 ⟨rfl, rfl⟩
      go_wp2_with fail
      go_ret
      exact ⟨rfl, (below_drewN W n).trans hb.out⟩
    | true =>
      have hR2 : R = b1 := by rw [hR]; simp
      subst hR2
      clear hR
      go_enter Tryd.func21, Tryd.ntmps21
      go_wp2_with fail
      refine H.out.mono ?_
      rintro e W1 ⟨rfl, n, rfl⟩
      go_wp2_with fail
      refine (HD.out _).mono ?_
      rintro e W2 ⟨g, rfl, hb, hc⟩
      go_wp2_with fail
      refine hc.out.mono ?_
      rintro e W3 ⟨rfl, rfl⟩
      go_wp2_with fail
      refine (HH.out _).mono ?_
      rintro e W4 ⟨g', rfl, hb', hc'⟩
      go_wp2_with fail
      refine hc'.out.mono ?_
      rintro e W5 ⟨rfl, rfl⟩
      go_wp2_with fail
      go_ret
      refine ⟨rfl, ?_⟩
      have h1 : Below W.heap.size W W2 := (below_drewN W n).trans hb.out
      exact h1.trans (hb'.out.mono h1.size)
end Go.Proofs.YtakibkbmikkpdaaDoor
