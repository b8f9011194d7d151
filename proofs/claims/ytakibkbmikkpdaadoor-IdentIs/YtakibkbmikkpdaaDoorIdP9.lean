/-
  Names: the program's Split and Check answer by the document's words, with their errors.
-/
import Derived.Test.YtakibkbmikkpdaaDoorIdP8
import Derived.Test.YtakibkbmikkpdaaDoorIdIs1
namespace Go.Proofs.YtakibkbmikkpdaaDoor
open Go.RowKit Go.Lib
set_option linter.unusedVariables false
set_option linter.unusedSimpArgs false

theorem idSplit {G : World → Prop} : SplitC G := fun s W _ hs => by
  refine (split_any s W (by omega)).mono ?_
  rintro e w' ⟨ev, rfl, h1, h2, hb⟩
  exact ⟨ev, rfl, ⟨h1, h2⟩, hb⟩
set_option maxHeartbeats 2000000 in
set_option maxRecDepth 100000 in
theorem word_any (k : Int) (w : World) : Calls Tryd.prog 17 #[.int .i64 k] w fun e w' => e = .returned (.string (wordB k)) ∧ w = w' := by
  by_cases k1 : k = 1
  · subst k1
    go_enter Tryd.func17, Tryd.ntmps17
    go_wp2_with fail
    go_ret
    exact ⟨rfl, rfl⟩
  by_cases k2 : k = 2
  · subst k2
    go_enter Tryd.func17, Tryd.ntmps17
    go_wp2_with fail
    go_ret
    exact ⟨rfl, rfl⟩
  by_cases k3 : k = 3
  · subst k3
    go_enter Tryd.func17, Tryd.ntmps17
    go_wp2_with fail
    go_ret
    exact ⟨rfl, rfl⟩
  by_cases k4 : k = 4
  · subst k4
    go_enter Tryd.func17, Tryd.ntmps17
    go_wp2_with fail
    go_ret
    exact ⟨rfl, rfl⟩
  by_cases k5 : k = 5
  · subst k5
    go_enter Tryd.func17, Tryd.ntmps17
    go_wp2_with fail
    go_ret
    exact ⟨rfl, rfl⟩
  have hw : wordB k = ⟨#[]⟩ := by rw [wordB, if_neg k1, if_neg k2, if_neg k3, if_neg k4, if_neg k5]
  rw [hw]
  have b1 : (k == 1) = false := by rw [beq_eq_false_iff_ne]; omega
  have b2 : (k == 2) = false := by rw [beq_eq_false_iff_ne]; omega
  have b3 : (k == 3) = false := by rw [beq_eq_false_iff_ne]; omega
  have b4 : (k == 4) = false := by rw [beq_eq_false_iff_ne]; omega
  have b5 : (k == 5) = false := by rw [beq_eq_false_iff_ne]; omega
  clear hw k1 k2 k3 k4 k5
  go_enter Tryd.func17, Tryd.ntmps17
  go_wp2_with fail
  go_ret
  exact ⟨rfl, rfl⟩
set_option maxHeartbeats 2000000 in
set_option maxRecDepth 100000 in
theorem idCheck {G : World → Prop} : CheckC G := fun k s W _ hs => by
  have H := Lib.hid (idIs k s W trivial hs)
  have HW := Lib.hid (word_any k)
  unfold CheckOut CheckErr
  obtain ⟨R, hR⟩ : ∃ R, isName k s = R := ⟨_, rfl⟩
  rw [hR] at H ⊢
  obtain ⟨F, hF⟩ : ∃ F, wordB k = F := ⟨_, rfl⟩
  rw [hF] at HW ⊢
  clear hR hF
  cases R with
  | true =>
    go_enter Tryd.func6, Tryd.ntmps6
    go_wp2_with fail
    refine H.out.mono ?_
    rintro e w' ⟨rfl, hb⟩
    have HB := Lib.hid hb
    clear hb
    go_wp2_with fail
    go_ret
    exact ⟨_, rfl, ⟨fun _ => rfl, fun h => by cases h⟩, HB.out⟩
  | false =>
    go_enter Tryd.func6, Tryd.ntmps6
    go_wp2_with fail
    refine H.out.mono ?_
    rintro e w' ⟨rfl, hb⟩
    have HB := Lib.hid hb
    clear hb
    go_wp2_with fail
    refine (HW.out _).mono ?_
    rintro e w2 ⟨rfl, rfl⟩
    go_wp2_with fail
    go_ret
    refine ⟨_, rfl, ⟨(fun h => by cases h), fun _ => ?_⟩, HB.out.trans (((Below.refl _ _).alloc (Nat.le_refl _) _).mono HB.out.size)⟩
    exact ⟨w'.heap.size, .iface 31 (.int .i64 7), rfl, by simp, by simp, by simp, rfl⟩
end Go.Proofs.YtakibkbmikkpdaaDoor
