/-
  Names: the program's Is and Of answer by the document's words.
-/
import Derived.Test.YtakibkbmikkpdaaDoorIdP7
import Derived.Test.YtakibkbmikkpdaaDoorIdLaw0
namespace Go.Proofs.YtakibkbmikkpdaaDoor
open Go.RowKit Go.Lib
set_option linter.unusedVariables false
set_option linter.unusedSimpArgs false

/-- The program's names take nothing of the package variables. -/
def IdG (w : World) : Prop := True
theorem idG_stays : Stays IdG := fun _ _ _ _ => trivial
set_option maxHeartbeats 2000000 in
set_option maxRecDepth 100000 in
theorem idOf : OfC IdG := fun s W _ hs => by
  have H := Lib.hid (split_any s W (by omega))
  unfold PSplit at H
  go_enter Tryd.func14, Tryd.ntmps14
  go_wp2_with fail
  refine H.out.mono ?_
  rintro e w' ⟨ev, rfl, -, -, hb⟩
  have HB := Lib.hid hb
  clear hb
  go_wp2_with fail
  go_ret
  exact ⟨rfl, HB.out⟩
theorem isName_kind {k : Int} (h : k = 1 ∨ k = 2 ∨ k = 3) (s : ByteArray) : isName k s = ((nameKind s : Int) == k) := by rw [isName, if_pos h]
set_option maxHeartbeats 2000000 in
set_option maxRecDepth 100000 in
theorem is_named {k : Int} (h : k = 1 ∨ k = 2 ∨ k = 3) (s : ByteArray) (W : World) (hs : s.size ≤ 1000) : Calls Tryd.prog 8 #[.int .i64 k, .string s] W fun e w' => e = .returned (.bool (isName k s)) ∧ Below W.heap.size W w' := by
  have H := Lib.hid (split_any s W (by omega))
  unfold PSplit at H
  rw [isName_kind h]
  obtain ⟨K, hK⟩ : ∃ K, nameKind s = K := ⟨_, rfl⟩
  rw [hK] at H ⊢
  clear hK
  cases K with
  | zero =>
    have hf : ((((0 : Nat) : Int)) == k) = false := by rw [beq_eq_false_iff_ne]; omega
    rw [hf]
    clear hf
    rcases h with rfl | rfl | rfl
    all_goals
      go_enter Tryd.func8, Tryd.ntmps8
      go_wp2_with fail
      refine H.out.mono ?_
      rintro e w' ⟨ev, rfl, h1, -, hb⟩
      obtain rfl := h1 (by simp)
      have HB := Lib.hid hb
      clear hb h1
      go_wp2_with fail
      go_ret
      exact ⟨rfl, HB.out⟩
  | succ K =>
    have HN := Lib.hid (show K + 1 ≠ 0 by omega)
    obtain ⟨K', hK'⟩ : ∃ K', K + 1 = K' := ⟨_, rfl⟩
    rw [hK'] at H HN ⊢
    clear hK'
    rcases h with rfl | rfl | rfl
    all_goals
      go_enter Tryd.func8, Tryd.ntmps8
      go_wp2_with fail
      refine H.out.mono ?_
      rintro e w' ⟨ev, rfl, -, h1, hb⟩
      obtain rfl := h1 HN.out
      have HB := Lib.hid hb
      clear hb h1
      go_wp2_with fail
      go_ret
      exact ⟨rfl, HB.out⟩
set_option maxHeartbeats 2000000 in
set_option maxRecDepth 100000 in
theorem idIs : IsC IdG := fun k s W _ hs => by
  by_cases h123 : k = 1 ∨ k = 2 ∨ k = 3
  · exact is_named h123 s W hs
  by_cases k4 : k = 4
  · subst k4
    have e4 : isName 4 s = isEvent s := by rw [isName, if_neg (by decide), if_pos rfl]
    rw [e4]
    have H := Lib.hid (isEvent_any s W (by omega))
    clear h123 e4
    go_enter Tryd.func8, Tryd.ntmps8
    go_wp2_with fail
    refine H.out.mono ?_
    rintro e w' ⟨rfl, hb⟩
    have HB := Lib.hid hb
    clear hb
    go_wp2_with fail
    go_ret
    exact ⟨rfl, HB.out⟩
  by_cases k5 : k = 5
  · subst k5
    have e5 : isName 5 s = isServer s := by rw [isName, if_neg (by decide), if_neg (by decide), if_pos rfl]
    rw [e5]
    have H := Lib.hid (isServer_any s W (by omega))
    clear h123 e5 k4
    go_enter Tryd.func8, Tryd.ntmps8
    go_wp2_with fail
    refine H.out.mono ?_
    rintro e w' ⟨rfl, hb⟩
    have HB := Lib.hid hb
    clear hb
    go_wp2_with fail
    go_ret
    exact ⟨rfl, HB.out⟩
  have e0 : isName k s = false := by rw [isName, if_neg h123, if_neg k4, if_neg k5]
  rw [e0]
  have b1 : (k == 1) = false := by rw [beq_eq_false_iff_ne]; omega
  have b2 : (k == 2) = false := by rw [beq_eq_false_iff_ne]; omega
  have b3 : (k == 3) = false := by rw [beq_eq_false_iff_ne]; omega
  have b4 : (k == 4) = false := by rw [beq_eq_false_iff_ne]; omega
  have b5 : (k == 5) = false := by rw [beq_eq_false_iff_ne]; omega
  clear h123 k4 k5 e0
  go_enter Tryd.func8, Tryd.ntmps8
  go_wp2_with fail
  go_ret
  exact ⟨rfl, Below.refl _ _⟩
end Go.Proofs.YtakibkbmikkpdaaDoor
