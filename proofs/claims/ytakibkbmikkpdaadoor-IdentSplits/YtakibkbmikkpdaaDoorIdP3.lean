/-
  Names: whether a text is made of a set's bytes, from 1 to so many, walked.
-/
import Derived.Test.YtakibkbmikkpdaaDoorIdP2
namespace Go.Proofs.YtakibkbmikkpdaaDoor
open Go.RowKit Go.Lib
set_option linter.unusedVariables false
set_option linter.unusedSimpArgs false

theorem toList_nil {s : ByteArray} (h : s.size = 0) : s.toList = [] := by
  rw [Go.ByteArray.toList_eq]
  exact list_nil h
theorem toList_not {s : ByteArray} (h : s.size ≠ 0) : ¬ s.toList = [] := fun e => by
  rw [Go.ByteArray.toList_eq] at e
  have := congrArg List.length e
  rw [Array.length_toList] at this
  exact h this
set_option maxHeartbeats 1000000 in
set_option maxRecDepth 100000 in
theorem madeOf_any (s l : ByteArray) (most g : Nat) (w : World) (hs : s.size ≤ 1000000) (hm : most ≤ 1000000) (hg : w.cell? ⟨g, 0, none⟩ = some (.string l)) :
    Calls Tryd.prog 30 #[.string s, .int .i64 most, .func (.func 39) #[] #[.pointer (some ⟨g, 0, none⟩)]] w fun e w' => e = .returned (.bool (allB s 1 most l)) ∧ w = w' := by
  obtain ⟨R, hR⟩ : ∃ R, allB s 1 most l = R := ⟨_, rfl⟩
  rw [hR]
  unfold allB at hR
  by_cases c1 : 1 ≤ s.size
  · have hne := toList_not (s := s) (by omega)
    have he2 : (s.toList == []) = false := by simpa using hne
    have he3 : s.toList.isEmpty = false := by simpa using hne
    by_cases c2 : s.size ≤ most
    · rw [decide_eq_true c1, decide_eq_true c2, Bool.true_and, Bool.true_and] at hR
      have HR := Lib.hid hR
      have d2 : decide ((most : Int) < (s.size : Int)) = false := by simp; omega
      have d2' : decide (most < s.size) = false := by simp; omega
      have HI := Lib.hid (fun c => fits_any l c g w hg)
      clear hR hne hg
      go_enter Tryd.func30, Tryd.ntmps30
      go_wp2_with fail
      go_loop [18] (fun i => ∃ k : Nat, k ≤ s.size ∧ i = .int .i64 k ∧ (s.data.toList.take k).all (hasB l) = true) (fun i => s.size - (intOf i).toNat)
      case atStart => exact ⟨0, Nat.zero_le _, rfl, by simp⟩
      case round =>
        obtain ⟨k, hk, rfl, hyes⟩ := hrel
        have HN := Lib.hid hyes
        clear hyes
        by_cases hlt : k < s.size
        · have hsn := Lib.hid (take_snocB s k hlt)
          obtain ⟨b, hb⟩ : ∃ b, hasB l s[k] = b := ⟨_, rfl⟩
          have HB := Lib.hid hb
          have HC := Lib.hid (HI.out s[k])
          rw [hb] at HC
          clear hb
          cases b with
          | true =>
            go_wp2_with fail
            refine HC.out.mono ?_
            rintro e w' ⟨rfl, rfl⟩
            go_wp2_with fail
            go_round
            case rel =>
              refine ⟨k + 1, hlt, by go_num, ?_⟩
              rw [hsn.out, List.all_append, HN.out]
              simp [HB.out]
            case measure => simp [intOf]; omega
          | false =>
            go_wp2_with fail
            refine HC.out.mono ?_
            rintro e w' ⟨rfl, rfl⟩
            go_wp2_with fail
            go_ret
            refine ⟨?_, rfl⟩
            have : s.data.toList.all (hasB l) = false := by
              rw [List.all_eq_false]
              exact ⟨s[k], List.getElem_mem (by simpa using hlt), by rw [HB.out]; simp⟩
            rw [← HR.out, this]
            rfl
        · obtain rfl : k = s.size := by omega
          go_wp2_with fail
          go_ret
          refine ⟨?_, rfl⟩
          have h := HN.out
          rw [List.take_of_length_le (by simp)] at h
          rw [← HR.out, h]
          rfl
    · rw [decide_eq_true c1, decide_eq_false c2] at hR
      subst hR
      have d2 : decide ((most : Int) < (s.size : Int)) = true := by simp; omega
      have d2' : decide (most < s.size) = true := by simp; omega
      go_enter Tryd.func30, Tryd.ntmps30
      go_wp2_with fail
      go_ret
      exact ⟨rfl, rfl⟩
  · have he := toList_nil (s := s) (by omega)
    have he2 : (s.toList == []) = true := by rw [he]; rfl
    have he3 : s.toList.isEmpty = true := by rw [he]; rfl
    rw [decide_eq_false c1] at hR
    subst hR
    clear he
    go_enter Tryd.func30, Tryd.ntmps30
    go_wp2_with fail
    go_ret
    exact ⟨rfl, rfl⟩
end Go.Proofs.YtakibkbmikkpdaaDoor
