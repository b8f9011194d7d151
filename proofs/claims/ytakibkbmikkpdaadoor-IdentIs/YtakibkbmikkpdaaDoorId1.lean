/-
  Names: the document's small questions on texts, walked: is a byte in a list; are all bytes of a text; the first colon.
-/
import Derived.Test.YtakibkbmikkpdaaDoorId0
import Derived.Test.YtakibkbmikkpdaaDoorProg
namespace Go.Proofs.YtakibkbmikkpdaaDoor
open Go.RowKit Go.Lib
set_option linter.unusedVariables false
set_option linter.unusedSimpArgs false

set_option maxHeartbeats 800000 in
theorem in_ref (l : ByteArray) (c : UInt8) (w : World) (hl : l.size ≤ 1000000) :
    Calls Tryd.prog 34 #[.string l, .int .u8 c.toNat] w fun e w' => e = .returned (.bool (hasB l c)) ∧ w = w' := by
  obtain ⟨R, hR⟩ : ∃ R, hasB l c = R := ⟨_, rfl⟩
  rw [hR]
  have HR := Lib.hid hR
  clear hR
  go_enter Tryd.func34, Tryd.ntmps34
  go_wp2
  go_loop [8] (fun i => ∃ k : Nat, k ≤ l.size ∧ i = .int .i64 k ∧ (l.data.toList.take k).contains c = false) (fun i => l.size - (intOf i).toNat)
  case atStart => exact ⟨0, Nat.zero_le _, rfl, by simp⟩
  case round =>
    obtain ⟨k, hk, rfl, hno⟩ := hrel
    have HN := Lib.hid hno
    clear hno
    by_cases hlt : k < l.size
    · have hsn := Lib.hid (take_snocB l k hlt)
      cases hc : (l[k] == c) with
      | true =>
        have hb : (((l[k].toNat : Int)) == ((c.toNat : Int))) = true := by rw [u8_beq]; exact hc
        have HC := Lib.hid hc
        clear hc
        go_wp2
        go_ret
        refine ⟨?_, rfl⟩
        have : hasB l c = true := by
          unfold hasB
          rw [List.contains_iff_mem]
          have h1 : l[k] = c := by simpa using HC.out
          rw [← h1]
          exact List.getElem_mem (by simpa using hlt)
        rw [← HR.out, this]
        rfl
      | false =>
        have hb : (((l[k].toNat : Int)) == ((c.toNat : Int))) = false := by rw [u8_beq]; exact hc
        have HC := Lib.hid hc
        clear hc
        go_wp2
        go_round
        case rel =>
          refine ⟨k + 1, hlt, by go_num, ?_⟩
          rw [hsn.out, List.contains_append, HN.out]
          have h1 : ¬ l[k] = c := by simpa using HC.out
          simp [Ne.symm h1]
        case measure => simp [intOf]; omega
    · obtain rfl : k = l.size := by omega
      go_wp2
      go_ret
      refine ⟨?_, rfl⟩
      have : hasB l c = false := by
        have h := HN.out
        rw [List.take_of_length_le (by simp)] at h
        exact h
      rw [← HR.out, this]
      rfl

set_option maxHeartbeats 800000 in
theorem all_ref (s : ByteArray) (least most : Nat) (l : ByteArray) (w : World) (hs : s.size ≤ 1000000) (hl : l.size ≤ 1000000) (h1 : least ≤ 1000000) (h2 : most ≤ 1000000) :
    Calls Tryd.prog 18 #[.string s, .int .i64 least, .int .i64 most, .string l] w fun e w' => e = .returned (.bool (allB s least most l)) ∧ w = w' := by
  obtain ⟨R, hR⟩ : ∃ R, allB s least most l = R := ⟨_, rfl⟩
  rw [hR]
  unfold allB at hR
  by_cases c1 : least ≤ s.size
  · by_cases c2 : s.size ≤ most
    · rw [decide_eq_true c1, decide_eq_true c2, Bool.true_and, Bool.true_and] at hR
      have HR := Lib.hid hR
      have d1 : decide ((s.size : Int) < (least : Int)) = false := by simp; omega
      have d1' : decide (s.size < least) = false := by simp; omega
      have d2 : decide ((most : Int) < (s.size : Int)) = false := by simp; omega
      have d2' : decide (most < s.size) = false := by simp; omega
      have HI := Lib.hid (fun c => in_ref l c w hl)
      clear hR
      go_enter Tryd.func18, Tryd.ntmps18
      go_wp2_with fail
      go_loop [22] (fun i => ∃ k : Nat, k ≤ s.size ∧ i = .int .i64 k ∧ (s.data.toList.take k).all (hasB l) = true) (fun i => s.size - (intOf i).toNat)
      case atStart => exact ⟨0, Nat.zero_le _, rfl, by simp⟩
      case round =>
        obtain ⟨k, hk, rfl, hyes⟩ := hrel
        have HN := Lib.hid hyes
        clear hyes
        by_cases hlt : k < s.size
        · have hsn := Lib.hid (take_snocB s k hlt)
          obtain ⟨b, hb⟩ : ∃ b, hasB l s[k] = b := ⟨_, rfl⟩
          have HB := Lib.hid hb
          have HC := Lib.hid (HI.out s[k])
          rw [hb] at HC
          clear hb
          cases b with
          | true =>
            go_wp2_with fail
            refine HC.out.mono ?_
            rintro e w' ⟨rfl, rfl⟩
            go_wp2_with fail
            go_round
            case rel =>
              refine ⟨k + 1, hlt, by go_num, ?_⟩
              rw [hsn.out, List.all_append, HN.out]
              simp [HB.out]
            case measure => simp [intOf]; omega
          | false =>
            go_wp2_with fail
            refine HC.out.mono ?_
            rintro e w' ⟨rfl, rfl⟩
            go_wp2_with fail
            go_ret
            refine ⟨?_, rfl⟩
            have : s.data.toList.all (hasB l) = false := by
              rw [List.all_eq_false]
              exact ⟨s[k], List.getElem_mem (by simpa using hlt), by rw [HB.out]; simp⟩
            rw [← HR.out, this]
            rfl
        · obtain rfl : k = s.size := by omega
          go_wp2_with fail
          go_ret
          refine ⟨?_, rfl⟩
          have h := HN.out
          rw [List.take_of_length_le (by simp)] at h
          rw [← HR.out, h]
          rfl
    · rw [decide_eq_true c1, decide_eq_false c2] at hR
      subst hR
      have d1 : decide ((s.size : Int) < (least : Int)) = false := by simp; omega
      have d1' : decide (s.size < least) = false := by simp; omega
      have d2 : decide ((most : Int) < (s.size : Int)) = true := by simp; omega
      have d2' : decide (most < s.size) = true := by simp; omega
      go_enter Tryd.func18, Tryd.ntmps18
      go_wp2_with fail
      go_ret
      exact ⟨rfl, rfl⟩
  · rw [decide_eq_false c1] at hR
    subst hR
    have d1 : decide ((s.size : Int) < (least : Int)) = true := by simp; omega
    have d1' : decide (s.size < least) = true := by simp; omega
    go_enter Tryd.func18, Tryd.ntmps18
    go_wp2_with fail
    go_ret
    exact ⟨rfl, rfl⟩
end Go.Proofs.YtakibkbmikkpdaaDoor
