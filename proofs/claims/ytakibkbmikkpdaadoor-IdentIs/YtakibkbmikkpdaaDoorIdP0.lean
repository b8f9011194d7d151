/-
  Names, plain: the program's own way (a cut at the first colon of the whole text, sets in another order) comes to the document's words. No walk stands here.
-/
import Derived.Test.YtakibkbmikkpdaaDoorId0
import Derived.Lib.CutLaws
import Derived.Lib.IndexAny
import Derived.Lib.IndexBytes
namespace Go.Proofs.YtakibkbmikkpdaaDoor
open Go.RowKit Go.Lib
set_option linter.unusedVariables false
set_option linter.unusedSimpArgs false

theorem ahead_cons {c : UInt8} (h : c ≠ 58) (r : List UInt8) : aheadL (c :: r) = c :: aheadL r := by
  have hc : (!(c == 58)) = true := by simpa using h
  unfold aheadL
  rw [List.takeWhile_cons, if_pos hc]
theorem ahead_colon (r : List UInt8) : aheadL (58 :: r) = [] := by
  unfold aheadL
  rw [List.takeWhile_cons, if_neg (by decide)]
theorem index_ahead : ∀ l : List UInt8, indexByte l 58 = if l.contains 58 then ((aheadL l).length : Int) else -1
  | [] => rfl
  | c :: r => by
    have ih := index_ahead r
    by_cases hc : c = 58
    · subst hc
      rw [indexByte, if_pos (by decide), ahead_colon, if_pos (by simp)]
      rfl
    · have h1 : ¬(c == 58) = true := by simpa using hc
      have h2 : ((58 : UInt8) == c) = false := by rw [beq_eq_false_iff_ne]; exact Ne.symm hc
      rw [indexByte, if_neg h1, ih, ahead_cons hc, List.contains_cons, h2, Bool.false_or]
      by_cases hr : r.contains 58 = true
      · rw [if_pos hr, if_pos hr, if_neg (by rw [beq_iff_eq]; omega), List.length_cons]
        omega
      · rw [if_neg hr, if_neg hr]
        rfl
theorem cut_ahead (l : List UInt8) : cut l [58] = (aheadL l, l.drop ((aheadL l).length + 1), l.contains 58) := by
  unfold cut
  rw [index_one, index_ahead]
  by_cases h : l.contains 58 = true
  · rw [if_pos h, if_pos (by omega), h]
    have ht : l.take (aheadL l).length = aheadL l := (List.prefix_iff_eq_take.1 (List.takeWhile_prefix _)).symm
    rw [Int.toNat_natCast, ht]
    rfl
  · rw [if_neg h, if_neg (by decide)]
    have h' : l.contains 58 = false := by simpa using h
    rw [h', ahead_none h', List.drop_eq_nil_of_le (by omega)]
theorem behind_none {s : ByteArray} (h : hasB s 58 = false) : behindB s = ⟨#[]⟩ := by
  unfold behindB
  rw [ahead_none h, List.drop_eq_nil_of_le (by omega)]
theorem noServer : isServer ⟨#[]⟩ = false := by decide
theorem rest_list (s : ByteArray) : (restB s).data.toList = s.data.toList.tail := by
  unfold restB
  rw [ByteArray.data_extract, Array.toList_extract, List.extract_eq_take_drop, List.drop_one]
  apply List.take_of_length_le
  rw [List.length_tail, Array.length_toList]
  exact Nat.le_refl _
theorem byte_ext {a b : ByteArray} (h : a.data.toList = b.data.toList) : a = b := by
  apply ByteArray.ext
  exact Array.toList_inj.1 h
theorem server_has {s : ByteArray} (h : isServer (behindB s) = true) : hasB s 58 = true := by
  cases hh : hasB s 58 with
  | true => rfl
  | false =>
    rw [behind_none hh, noServer] at h
    exact absurd h (by decide)
theorem list_nil {s : ByteArray} (h : s.size = 0) : s.data.toList = [] := by
  apply List.eq_nil_of_length_eq_zero
  rw [Array.length_toList]
  exact h
theorem list_cons {s : ByteArray} (h : s.size ≠ 0) : s.data.toList = firstB s :: (restB s).data.toList := by
  rw [rest_list, firstB]
  cases hl : s.data.toList with
  | nil =>
    have h1 : s.data.toList.length = s.size := by rw [Array.length_toList]; rfl
    rw [hl] at h1
    exact absurd h1.symm h
  | cons c r => rfl
/-- The program's own order of questions. -/
def progKind (s : ByteArray) : Nat :=
  if (aheadB s).size = 0 then 0 else if isServer (behindB s) = false then 0 else if signKind (firstB (aheadB s)) = 0 then 0
  else if allB (restB (aheadB s)) 1 50 (signL (firstB (aheadB s))) = true then signKind (firstB (aheadB s)) else 0
theorem ahead_parts {s : ByteArray} (h : s.size ≠ 0) (hf : firstB s ≠ 58) : (aheadB s).size ≠ 0 ∧ firstB (aheadB s) = firstB s ∧ restB (aheadB s) = aheadB (restB s) ∧ behindB s = behindB (restB s) := by
  have hl := list_cons h
  have ha : (aheadB s).data.toList = firstB s :: aheadL (restB s).data.toList := by
    show aheadL s.data.toList = _
    rw [hl, ahead_cons hf]
  refine ⟨?_, ?_, ?_, ?_⟩
  · intro h0
    have := list_nil h0
    rw [ha] at this
    exact absurd this (by simp)
  · show (aheadB s).data.toList.headD 0 = _
    rw [ha]
    rfl
  · apply byte_ext
    rw [rest_list, ha]
    rfl
  · apply byte_ext
    show s.data.toList.drop ((aheadL s.data.toList).length + 1) = (restB s).data.toList.drop ((aheadL (restB s).data.toList).length + 1)
    rw [hl, ahead_cons hf]
    rfl
theorem prog_kind (s : ByteArray) : nameKind s = progKind s := by
  unfold nameKind
  by_cases h0 : s.size = 0
  · rw [if_pos h0]
    unfold progKind
    have : (aheadB s).size = 0 := by
      have := ahead_size s
      omega
    rw [if_pos this]
  · rw [if_neg h0]
    by_cases hf : firstB s = 58
    · have hz : (aheadB s).size = 0 := by
        show (aheadL s.data.toList).toArray.size = 0
        rw [list_cons h0, hf, ahead_colon]
        rfl
      unfold progKind
      rw [if_pos hz, hf]
      have : signKind 58 = 0 := by decide
      rw [this]
      split <;> rfl
    · obtain ⟨p1, p2, p3, p4⟩ := ahead_parts h0 hf
      unfold progKind
      rw [if_neg p1, p2, p3, p4]
      cases hs : isServer (behindB (restB s)) with
      | false => simp
      | true =>
        rw [server_has hs, if_neg (show ¬ (true = false) by decide), Bool.true_and, Bool.and_true]
        by_cases hk : signKind (firstB s) = 0
        · rw [if_pos hk, hk]
          split <;> rfl
        · rw [if_neg hk]
theorem prog_part {s : ByteArray} (h : nameKind s ≠ 0) : namePart s = restB (aheadB s) ∧ nameServer s = behindB s := by
  have h0 : s.size ≠ 0 := by
    intro h0
    unfold nameKind at h
    rw [if_pos h0] at h
    exact h rfl
  have hf : firstB s ≠ 58 := by
    intro hf
    have := kind_sign h
    rw [hf] at this
    exact h (this.trans (by decide))
  obtain ⟨-, -, p3, p4⟩ := ahead_parts h0 hf
  unfold namePart nameServer
  rw [if_neg h, if_neg h, p3, p4]
  exact ⟨rfl, rfl⟩
theorem prog_none {s : ByteArray} (h : nameKind s = 0) : namePart s = ⟨#[]⟩ ∧ nameServer s = ⟨#[]⟩ := by
  unfold namePart nameServer
  rw [if_pos h, if_pos h]
  exact ⟨rfl, rfl⟩
/-- The program's set of an opaque part: capitals first. -/
def opqP : ByteArray := ⟨#[65, 66, 67, 68, 69, 70, 71, 72, 73, 74, 75, 76, 77, 78, 79, 80, 81, 82, 83, 84, 85, 86, 87, 88, 89, 90, 97, 98, 99, 100, 101, 102, 103, 104, 105, 106, 107, 108, 109, 110, 111, 112, 113, 114, 115, 116, 117, 118, 119, 120, 121, 122, 48, 49, 50, 51, 52, 53, 54, 55, 56, 57, 95, 45, 46]⟩
theorem opq_fin : ∀ n : Fin 256, hasB opqP (UInt8.ofNat n.val) = hasB opqL (UInt8.ofNat n.val) := by decide +kernel
theorem opq_has (c : UInt8) : hasB opqP c = hasB opqL c := by
  have h := opq_fin ⟨c.toNat, c.toNat_lt⟩
  simpa using h
theorem opq_all (s : ByteArray) (a b : Nat) : allB s a b opqP = allB s a b opqL := by
  unfold allB
  rw [show hasB opqP = hasB opqL from funext opq_has]
def signP (c : UInt8) : ByteArray := if c == 33 then opqP else locL
theorem sign_all (s : ByteArray) (a b : Nat) (c : UInt8) : allB s a b (signP c) = allB s a b (signL c) := by
  unfold signP signL
  cases h : (c == 33) with
  | false => rfl
  | true => exact opq_all s a b
theorem event_pre (s : ByteArray) : hasPrefix s.data.toList [36] = (decide (s.size ≠ 0) && (firstB s == 36)) := by
  by_cases h0 : s.size = 0
  · rw [list_nil h0]
    simp [h0, hasPrefix]
  · rw [list_cons h0]
    have hd : decide (s.size ≠ 0) = true := by simpa using h0
    rw [hd, Bool.true_and]
    show List.isPrefixOf [36] (firstB s :: (restB s).data.toList) = _
    simp only [List.isPrefixOf, Bool.and_true]
    rw [Bool.eq_iff_iff]
    simp only [beq_iff_eq]
    exact ⟨Eq.symm, Eq.symm⟩
theorem event_trim {s : ByteArray} (h : hasPrefix s.data.toList [36] = true) : (⟨(trimPrefix s.data.toList [36]).toArray⟩ : ByteArray) = restB s := by
  apply byte_ext
  rw [rest_list]
  show trimPrefix s.data.toList [36] = _
  unfold trimPrefix
  rw [if_pos h]
  exact List.drop_one
theorem event_eq (s : ByteArray) : isEvent s = (hasPrefix s.data.toList [36] && (decide ((restB s).size = 16) && allB (restB s) 1 16 hexL)) := by
  rw [event_pre]
  unfold isEvent
  by_cases h0 : s.size = 0
  · simp [h0]
  · have hd : decide (s.size ≠ 0) = true := by simpa using h0
    have hr : (restB s).size = s.size - 1 := by
      unfold restB
      rw [ByteArray.size_extract]
      omega
    rw [hd, Bool.true_and]
    by_cases h17 : s.size = 17
    · have h16 : (restB s).size = 16 := by omega
      unfold allB
      rw [h17, h16]
      cases (firstB s == 36) <;> simp
    · have h16 : (restB s).size ≠ 16 := by omega
      simp [h17, h16]
end Go.Proofs.YtakibkbmikkpdaaDoor
