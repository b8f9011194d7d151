/-
  Names, plain: what the document's questions on texts answer; no text is a name of two kinds; the examples. No walk stands here.
-/
import Derived.WalkKit
import Derived.Deep.LoopGhost
import Derived.Deep.QuietTactic
import Derived.BigQuiet
import Derived.Lib.Hide
import Derived.Below
import Derived.IntWalk
namespace Go.Proofs.YtakibkbmikkpdaaDoor
open Go.RowKit Go.Lib
set_option linter.unusedVariables false
set_option linter.unusedSimpArgs false

def hasB (l : ByteArray) (c : UInt8) : Bool := l.data.toList.contains c
theorem take_snocB (s : ByteArray) (k : Nat) (h : k < s.size) : s.data.toList.take (k + 1) = s.data.toList.take k ++ [s[k]] := by
  rw [List.take_succ_eq_append_getElem (by simpa using h)]; rfl
theorem u8_beq (a b : UInt8) : (((a.toNat : Int)) == ((b.toNat : Int))) = (a == b) := by
  rw [Bool.eq_iff_iff]
  simp only [beq_iff_eq]
  constructor
  · intro h
    exact UInt8.toNat.inj (by omega)
  · intro h
    rw [h]

/-- From one number to another one of bytes, all of a list. -/
def allB (s : ByteArray) (least most : Nat) (l : ByteArray) : Bool := decide (least ≤ s.size) && (decide (s.size ≤ most) && s.data.toList.all (hasB l))

def aheadL (l : List UInt8) : List UInt8 := l.takeWhile (fun c => !(c == 58))
def aheadB (s : ByteArray) : ByteArray := ⟨(aheadL s.data.toList).toArray⟩
def behindB (s : ByteArray) : ByteArray := ⟨(s.data.toList.drop ((aheadL s.data.toList).length + 1)).toArray⟩
theorem ahead_at : ∀ {l : List UInt8} {k : Nat} (h : k < l.length), (l.take k).contains 58 = false → l[k] = 58 → aheadL l = l.take k
  | c :: r, 0, _, _, h2 => by
    simp only [List.getElem_cons_zero] at h2
    simp [aheadL, h2]
  | c :: r, k + 1, h, h1, h2 => by
    simp only [List.take_succ_cons, List.contains_cons, Bool.or_eq_false_iff] at h1
    have hc : (c == 58) = false := by
      have := h1.1
      rw [beq_eq_false_iff_ne] at this ⊢
      exact Ne.symm this
    have ih := ahead_at (l := r) (k := k) (by simpa using h) h1.2 (by simpa using h2)
    unfold aheadL at ih ⊢
    rw [List.takeWhile_cons, hc]
    simp [ih]
theorem ahead_none : ∀ {l : List UInt8}, l.contains 58 = false → aheadL l = l
  | [], _ => rfl
  | c :: r, h => by
    simp only [List.contains_cons, Bool.or_eq_false_iff] at h
    have hc : (c == 58) = false := by
      have := h.1
      rw [beq_eq_false_iff_ne] at this ⊢
      exact Ne.symm this
    have ih := ahead_none h.2
    unfold aheadL at ih ⊢
    rw [List.takeWhile_cons, hc]
    simp [ih]

theorem extract_ahead {s : ByteArray} {k : Nat} (hk : k < s.size) (h : aheadL s.data.toList = s.data.toList.take k) : s.extract 0 k = aheadB s ∧ s.extract (k + 1) s.size = behindB s := by
  have hl : (s.data.toList.take k).length = k := by rw [List.length_take, Array.length_toList]; exact Nat.min_eq_left (Nat.le_of_lt hk)
  constructor
  · apply ByteArray.ext
    rw [aheadB, h]
    apply Array.toList_inj.1
    simp
  · apply ByteArray.ext
    rw [behindB, h, hl]
    apply Array.toList_inj.1
    simp
    rw [List.take_of_length_le]
    simp

def srvL : ByteArray := ⟨#[97, 98, 99, 100, 101, 102, 103, 104, 105, 106, 107, 108, 109, 110, 111, 112, 113, 114, 115, 116, 117, 118, 119, 120, 121, 122, 48, 49, 50, 51, 52, 53, 54, 55, 56, 57, 46, 45]⟩
def locL : ByteArray := ⟨#[97, 98, 99, 100, 101, 102, 103, 104, 105, 106, 107, 108, 109, 110, 111, 112, 113, 114, 115, 116, 117, 118, 119, 120, 121, 122, 48, 49, 50, 51, 52, 53, 54, 55, 56, 57, 46, 95, 61, 45, 47]⟩
def opqL : ByteArray := ⟨#[97, 98, 99, 100, 101, 102, 103, 104, 105, 106, 107, 108, 109, 110, 111, 112, 113, 114, 115, 116, 117, 118, 119, 120, 121, 122, 48, 49, 50, 51, 52, 53, 54, 55, 56, 57, 65, 66, 67, 68, 69, 70, 71, 72, 73, 74, 75, 76, 77, 78, 79, 80, 81, 82, 83, 84, 85, 86, 87, 88, 89, 90, 95, 45, 46]⟩
def digL : ByteArray := ⟨#[48, 49, 50, 51, 52, 53, 54, 55, 56, 57]⟩
def hexL : ByteArray := ⟨#[48, 49, 50, 51, 52, 53, 54, 55, 56, 57, 97, 98, 99, 100, 101, 102]⟩
def isServer (s : ByteArray) : Bool := allB (aheadB s) 1 50 srvL && (!(hasB s 58) || allB (behindB s) 1 5 digL)
theorem ahead_size (s : ByteArray) : (aheadB s).size ≤ s.size := by
  have h : (aheadL s.data.toList).length ≤ s.data.toList.length := (List.takeWhile_prefix _).length_le
  have h1 : (aheadB s).size = (aheadL s.data.toList).length := List.size_toArray
  have h2 : s.data.toList.length = s.size := by rw [Array.length_toList]; rfl
  omega
theorem behind_size (s : ByteArray) : (behindB s).size ≤ s.size := by
  have h1 : (behindB s).size = (s.data.toList.drop ((aheadL s.data.toList).length + 1)).length := List.size_toArray
  have h2 : s.data.toList.length = s.size := by rw [Array.length_toList]; rfl
  rw [List.length_drop] at h1
  omega

def signKind (c : UInt8) : Nat := if c == 33 then 1 else if c == 64 then 2 else if c == 35 then 3 else 0
def signL (c : UInt8) : ByteArray := if c == 33 then opqL else locL
def firstB (s : ByteArray) : UInt8 := s.data.toList.headD 0
def restB (s : ByteArray) : ByteArray := s.extract 1 s.size
/-- A name's kind (0: it is none). -/
def nameKind (s : ByteArray) : Nat :=
  if s.size = 0 then 0 else if hasB (restB s) 58 && (allB (aheadB (restB s)) 1 50 (signL (firstB s)) && isServer (behindB (restB s))) then signKind (firstB s) else 0
def namePart (s : ByteArray) : ByteArray := if nameKind s = 0 then ⟨#[]⟩ else aheadB (restB s)
def nameServer (s : ByteArray) : ByteArray := if nameKind s = 0 then ⟨#[]⟩ else behindB (restB s)
theorem rest_size (s : ByteArray) : (restB s).size ≤ s.size := by
  rw [restB, ByteArray.size_extract]
  omega
def isEvent (s : ByteArray) : Bool := decide (s.size = 17) && (firstB s == 36 && allB (restB s) 16 16 hexL)
def isName (k : Int) (s : ByteArray) : Bool := if k = 1 ∨ k = 2 ∨ k = 3 then ((nameKind s : Int) == k) else if k = 4 then isEvent s else if k = 5 then isServer s else false
theorem first_eq {s : ByteArray} (h : 0 < s.size) : firstB s = s[0] := by
  have h1 : 0 < s.data.toList.length := by rw [Array.length_toList]; exact h
  rw [firstB, List.headD_eq_head?_getD, List.head?_eq_getElem?, List.getElem?_eq_getElem h1]
  rfl

theorem sign_cases (c : UInt8) (h : signKind c ≠ 0) : c = 33 ∨ c = 64 ∨ c = 35 := by
  unfold signKind at h
  by_cases h1 : c = 33
  · exact .inl h1
  by_cases h2 : c = 64
  · exact .inr (.inl h2)
  by_cases h3 : c = 35
  · exact .inr (.inr h3)
  simp [h1, h2, h3] at h
theorem kind_sign {s : ByteArray} (h : nameKind s ≠ 0) : nameKind s = signKind (firstB s) := by
  unfold nameKind at h ⊢
  by_cases h0 : s.size = 0
  · rw [if_pos h0] at h; exact absurd rfl h
  · rw [if_neg h0] at h ⊢
    by_cases h1 : (hasB (restB s) 58 && (allB (aheadB (restB s)) 1 50 (signL (firstB s)) && isServer (behindB (restB s)))) = true
    · rw [if_pos h1]
    · rw [if_neg h1] at h; exact absurd rfl h
theorem server_first {s : ByteArray} (h : isServer s = true) : hasB srvL (firstB s) = true := by
  unfold isServer allB at h
  simp only [Bool.and_eq_true, decide_eq_true_eq] at h
  obtain ⟨⟨h1, -, h2⟩, -⟩ := h
  have h3 : (aheadB s).size = (aheadL s.data.toList).length := List.size_toArray
  have h4 : (aheadB s).data.toList = aheadL s.data.toList := by rw [aheadB]
  rw [h4] at h2
  unfold firstB
  cases hl : s.data.toList with
  | nil =>
    rw [hl] at h3
    have h9 : (aheadL ([] : List UInt8)).length = 0 := rfl
    omega
  | cons c r =>
    rw [hl] at h2 h3
    unfold aheadL at h2 h3
    rw [List.takeWhile_cons] at h2 h3
    cases hc : (!(c == 58)) with
    | false =>
      rw [hc, if_neg (by decide)] at h3
      simp only [List.length_nil] at h3
      omega
    | true =>
      rw [hc] at h2
      simp only [if_true, List.all_cons, Bool.and_eq_true] at h2
      exact h2.1
theorem srv_sign (c : UInt8) (h : hasB srvL c = true) : signKind c = 0 ∧ c ≠ 36 := by
  constructor
  · cases h0 : signKind c with
    | zero => rfl
    | succ k =>
      rcases sign_cases c (by omega) with rfl | rfl | rfl <;> (exfalso; revert h; decide)
  · rintro rfl
    revert h
    decide
def oneIf (b : Bool) : Nat := if b then 1 else 0
theorem name_one (s : ByteArray) : oneIf (isName 1 s) + oneIf (isName 2 s) + oneIf (isName 3 s) + oneIf (isName 4 s) + oneIf (isName 5 s) ≤ 1 := by
  have e1 : isName 1 s = ((nameKind s : Int) == 1) := by rw [isName, if_pos (by decide)]
  have e2 : isName 2 s = ((nameKind s : Int) == 2) := by rw [isName, if_pos (by decide)]
  have e3 : isName 3 s = ((nameKind s : Int) == 3) := by rw [isName, if_pos (by decide)]
  have e4 : isName 4 s = isEvent s := by rw [isName, if_neg (by decide), if_pos rfl]
  have e5 : isName 5 s = isServer s := by rw [isName, if_neg (by decide), if_neg (by decide), if_pos rfl]
  rw [e1, e2, e3, e4, e5]
  have h45 : isEvent s = true → firstB s = 36 := fun h => by
    unfold isEvent at h
    simp only [Bool.and_eq_true, beq_iff_eq] at h
    exact h.2.1
  by_cases hk : nameKind s = 0
  · rw [hk]
    have z1 : (((0 : Nat) : Int) == 1) = false := rfl
    have z2 : (((0 : Nat) : Int) == 2) = false := rfl
    have z3 : (((0 : Nat) : Int) == 3) = false := rfl
    rw [z1, z2, z3]
    cases h4 : isEvent s with
    | false => cases isServer s <;> decide
    | true =>
      cases h5 : isServer s with
      | false => decide
      | true => exact absurd (h45 h4) (srv_sign _ (server_first h5)).2
  · have hs := kind_sign hk
    have h5 : isServer s = false := by
      cases h5 : isServer s with
      | false => rfl
      | true =>
        have := (srv_sign _ (server_first h5)).1
        rw [← hs] at this
        exact absurd this hk
    have h4 : isEvent s = false := by
      cases h4 : isEvent s with
      | false => rfl
      | true =>
        rw [h45 h4] at hs
        exact absurd (hs.trans (by decide)) hk
    rw [h4, h5]
    unfold oneIf
    by_cases k1 : nameKind s = 1
    · rw [k1]; decide
    by_cases k2 : nameKind s = 2
    · rw [k2]; decide
    by_cases k3 : nameKind s = 3
    · rw [k3]; decide
    have z1 : ((nameKind s : Int) == 1) = false := by rw [beq_eq_false_iff_ne]; omega
    have z2 : ((nameKind s : Int) == 2) = false := by rw [beq_eq_false_iff_ne]; omega
    have z3 : ((nameKind s : Int) == 3) = false := by rw [beq_eq_false_iff_ne]; omega
    rw [z1, z2, z3]
    decide
/-- The document's examples. -/
theorem ex_user : isName 2 ⟨#[64, 97, 110, 110, 58, 120, 46, 111, 114, 103]⟩ = true := by decide +kernel
theorem ex_not : isName 1 ⟨#[64, 97, 110, 110, 58, 120, 46, 111, 114, 103]⟩ = false := by decide +kernel
theorem ex_of : nameServer ⟨#[33, 97, 58, 98, 58, 56, 48]⟩ = ⟨#[98, 58, 56, 48]⟩ := by decide +kernel
end Go.Proofs.YtakibkbmikkpdaaDoor
