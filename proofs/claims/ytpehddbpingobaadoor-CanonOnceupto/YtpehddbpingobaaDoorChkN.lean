/-
  What a check says of parts, the first part. No walk stands here.
-/
import Derived.Test.YtpehddbpingobaaDoorVals
namespace Go.Proofs.YtpehddbpingobaaDoor
open Go.RowKit Go.Lib
set_option linter.unusedVariables false
set_option linter.unusedSimpArgs false

abbrev Res := Option (List ByteArray × Int)
theorem chkHead_other {fl fl' : List V → Res} {fm fm' : List (ByteArray × V) → Res} {k : Int} {y : Bool} {n : Int} {t : ByteArray} {l : List V} {m : List (ByteArray × V)} (h4 : k ≠ 4) (h5 : k ≠ 5) : chkHead fl fm (.mk k y n t l m) = chkHead fl' fm' (.mk k y n t l m) := by
  simp only [chkHead, if_neg h4, if_neg h5]
theorem chkHead_4 {fl : List V → Res} {fm : List (ByteArray × V) → Res} {y : Bool} {n : Int} {t : ByteArray} {l : List V} {m : List (ByteArray × V)} : chkHead fl fm (.mk 4 y n t l m) = fl l := by simp [chkHead]
theorem chkHead_5 {fl : List V → Res} {fm : List (ByteArray × V) → Res} {y : Bool} {n : Int} {t : ByteArray} {l : List V} {m : List (ByteArray × V)} : chkHead fl fm (.mk 5 y n t l m) = fm m := by simp [chkHead]

theorem chkL_none {f : V → Res} : ∀ {l : List V} {i : Nat}, chkL f i l = none → ∀ x ∈ l, f x = none
  | v :: r, i, h, x, hx => by
    rw [chkL] at h
    cases hv : f v with
    | some pc => rw [hv] at h; cases h
    | none =>
      rw [hv] at h
      rcases List.mem_cons.1 hx with rfl | hx
      · exact hv
      · exact chkL_none h x hx
theorem chkL_of {f : V → Res} : ∀ {l : List V} {i : Nat}, (∀ x ∈ l, f x = none) → chkL f i l = none
  | [], i, _ => by rw [chkL]
  | v :: r, i, h => by rw [chkL, h v (List.mem_cons_self ..)]; exact chkL_of fun x hx => h x (List.mem_cons_of_mem _ hx)
theorem chkM_none {f : V → Res} : ∀ {l : List (ByteArray × V)} {q : Option ByteArray}, chkM f q l = none → ∀ x ∈ l, f x.2 = none
  | (s, v) :: r, q, h, x, hx => by
    rw [chkM] at h
    cases hk : chkKey s q with
    | some c => rw [hk] at h; cases h
    | none =>
      rw [hk] at h
      cases hv : f v with
      | some pc => rw [hv] at h; cases h
      | none =>
        rw [hv] at h
        rcases List.mem_cons.1 hx with rfl | hx
        · exact hv
        · exact chkM_none h x hx
end Go.Proofs.YtpehddbpingobaaDoor
