/-
  A right value's canonical text isn't long, where there is little of the value.
-/
import Derived.Test.YtpehddbpingobaaDoorCanT0
import Derived.Test.YtpehddbpingobaaDoorChkN
import Derived.Lib.ItoaLen
namespace Go.Proofs.YtpehddbpingobaaDoor
open Go.RowKit Go.Lib
set_option linter.unusedVariables false
set_option linter.unusedSimpArgs false

theorem chkHead_none {fl : List V → Res} {fm : List (ByteArray × V) → Res} {k : Int} {y : Bool} {n : Int} {t : ByteArray} {l : List V} {m : List (ByteArray × V)} (h : chkHead fl fm (.mk k y n t l m) = none) :
    (k = 0 ∨ k = 1 ∨ k = 2 ∨ k = 3 ∨ k = 4 ∨ k = 5) ∧ (k = 2 → -9007199254740991 ≤ n ∧ n ≤ 9007199254740991) ∧ (k = 3 → validB t = true) ∧ (k = 4 → fl l = none) ∧ (k = 5 → fm m = none) := by
  simp only [chkHead] at h
  by_cases h01 : k = 0 ∨ k = 1
  · exact ⟨by omega, fun e => by omega, fun e => by omega, fun e => by omega, fun e => by omega⟩
  rw [if_neg h01] at h
  by_cases h2 : k = 2
  · rw [if_pos h2] at h
    refine ⟨by omega, fun _ => ?_, fun e => by omega, fun e => by omega, fun e => by omega⟩
    by_cases hn : n < -9007199254740991 ∨ 9007199254740991 < n
    · rw [if_pos hn] at h; cases h
    · omega
  rw [if_neg h2] at h
  by_cases h3 : k = 3
  · rw [if_pos h3] at h
    refine ⟨by omega, fun e => by omega, fun _ => ?_, fun e => by omega, fun e => by omega⟩
    cases hv : validB t with
    | true => rfl
    | false => rw [hv] at h; cases h
  rw [if_neg h3] at h
  by_cases h4 : k = 4
  · rw [if_pos h4] at h
    exact ⟨by omega, fun e => by omega, fun e => by omega, fun _ => h, fun e => by omega⟩
  rw [if_neg h4] at h
  by_cases h5 : k = 5
  · rw [if_pos h5] at h
    exact ⟨by omega, fun e => by omega, fun e => by omega, fun e => by omega, fun _ => h⟩
  rw [if_neg h5] at h
  cases h
theorem canL_len : ∀ (l : List V) (i : Nat), (∀ x ∈ l, (canT x).length + 200 ≤ 400 * wgt x) → (canL i l).length ≤ 400 * wgtL l
  | [], i, _ => by simp [canL]
  | v :: r, i, h => by
    have h1 := canL_len r (i + 1) fun x hx => h x (List.mem_cons_of_mem _ hx)
    have h2 := h v (List.mem_cons_self ..)
    have h3 := commaL_len i
    rw [canL, wgtL, List.length_append, List.length_append]
    omega
theorem canM_len : ∀ (l : List (ByteArray × V)) (i : Nat), (∀ x ∈ l, (canT x.2).length + 200 ≤ 400 * wgt x.2) → (canM i l).length ≤ 400 * wgtM l
  | [], i, _ => by simp [canM]
  | (s, v) :: r, i, h => by
    have h1 := canM_len r (i + 1) fun x hx => h x (List.mem_cons_of_mem _ hx)
    have h2 := h (s, v) (List.mem_cons_self ..)
    have h3 := commaL_len i
    have h4 := quoL_len s.data.toList
    have h5 : s.data.toList.length = s.size := by rw [Array.length_toList]; rfl
    rw [canM, wgtM, List.length_append, List.length_append, List.length_append, List.length_append, List.length_singleton]
    simp only at h2
    omega
theorem canT_len : ∀ (d : Nat) (v : V), chk d v = none → (canT v).length + 200 ≤ 400 * wgt v
  | d, .mk k y n t l m, h => by
    have hk : ∃ fl fm, chkHead fl fm (.mk k y n t l m) = none ∧ (fl l = none → ∀ x ∈ l, (canT x).length + 200 ≤ 400 * wgt x) ∧ (fm m = none → ∀ x ∈ m, (canT x.2).length + 200 ≤ 400 * wgt x.2) := by
      cases d with
      | zero => exact ⟨fun _ => some ([], 3), fun _ => some ([], 3), h, (fun e => absurd e (by simp)), (fun e => absurd e (by simp))⟩
      | succ d => exact ⟨_, _, h, fun e x hx => canT_len d x (chkL_none e x hx), fun e x hx => canT_len d x.2 (chkM_none e x hx)⟩
    obtain ⟨fl, fm, hh, hl, hm⟩ := hk
    obtain ⟨hk, h2, h3, h4, h5⟩ := chkHead_none hh
    rw [canT, wgt]
    rcases hk with rfl | rfl | rfl | rfl | rfl | rfl
    · rw [if_neg (by decide), if_neg (by decide), if_neg (by decide), if_neg (by decide), if_neg (by decide)]
      simp
      omega
    · rw [if_pos rfl]
      cases y <;> (simp; omega)
    · rw [if_neg (by decide), if_pos rfl]
      have := itoa_length_le n (by have := h2 rfl; omega) (by have := h2 rfl; omega)
      omega
    · rw [if_neg (by decide), if_neg (by decide), if_pos rfl]
      have h6 := quoL_len t.data.toList
      have h7 : t.data.toList.length = t.size := by rw [Array.length_toList]; rfl
      omega
    · rw [if_neg (by decide), if_neg (by decide), if_neg (by decide), if_pos rfl]
      have h6 := canL_len l 0 (hl (h4 rfl))
      rw [List.length_cons, List.length_append, List.length_singleton]
      omega
    · rw [if_neg (by decide), if_neg (by decide), if_neg (by decide), if_neg (by decide), if_pos rfl]
      have h6 := canM_len m 0 (hm (h5 rfl))
      rw [List.length_cons, List.length_append, List.length_singleton]
      omega
termination_by d _ _ => d
end Go.Proofs.YtpehddbpingobaaDoor
