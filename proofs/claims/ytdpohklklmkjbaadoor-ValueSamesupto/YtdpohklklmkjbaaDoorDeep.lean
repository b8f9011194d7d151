/-
  What a check says of parts, and of what stands one deeper. No walk stands here.
-/
import Derived.Test.YtdpohklklmkjbaaDoorDepth
namespace Go.Proofs.YtdpohklklmkjbaaDoor
open Go.RowKit Go.Lib
set_option linter.unusedVariables false
set_option linter.unusedSimpArgs false

abbrev Res := Option (List ByteArray × Int)
theorem chkHead_other {fl fl' : List V → Res} {fm fm' : List (ByteArray × V) → Res} {k : Int} {y : Bool} {n : Int} {t : ByteArray} {l : List V} {m : List (ByteArray × V)} (h4 : k ≠ 4) (h5 : k ≠ 5) : chkHead fl fm (.mk k y n t l m) = chkHead fl' fm' (.mk k y n t l m) := by
  simp only [chkHead, if_neg h4, if_neg h5]
theorem chkHead_4 {fl : List V → Res} {fm : List (ByteArray × V) → Res} {y : Bool} {n : Int} {t : ByteArray} {l : List V} {m : List (ByteArray × V)} : chkHead fl fm (.mk 4 y n t l m) = fl l := by simp [chkHead]
theorem chkHead_5 {fl : List V → Res} {fm : List (ByteArray × V) → Res} {y : Bool} {n : Int} {t : ByteArray} {l : List V} {m : List (ByteArray × V)} : chkHead fl fm (.mk 5 y n t l m) = fm m := by simp [chkHead]

theorem chkL_none {f : V → Res} : ∀ {l : List V} {i : Nat}, chkL f i l = none → ∀ x ∈ l, f x = none
  | v :: r, i, h, x, hx => by
    rw [chkL] at h
    cases hv : f v with
    | some pc => rw [hv] at h; cases h
    | none =>
      rw [hv] at h
      rcases List.mem_cons.1 hx with rfl | hx
      · exact hv
      · exact chkL_none h x hx
theorem chkL_of {f : V → Res} : ∀ {l : List V} {i : Nat}, (∀ x ∈ l, f x = none) → chkL f i l = none
  | [], i, _ => by rw [chkL]
  | v :: r, i, h => by rw [chkL, h v (List.mem_cons_self ..)]; exact chkL_of fun x hx => h x (List.mem_cons_of_mem _ hx)
theorem chkM_none {f : V → Res} : ∀ {l : List (ByteArray × V)} {q : Option ByteArray}, chkM f q l = none → ∀ x ∈ l, f x.2 = none
  | (s, v) :: r, q, h, x, hx => by
    rw [chkM] at h
    cases hk : chkKey s q with
    | some c => rw [hk] at h; cases h
    | none =>
      rw [hk] at h
      cases hv : f v with
      | some pc => rw [hv] at h; cases h
      | none =>
        rw [hv] at h
        rcases List.mem_cons.1 hx with rfl | hx
        · exact hv
        · exact chkM_none h x hx
theorem chkM_of {f g : V → Res} : ∀ {l : List (ByteArray × V)} {q : Option ByteArray}, chkM f q l = none → (∀ x ∈ l, g x.2 = none) → chkM g q l = none
  | [], q, _, _ => by rw [chkM]
  | (s, v) :: r, q, h, hg => by
    rw [chkM] at h
    cases hk : chkKey s q with
    | some c => rw [hk] at h; cases h
    | none =>
      rw [hk] at h
      cases hv : f v with
      | some pc => rw [hv] at h; cases h
      | none =>
        rw [hv] at h
        have hgv : g v = none := hg (s, v) (List.mem_cons_self ..)
        rw [chkM, hk]
        dsimp only
        rw [hgv]
        exact chkM_of h fun x hx => hg x (List.mem_cons_of_mem _ hx)
theorem depL_le_of {d : Nat} : ∀ {l : List V}, (∀ x ∈ l, dep x ≤ d) → depL l ≤ d
  | [], _ => by simp [depL]
  | v :: r, h => by have h1 := h v (List.mem_cons_self ..); have h2 := depL_le_of (l := r) (fun x hx => h x (List.mem_cons_of_mem _ hx)); rw [depL]; omega
theorem depM_le_of {d : Nat} : ∀ {l : List (ByteArray × V)}, (∀ x ∈ l, dep x.2 ≤ d) → depM l ≤ d
  | [], _ => by simp [depM]
  | (s, v) :: r, h => by have h1 := h (s, v) (List.mem_cons_self ..); have h2 := depM_le_of (l := r) (fun x hx => h x (List.mem_cons_of_mem _ hx)); rw [depM]; dsimp only at h1; omega

/-- A right value isn't too deep. -/
theorem chk_dep : ∀ (d : Nat) (v : V), chk d v = none → dep v ≤ d
  | 0, .mk k y n t l m, h => by
    rw [chk] at h
    by_cases k4 : k = 4
    · subst k4; rw [chkHead_4] at h; cases h
    by_cases k5 : k = 5
    · subst k5; rw [chkHead_5] at h; cases h
    rw [dep, if_neg k4, if_neg k5]; exact Nat.le_refl _
  | d + 1, .mk k y n t l m, h => by
    rw [chk] at h
    by_cases k4 : k = 4
    · subst k4
      rw [chkHead_4] at h
      have := depL_le_of (d := d) (fun x hx => chk_dep d x (chkL_none h x hx))
      rw [dep, if_pos rfl]; omega
    by_cases k5 : k = 5
    · subst k5
      rw [chkHead_5] at h
      have := depM_le_of (d := d) (fun x hx => chk_dep d x.2 (chkM_none h x hx))
      rw [dep, if_neg k4, if_pos rfl]; omega
    rw [dep, if_neg k4, if_neg k5]; omega
theorem chk_mono : ∀ (d : Nat) (v : V), chk d v = none → chk (d + 1) v = none
  | 0, .mk k y n t l m, h => by
    rw [chk] at h
    rw [chk]
    by_cases k4 : k = 4
    · subst k4; rw [chkHead_4] at h; cases h
    by_cases k5 : k = 5
    · subst k5; rw [chkHead_5] at h; cases h
    rw [chkHead_other k4 k5]; exact h
  | d + 1, .mk k y n t l m, h => by
    rw [chk] at h
    rw [chk]
    by_cases k4 : k = 4
    · subst k4
      rw [chkHead_4] at h ⊢
      exact chkL_of fun x hx => chk_mono d x (chkL_none h x hx)
    by_cases k5 : k = 5
    · subst k5
      rw [chkHead_5] at h ⊢
      exact chkM_of h fun x hx => chk_mono d x.2 (chkM_none h x hx)
    rw [chkHead_other k4 k5]; exact h
theorem chk_part : ∀ (d : Nat) (v : V), chk (d + 1) v = none → ∀ x ∈ parts v, chk d x = none
  | d, .mk k y n t l m, h, x, hx => by
    rw [chk] at h
    rw [parts] at hx
    by_cases k4 : k = 4
    · subst k4
      rw [chkHead_4] at h
      rw [if_pos rfl] at hx
      exact chkL_none h x hx
    rw [if_neg k4] at hx
    by_cases k5 : k = 5
    · subst k5
      rw [chkHead_5] at h
      rw [if_pos rfl] at hx
      obtain ⟨p, hp, rfl⟩ := List.mem_map.1 hx
      exact chkM_none h p hp
    rw [if_neg k5] at hx
    cases hx

theorem chkL_deep {d : Nat} {f : V → Res} : ∀ {l : List V} {i : Nat}, (∀ x ∈ l, (dep x ≤ d → f x = none) ∧ (dep x = d + 1 → ∃ p, f x = some (p, 3)) ∧ dep x ≤ d + 1) → depL l = d + 1 → ∃ p, chkL f i l = some (p, 3)
  | [], i, _, h => by simp [depL] at h
  | v :: r, i, h, hd => by
    obtain ⟨h1, h2, h3⟩ := h v (List.mem_cons_self ..)
    by_cases hv : dep v = d + 1
    · obtain ⟨p, hp⟩ := h2 hv
      exact ⟨itoaB i :: p, by rw [chkL, hp]⟩
    · rw [chkL, h1 (by omega)]
      exact chkL_deep (fun x hx => h x (List.mem_cons_of_mem _ hx)) (by rw [depL] at hd; omega)
theorem chkM_deep {d : Nat} {f g : V → Res} : ∀ {l : List (ByteArray × V)} {q : Option ByteArray}, chkM g q l = none → (∀ x ∈ l, (dep x.2 ≤ d → f x.2 = none) ∧ (dep x.2 = d + 1 → ∃ p, f x.2 = some (p, 3)) ∧ dep x.2 ≤ d + 1) → depM l = d + 1 → ∃ p, chkM f q l = some (p, 3)
  | [], q, _, _, h => by simp [depM] at h
  | (s, v) :: r, q, hg, h, hd => by
    obtain ⟨h1, h2, h3⟩ := h (s, v) (List.mem_cons_self ..)
    dsimp only at h1 h2 h3
    rw [chkM] at hg
    cases hk : chkKey s q with
    | some c => rw [hk] at hg; cases hg
    | none =>
      rw [hk] at hg
      cases hgv : g v with
      | some pc => rw [hgv] at hg; cases hg
      | none =>
        rw [hgv] at hg
        rw [chkM, hk]
        dsimp only
        by_cases hv : dep v = d + 1
        · obtain ⟨p, hp⟩ := h2 hv
          exact ⟨s :: p, by rw [hp]⟩
        · rw [h1 (by omega)]
          exact chkM_deep hg (fun x hx => h x (List.mem_cons_of_mem _ hx)) (by rw [depM] at hd; omega)
theorem depL_mem {x : V} : ∀ {l : List V}, x ∈ l → dep x ≤ depL l
  | v :: r, h => by
    rw [depL]
    rcases List.mem_cons.1 h with rfl | h
    · omega
    · have := depL_mem h; omega
theorem depM_mem {x : ByteArray × V} : ∀ {l : List (ByteArray × V)}, x ∈ l → dep x.2 ≤ depM l
  | (s, v) :: r, h => by
    rw [depM]
    rcases List.mem_cons.1 h with rfl | h
    · dsimp only; omega
    · have := depM_mem h; omega
/-- A right value, with one depth less: right, if it isn't as deep as it may be; else too deep. -/
theorem chk_less : ∀ (d : Nat) (v : V), chk (d + 1) v = none → (dep v ≤ d → chk d v = none) ∧ (dep v = d + 1 → ∃ p, chk d v = some (p, 3))
  | 0, .mk k y n t l m, h => by
    rw [chk] at h
    rw [chk]
    by_cases k4 : k = 4
    · subst k4
      rw [chkHead_4, dep, if_pos rfl]
      exact ⟨fun h => by omega, fun _ => ⟨[], rfl⟩⟩
    by_cases k5 : k = 5
    · subst k5
      rw [chkHead_5, dep, if_neg k4, if_pos rfl]
      exact ⟨fun h => by omega, fun _ => ⟨[], rfl⟩⟩
    rw [chkHead_other k4 k5] at h
    rw [dep, if_neg k4, if_neg k5]
    exact ⟨fun _ => h, fun h => by omega⟩
  | d + 1, .mk k y n t l m, h => by
    rw [chk] at h
    rw [chk]
    by_cases k4 : k = 4
    · subst k4
      rw [chkHead_4] at h ⊢
      rw [dep, if_pos rfl]
      refine ⟨fun hd => chkL_of fun x hx => (chk_less d x (chkL_none h x hx)).1 (by have := depL_mem hx; omega), fun hd => chkL_deep (d := d) (fun x hx => ?_) (by omega)⟩
      have h1 := chk_less d x (chkL_none h x hx)
      exact ⟨h1.1, h1.2, chk_dep (d + 1) x (chkL_none h x hx)⟩
    by_cases k5 : k = 5
    · subst k5
      rw [chkHead_5] at h ⊢
      rw [dep, if_neg k4, if_pos rfl]
      refine ⟨fun hd => chkM_of h fun x hx => (chk_less d x.2 (chkM_none h x hx)).1 (by have := depM_mem hx; omega), fun hd => chkM_deep (d := d) h (fun x hx => ?_) (by omega)⟩
      have h1 := chk_less d x.2 (chkM_none h x hx)
      exact ⟨h1.1, h1.2, chk_dep (d + 1) x.2 (chkM_none h x hx)⟩
    rw [chkHead_other k4 k5] at h
    rw [dep, if_neg k4, if_neg k5]
    exact ⟨fun _ => h, fun h => by omega⟩

def oneV (v : V) : V := .mk 4 false 0 ⟨#[]⟩ [v] []
theorem chk_one (v : V) (h : chk 20 v = none) : (dep v = 20 → ∃ p, chk 20 (oneV v) = some (p, 3)) ∧ (dep v ≠ 20 → chk 20 (oneV v) = none) := by
  have h1 := chk_less 19 v h
  have h2 := chk_dep 20 v h
  have e : chk 20 (oneV v) = chkL (chk 19) 0 [v] := by rw [oneV, chk, chkHead_4]
  rw [e]
  refine ⟨fun hd => ?_, fun hd => ?_⟩
  · obtain ⟨p, hp⟩ := h1.2 hd
    exact ⟨itoaB 0 :: p, by rw [chkL, hp]⟩
  · refine chkL_of fun x hx => ?_
    have hxv : x = v := by simpa using hx
    rw [hxv]
    exact h1.1 (by omega)
end Go.Proofs.YtdpohklklmkjbaaDoor
