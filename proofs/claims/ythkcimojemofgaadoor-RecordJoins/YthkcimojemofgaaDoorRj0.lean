/-
  Pieces joined and parted, plain.
-/
import Derived.Test.YthkcimojemofgaaDoorRe9
import Derived.Test.YthkcimojemofgaaDoorRe11a
namespace Go.Proofs.YthkcimojemofgaaDoor
open Go.RowKit Go.Lib
set_option linter.unusedVariables false
set_option linter.unusedSimpArgs false

/-- What is wrong with a piece's kind, epoch or number. -/
def hbad (kd ep nu : Int) : Nat := if kd < 1 ∨ 255 < kd then 1 else if ep < 0 ∨ 2147483647 < ep then 2 else if nu < 0 ∨ 2147483647 < nu then 3 else 0
theorem piece_bad (kd ep nu : Int) (x : List UInt8) (i : Nat) (hx : x.length ≤ 8400) (hi : i < partsN x.length) : (pieceN kd ep nu x i).bad = hbad kd ep nu := by
  have h1 := piece_len kd ep nu x i
  have h2 := parts_le hx
  have h3 : partsN x.length = max 1 ((x.length + 41) / 42) := rfl
  unfold Pc.bad
  rw [h1]
  show (if kd < 1 ∨ 255 < kd then 1 else if ep < 0 ∨ 2147483647 < ep then 2 else if nu < 0 ∨ 2147483647 < nu then 3 else if (partsN x.length : Int) < 1 ∨ 200 < (partsN x.length : Int) then 4 else if (i : Int) < 0 ∨ (partsN x.length : Int) ≤ (i : Int) then 5 else if 42 < min ((i + 1) * 42) x.length - i * 42 ∨ (min ((i + 1) * 42) x.length - i * 42 < 42 ∧ (i : Int) + 1 < (partsN x.length : Int)) then 6 else 0) = hbad kd ep nu
  unfold hbad
  by_cases c1 : kd < 1 ∨ 255 < kd
  · rw [if_pos c1, if_pos c1]
  rw [if_neg c1, if_neg c1]
  by_cases c2 : ep < 0 ∨ 2147483647 < ep
  · rw [if_pos c2, if_pos c2]
  rw [if_neg c2, if_neg c2]
  by_cases c3 : nu < 0 ∨ 2147483647 < nu
  · rw [if_pos c3, if_pos c3]
  rw [if_neg c3, if_neg c3, if_neg (by omega), if_neg (by omega), if_neg (by omega)]
theorem joinB_app (a b : List Pc) : joinB (a ++ b) = joinB a ++ joinB b := by simp [joinB]
theorem joinB_one (p : Pc) : joinB [p] = p.da := by simp [joinB]
theorem take_all {α : Type} (l : List α) : l.take l.length = l := List.take_of_length_le (Nat.le_refl _)
/-- The split's first pieces hold the first bytes. -/
theorem joinB_split (kd ep nu : Int) (x : List UInt8) : ∀ k, k ≤ partsN x.length → joinB ((splitL kd ep nu x).take k) = x.take (k * 42)
  | 0, _ => by simp [joinB]
  | k + 1, h => by
    have ih := joinB_split kd ep nu x k (by omega)
    rw [joinB_take _ k (by rw [split_len]; omega), ih, split_at]
    simp only [pieceN, cutL]
    unfold partsN at h
    rcases Nat.le_total ((k + 1) * 42) x.length with hl | hl
    · rw [Nat.min_eq_left hl, show (k + 1) * 42 - k * 42 = 42 by omega, show (k + 1) * 42 = k * 42 + 42 by omega, List.take_add]
    · rw [Nat.min_eq_right hl, List.take_of_length_le (i := x.length - k * 42) (by simp), List.take_append_drop, List.take_of_length_le (by omega)]
theorem joinB_splitAll (kd ep nu : Int) (x : List UInt8) : joinB (splitL kd ep nu x) = x := by
  have h := joinB_split kd ep nu x _ (Nat.le_refl _)
  rw [← split_len kd ep nu x, take_all, split_len] at h
  rw [h, List.take_of_length_le]
  unfold partsN
  omega
theorem split_head (kd ep nu : Int) (x : List UInt8) : (splitL kd ep nu x).getD 0 zeroPc = pieceN kd ep nu x 0 := by
  have hp := parts_pos x.length
  have h0 : 0 < (splitL kd ep nu x).length := by rw [split_len]; omega
  rw [List.getD_eq_getElem?_getD, List.getElem?_eq_getElem h0, split_at]
  rfl
theorem join_of_split (kd ep nu : Int) (x : List UInt8) (hx : x.length ≤ 8400) (hb : hbad kd ep nu = 0) : JoinOk (splitL kd ep nu x) := by
  have hp := parts_pos x.length
  refine ⟨by rw [split_len]; omega, fun i hi => ?_⟩
  rw [split_at]
  rw [split_len] at hi
  refine ⟨by rw [piece_bad _ _ _ _ _ hx hi]; exact hb, rfl, by rw [split_len]; rfl, by rw [split_head]; exact ⟨rfl, rfl, rfl⟩, fun h0 => ?_⟩
  rw [piece_len]
  unfold partsN at hi
  omega
theorem split_fit {kd ep nu : Int} {x : List UInt8} (hx : x.length ≤ 8400) (hk : -9223372036854775808 ≤ kd ∧ kd ≤ 9223372036854775807) (he : -9223372036854775808 ≤ ep ∧ ep ≤ 9223372036854775807) (hu : -9223372036854775808 ≤ nu ∧ nu ≤ 9223372036854775807) : ∀ p ∈ splitL kd ep nu x, p.Fit := fun p hp => by
  obtain ⟨i, hi, rfl⟩ := List.getElem_of_mem hp
  rw [split_at]
  rw [split_len] at hi
  have h2 := parts_le hx
  have h3 := piece_len kd ep nu x i
  refine ⟨hk, he, hu, ⟨?_, ?_⟩, ⟨?_, ?_⟩, ?_⟩
  · show (-9223372036854775808 : Int) ≤ (i : Int); omega
  · show (i : Int) ≤ 9223372036854775807; omega
  · show (-9223372036854775808 : Int) ≤ (partsN x.length : Int); omega
  · show (partsN x.length : Int) ≤ 9223372036854775807; omega
  · omega
/-- Pieces of unlike heads aren't joined. -/
theorem apart_no {k e u k2 e2 u2 : Int} {x : List UInt8} {M : Nat} (hM : partsN x.length = M + 1) (h0 : 0 < M) (hne : ¬ (k2 = k ∧ e2 = e ∧ u2 = u)) : ¬ JoinOk ((splitL k e u x).take M ++ [pieceN k2 e2 u2 x M]) := fun hj => by
  have hl : ((splitL k e u x).take M ++ [pieceN k2 e2 u2 x M]).length = M + 1 := by rw [List.length_append, List.length_take, split_len, hM]; simp
  obtain ⟨-, -, -, h4, -⟩ := hj.2 M (by omega)
  have hlt : M < (splitL k e u x).length := by rw [split_len, hM]; omega
  have e1 : ((splitL k e u x).take M ++ [pieceN k2 e2 u2 x M])[M]'(by omega) = pieceN k2 e2 u2 x M := by
    rw [List.getElem_append_right (by rw [List.length_take]; omega)]
    simp
  have e0 : ((splitL k e u x).take M ++ [pieceN k2 e2 u2 x M]).getD 0 zeroPc = pieceN k e u x 0 := by
    rw [List.getD_eq_getElem?_getD, List.getElem?_append_left (by rw [List.length_take]; omega), List.getElem?_take, if_pos h0, List.getElem?_eq_getElem (by omega), split_at]
    rfl
  rw [e1, e0] at h4
  exact hne h4
theorem ok_len {l : List Pc} (h : JoinOk l) (i : Nat) (hi : i < l.length) : l[i].da.length ≤ 42 ∧ (i + 1 < l.length → l[i].da.length = 42) ∧ (0 < i → 0 < l[i].da.length) := by
  obtain ⟨h1, h2, h3, h4, h5⟩ := h.2 i hi
  have ho := Pc.ok_of h1
  refine ⟨ho.d1, fun hl => ?_, fun h0 => Nat.pos_of_ne_zero (h5 h0)⟩
  rcases ho.d2 with h | h
  · exact h
  · rw [h2, h3] at h; omega
theorem ok_few {l : List Pc} (h : JoinOk l) : l.length ≤ 200 := by
  obtain ⟨h1, h2, h3, h4, h5⟩ := h.2 0 h.1
  have ho := (Pc.ok_of h1).s2
  rw [h3] at ho
  omega
theorem ok_take {l : List Pc} (h : JoinOk l) : ∀ k, k < l.length → (joinB (l.take k)).length = k * 42
  | 0, _ => by simp [joinB]
  | k + 1, hk => by
    have ih := ok_take h k (by omega)
    have h1 := (ok_len h k (by omega)).2.1 hk
    rw [joinB_take l k (by omega), List.length_append, ih, h1]
    omega
theorem ok_total {l : List Pc} (h : JoinOk l) : (joinB l).length = (l.length - 1) * 42 + (l[l.length - 1]'(by have := h.1; omega)).da.length := by
  have h0 := h.1
  have h1 := ok_take h (l.length - 1) (by omega)
  have h2 := joinB_take l (l.length - 1) (by omega)
  rw [show l.length - 1 + 1 = l.length by omega, take_all] at h2
  rw [h2, List.length_append, h1]
theorem ok_parts {l : List Pc} (h : JoinOk l) : partsN (joinB l).length = l.length ∧ (joinB l).length ≤ 8400 := by
  have h0 := h.1
  have h1 := ok_total h
  have h2 := ok_len h (l.length - 1) (by omega)
  have h3 := ok_few h
  unfold partsN
  omega
/-- Good pieces are those that their bytes are cut into. -/
theorem split_of_join {l : List Pc} (h : JoinOk l) : splitL (l.getD 0 zeroPc).kd (l.getD 0 zeroPc).ep (l.getD 0 zeroPc).nu (joinB l) = l ∧ hbad (l.getD 0 zeroPc).kd (l.getD 0 zeroPc).ep (l.getD 0 zeroPc).nu = 0 := by
  obtain ⟨hp, h84⟩ := ok_parts h
  have htot := ok_total h
  refine ⟨?_, ?_⟩
  · refine List.ext_getElem (by rw [split_len, hp]) fun i h1 h2 => ?_
    rw [split_at]
    obtain ⟨g1, g2, g3, g4, g5⟩ := h.2 i h2
    obtain ⟨k1, k2, k3⟩ := ok_len h i h2
    have ht := ok_take h i h2
    have hs : joinB l = joinB (l.take i) ++ (l[i].da ++ joinB (l.drop (i + 1))) := by
      conv => lhs; rw [← List.take_append_drop i l]
      rw [joinB_app, List.drop_eq_getElem_cons h2]
      rfl
    have hda : cutL (joinB l) (i * 42) (min ((i + 1) * 42) (joinB l).length) = l[i].da := by
      have hlen : min ((i + 1) * 42) (joinB l).length - i * 42 = l[i].da.length := by
        rcases Nat.lt_or_ge (i + 1) l.length with hl | hl
        · rw [k2 hl]; omega
        · have hi : i = l.length - 1 := by omega
          subst hi
          omega
      unfold cutL
      rw [hlen]
      conv => lhs; rw [hs]
      rw [List.drop_left' ht, List.take_left' rfl]
    simp only [pieceN, hda, hp]
    obtain ⟨a1, a2, a3⟩ := g4
    rw [← a1, ← a2, ← a3, ← g2, ← g3]
  · obtain ⟨g1, g2, g3, g4, g5⟩ := h.2 0 h.1
    have ho := Pc.ok_of g1
    obtain ⟨a1, a2, a3⟩ := g4
    rw [← a1, ← a2, ← a3]
    unfold hbad
    rw [if_neg (by have := ho.k1; have := ho.k2; omega), if_neg (by have := ho.e1; have := ho.e2; omega), if_neg (by have := ho.n1; have := ho.n2; omega)]
end Go.Proofs.YthkcimojemofgaaDoor
