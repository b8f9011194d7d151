/-
  What value.each shows: the closures of Depth and Size; the plain part of the loop over what waits.
-/
import Derived.Test.YtdpohklklmkjbaaDoorIsLaw
import Derived.Test.YtdpohklklmkjbaaDoorDeep
import Derived.Test.YtdpohklklmkjbaaDoorLawTexts2
namespace Go.Proofs.YtdpohklklmkjbaaDoor
open Go.RowKit Go.Lib
set_option linter.unusedVariables false
set_option linter.unusedSimpArgs false

/-- What a closure over one number's cell does when it is shown a value. -/
def Looks (F g : Nat) (step : Int → Nat → Nat → Nat) : Prop :=
  ∀ (c : C6) (a acc : Nat) (W : World), W.cell? ⟨g, 0, none⟩ = some (.int .i64 acc) → W.frozen? ⟨g, 0, none⟩ = false → a ≤ 1000000 → acc ≤ 1000000 →
    Calls Tryd.prog F #[.agg c.arr, .int .i64 a, .pointer (some ⟨g, 0, none⟩)] W fun e w' => e = .returned (.tuple #[]) ∧ w'.cell? ⟨g, 0, none⟩ = some (.int .i64 (step c.k a acc : Nat)) ∧ w'.frozen? ⟨g, 0, none⟩ = false ∧ Only g W w'
def stepD (k : Int) (a acc : Nat) : Nat := if k = 4 ∨ k = 5 then max acc (a + 1) else acc
def stepS (k : Int) (a acc : Nat) : Nat := acc + 1

set_option maxRecDepth 100000 in
set_option maxHeartbeats 1000000 in
theorem size1_any (g : Nat) : Looks 43 g stepS := fun c a acc W hc hf ha hacc => by
  obtain ⟨jk, jy, jn, jt, ja, jla, jca, jb, jlb, jcb⟩ := c
  dsimp only [C6.arr]
  have hz := lt_of_cell hc
  have hb0 : ∀ o, Below W.heap.size W (W.alloc o) := fun o => (Below.refl _ _).alloc (Nat.le_refl _) _
  obtain ⟨W0, hW0⟩ : ∃ W0, W.alloc (.cells #[.int .i64 jk, .bool jy, .int .i64 jn, .string jt, .slice ja jla jca, .slice jb jlb jcb] 38) = W0 := ⟨_, rfl⟩
  have hb : Below W.heap.size W W0 := hW0 ▸ hb0 _
  have hc0 := (hb.cell (p := ⟨g, 0, none⟩) hz).trans hc
  have hf0 := (hb.frozen (p := ⟨g, 0, none⟩) hz).trans hf
  have H0 := Lib.hid (And.intro hW0 hb)
  have hz0 : g < W0.heap.size := lt_of_cell hc0
  clear hW0 hb hb0 hc hf
  go_enter Tryd.func43, Tryd.ntmps43
  go_upto_region 1 with (fail)
  rw [H0.out.1]
  go_wp2_with fail
  refine bodyPost_end (v := .tuple #[]) (by simp [results, Tryd.results43]) rfl ⟨rfl, ?_, ?_, ?_⟩
  · rw [World.cell?_setCell_same _ _ _ hc0]
    simp only [stepS]
    rfl
  · simp [hf0]
  · exact ((Only.refl g W).step H0.out.2).put 0 _
set_option maxRecDepth 100000 in
set_option maxHeartbeats 1000000 in
theorem depth1_any (g : Nat) : Looks 42 g stepD := fun c a acc W hc hf ha hacc => by
  obtain ⟨jk, jy, jn, jt, ja, jla, jca, jb, jlb, jcb⟩ := c
  dsimp only [C6.arr]
  have hz := lt_of_cell hc
  have hb0 : ∀ o, Below W.heap.size W (W.alloc o) := fun o => (Below.refl _ _).alloc (Nat.le_refl _) _
  obtain ⟨W0, hW0⟩ : ∃ W0, W.alloc (.cells #[.int .i64 jk, .bool jy, .int .i64 jn, .string jt, .slice ja jla jca, .slice jb jlb jcb] 38) = W0 := ⟨_, rfl⟩
  have hb : Below W.heap.size W W0 := hW0 ▸ hb0 _
  have hc0 := (hb.cell (p := ⟨g, 0, none⟩) hz).trans hc
  have hf0 := (hb.frozen (p := ⟨g, 0, none⟩) hz).trans hf
  have H0 := Lib.hid (And.intro hW0 hb)
  have hz0 : g < W0.heap.size := lt_of_cell hc0
  clear hW0 hb hb0 hc hf
  have y0 : W0.cell? ⟨W.heap.size, 0, none⟩ = some (.int .i64 jk) := by rw [← H0.out.1]; simp
  by_cases k4 : jk = 4
  · subst k4
    go_enter Tryd.func42, Tryd.ntmps42
    go_upto_region 1 with (fail)
    rw [H0.out.1]
    go_wp2_with fail
    refine bodyPost_end (v := .tuple #[]) (by simp [results, Tryd.results42]) rfl ⟨rfl, ?_, ?_, ?_⟩
    · rw [World.cell?_setCell_same _ _ _ hc0]
      rw [show stepD 4 a acc = max acc (a + 1) by simp [stepD]]
      congr 2
      omega
    · simp [hf0]
    · exact ((Only.refl g W).step H0.out.2).put 0 _
  by_cases k5 : jk = 5
  · subst k5
    go_enter Tryd.func42, Tryd.ntmps42
    go_upto_region 1 with (fail)
    rw [H0.out.1]
    go_wp2_with fail
    refine bodyPost_end (v := .tuple #[]) (by simp [results, Tryd.results42]) rfl ⟨rfl, ?_, ?_, ?_⟩
    · rw [World.cell?_setCell_same _ _ _ hc0]
      rw [show stepD 5 a acc = max acc (a + 1) by simp [stepD]]
      congr 2
      omega
    · simp [hf0]
    · exact ((Only.refl g W).step H0.out.2).put 0 _
  · have e4 : (jk == 4) = false := beq_eq_false_iff_ne.2 k4
    have e5 : (jk == 5) = false := beq_eq_false_iff_ne.2 k5
    have HS : Hid (stepD jk a acc = acc) := by show _ = _; rw [stepD, if_neg (by omega)]
    clear k4 k5
    go_enter Tryd.func42, Tryd.ntmps42
    go_upto_region 1 with (fail)
    rw [H0.out.1]
    go_wp2_with fail
    exact bodyPost_end (v := .tuple #[]) (by simp [results, Tryd.results42]) rfl ⟨rfl, by rw [HS.out]; exact hc0, hf0, (Only.refl g W).step H0.out.2⟩

/-! ### what waits -/
abbrev Node := (V × C6) × Nat
def node7 (p : Node) : List Value := p.1.2.cells ++ [.int .i64 p.2]
theorem node7_len (p : Node) : (node7 p).length = 7 := rfl
def nodeV (p : Node) : V × Nat := (p.1.1, p.2)
def nSize : List (V × Nat) → Nat
  | [] => 0
  | p :: r => vsize p.1 + nSize r
theorem nSize_append : ∀ a b, nSize (a ++ b) = nSize a + nSize b
  | [], b => by simp [nSize]
  | x :: a, b => by simp only [List.cons_append, nSize, nSize_append a b]; omega
theorem nSize_len : ∀ a, a.length ≤ nSize a
  | [] => by simp
  | x :: a => by have := vsize_pos x.1; have := nSize_len a; simp only [List.length_cons, nSize]; omega
def kidsOf (x : V) (a : Nat) : List (V × Nat) := (parts x).map fun y => (y, a + 1)
theorem nSize_kidsL : ∀ (l : List V) (a : Nat), nSize (l.map fun y => (y, a)) = vsizeL l
  | [], a => by simp [nSize, vsizeL]
  | v :: r, a => by simp only [List.map_cons, nSize, vsizeL, nSize_kidsL r a]
theorem vsizeM_map : ∀ m, vsizeL (m.map (·.2)) = vsizeM m
  | [] => by simp [vsizeL, vsizeM]
  | (s, v) :: r => by simp only [List.map_cons, vsizeL, vsizeM, vsizeM_map r]
theorem vsize_parts : ∀ x, vsize x = 1 + vsizeL (parts x)
  | .mk k y n t l m => by
    rw [vsize, parts]
    by_cases k4 : k = 4
    · rw [if_pos k4, if_neg (by omega), if_pos k4]; omega
    · by_cases k5 : k = 5
      · rw [if_neg k4, if_pos k5, if_neg k4, if_pos k5, vsizeM_map]
      · rw [if_neg k4, if_neg k5, if_neg k4, if_neg k5]; simp [vsizeL]
theorem nSize_kids (x : V) (a : Nat) : nSize (kidsOf x a) + 1 = vsize x := by rw [kidsOf, nSize_kidsL, vsize_parts]; omega
/-- What is made of all that waits, and of what was shown. -/
structure Tot (step : Int → Nat → Nat → Nat) (tot : Nat → List (V × Nat) → Nat) : Prop where
  base : ∀ acc, tot acc [] = acc
  step : ∀ acc st x a, tot (step x.kind a acc) (st ++ kidsOf x a) = tot acc (st ++ [(x, a)])
  le : ∀ acc st, acc ≤ tot acc st
def totS (acc : Nat) (st : List (V × Nat)) : Nat := acc + nSize st
theorem tot_size : Tot stepS totS where
  base := fun acc => rfl
  step := fun acc st x a => by
    have := nSize_kids x a
    simp only [totS, stepS, nSize_append, nSize]; omega
  le := fun acc st => Nat.le_add_right _ _
def deepOf : List (V × Nat) → Nat
  | [] => 0
  | p :: r => max (if p.1.kind = 4 ∨ p.1.kind = 5 then p.2 + dep p.1 else 0) (deepOf r)
theorem deepOf_append : ∀ a b, deepOf (a ++ b) = max (deepOf a) (deepOf b)
  | [], b => by simp [deepOf]
  | x :: a, b => by simp only [List.cons_append, deepOf, deepOf_append a b]; omega
theorem dep_zero (x : V) (h : ¬ (x.kind = 4 ∨ x.kind = 5)) : dep x = 0 := dep_none x h
theorem deepOf_kidsL : ∀ (l : List V) (a : Nat), max (a + 1) (deepOf (l.map fun y => (y, a + 1))) = a + 1 + depL l
  | [], a => by simp [deepOf, depL]
  | v :: r, a => by
    have h := deepOf_kidsL r a
    simp only [List.map_cons, deepOf, depL]
    by_cases hk : v.kind = 4 ∨ v.kind = 5
    · rw [if_pos hk]; omega
    · rw [if_neg hk, dep_zero v hk]; omega
def totD (acc : Nat) (st : List (V × Nat)) : Nat := max acc (deepOf st)
theorem parts_none (x : V) (h : ¬ (x.kind = 4 ∨ x.kind = 5)) : parts x = [] := by
  cases x with
  | mk k y n t l m =>
  simp only [V.kind] at h
  rw [parts, if_neg (by omega), if_neg (by omega)]
theorem tot_depth : Tot stepD totD where
  base := fun acc => by simp [totD, deepOf]
  step := fun acc st x a => by
    simp only [totD, stepD, deepOf_append, deepOf, kidsOf]
    by_cases hk : x.kind = 4 ∨ x.kind = 5
    · have h1 := deepOf_kidsL (parts x) a
      have h2 := dep_parts x hk
      rw [if_pos hk, if_pos hk]; omega
    · rw [if_neg hk, if_neg hk, parts_none x hk]; simp [deepOf]
  le := fun acc st => Nat.le_max_left _ _
end Go.Proofs.YtdpohklklmkjbaaDoor
