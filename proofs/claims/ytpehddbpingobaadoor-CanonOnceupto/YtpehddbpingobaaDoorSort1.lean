/-
  slices.SortFunc over members by their keys (value.Members' own comparison): a permutation in the order of the keys.
-/
import Derived.Test.YtpehddbpingobaaDoorCopy7
import Derived.Shelf.SlSortCmp.WholeK
import Derived.Shelf.SlSortCmp.NoneTotal
namespace Go.Proofs.YtpehddbpingobaaDoor
open Go.RowKit Go.Lib Go.Shelf Go.Sort
set_option linter.unusedVariables false
set_option linter.unusedSimpArgs false

instance : Inhabited C6 := ⟨⟨0, false, 0, ⟨#[]⟩, none, 0, 0, none, 0, 0⟩⟩
instance : Inhabited V := ⟨.mk 0 false 0 ⟨#[]⟩ [] []⟩
abbrev KVC := (ByteArray × V) × C6
def encM (p : KVC) : List Value := mem7 p.1.1 p.2
def cmpM (x y : KVC) : Int := Lib.compareBytes x.1.1.data.toList y.1.1.data.toList

theorem cmp_irrefl : ∀ a, Lib.compareBytes a a = 0
  | [] => rfl
  | x :: r => by simp [Lib.compareBytes, cmp_irrefl r]
theorem cmp_three : ∀ a b : List UInt8, Lib.compareBytes a b = -1 ∨ Lib.compareBytes a b = 0 ∨ Lib.compareBytes a b = 1
  | [], [] => by simp [Lib.compareBytes]
  | [], _ :: _ => by simp [Lib.compareBytes]
  | _ :: _, [] => by simp [Lib.compareBytes]
  | x :: a, y :: b => by
    simp only [Lib.compareBytes]
    split
    · simp
    · split
      · simp
      · exact cmp_three a b
theorem cmp_lt : ∀ a b : List UInt8, Lib.compareBytes a b < 0 ↔ Op.bytesLess a b = true
  | [], [] => by simp [Lib.compareBytes, Op.bytesLess]
  | [], _ :: _ => by simp [Lib.compareBytes, Op.bytesLess]
  | _ :: _, [] => by simp [Lib.compareBytes, Op.bytesLess]
  | x :: a, y :: b => by
    simp only [Lib.compareBytes, Op.bytesLess]
    by_cases h1 : x < y
    · simp [h1]
    · by_cases h2 : y < x
      · have : (x == y) = false := by rw [beq_eq_false_iff_ne]; rintro rfl; exact h1 h2
        simp [h1, h2, this]
      · have : x = y := by apply UInt8.le_antisymm <;> (rw [UInt8.le_iff_toNat_le]; rw [UInt8.lt_iff_toNat_lt] at h1 h2; omega)
        subst this
        simp [h1, cmp_lt a b]
theorem less_trans : ∀ a b c : List UInt8, Op.bytesLess a b = true → Op.bytesLess b c = true → Op.bytesLess a c = true
  | _, [], _, h, _ => by simp [Op.bytesLess] at h
  | _, _ :: _, [], _, h => by simp [Op.bytesLess] at h
  | [], _ :: _, _ :: _, _, _ => by simp [Op.bytesLess]
  | x :: a, y :: b, z :: c, h1, h2 => by
    simp only [Op.bytesLess, Bool.or_eq_true, decide_eq_true_eq, Bool.and_eq_true, beq_iff_eq] at h1 h2 ⊢
    rcases h1 with h1 | ⟨rfl, h1⟩
    · rcases h2 with h2 | ⟨rfl, h2⟩
      · exact .inl (UInt8.lt_trans h1 h2)
      · exact .inl h1
    · rcases h2 with h2 | ⟨rfl, h2⟩
      · exact .inl h2
      · exact .inr ⟨rfl, less_trans a b c h1 h2⟩
theorem less_tri : ∀ a b : List UInt8, Op.bytesLess a b = false → Op.bytesLess b a = false → a = b
  | [], [], _, _ => rfl
  | [], _ :: _, h, _ => by simp [Op.bytesLess] at h
  | _ :: _, [], _, h => by simp [Op.bytesLess] at h
  | x :: a, y :: b, h1, h2 => by
    simp only [Op.bytesLess, Bool.or_eq_false_iff, decide_eq_false_iff_not, Bool.and_eq_false_iff, beq_eq_false_iff_ne] at h1 h2
    have : x = y := by apply UInt8.le_antisymm <;> (rw [UInt8.le_iff_toNat_le]; have := h1.1; have := h2.1; rw [UInt8.lt_iff_toNat_lt] at *; omega)
    subst this
    congr 1
    exact less_tri a b (by simpa using h1.2) (by simpa using h2.2)
theorem less_irrefl (a : List UInt8) : Op.bytesLess a a = false := by
  have := cmp_lt a a
  rw [cmp_irrefl] at this
  cases h : Op.bytesLess a a
  · rfl
  · rw [h] at this; exact absurd (this.2 rfl) (by omega)
theorem ltM (x y : KVC) : ltOf cmpM x y = Op.bytesLess x.1.1.data.toList y.1.1.data.toList := by
  unfold ltOf cmpM
  cases h : Op.bytesLess x.1.1.data.toList y.1.1.data.toList
  · rw [decide_eq_false_iff_not, cmp_lt, h]; simp
  · rw [decide_eq_true_iff, cmp_lt, h]
theorem swoM : SWO (ltOf cmpM) where
  irrefl x := by rw [ltM]; exact less_irrefl _
  trans x y z h1 h2 := by rw [ltM] at *; exact less_trans _ _ _ h1 h2
  ntrans x y z h1 h2 := by
    rw [ltM] at *
    cases h : Op.bytesLess x.1.1.data.toList z.1.1.data.toList
    · rfl
    · exfalso
      cases h3 : Op.bytesLess y.1.1.data.toList x.1.1.data.toList
      · have e := less_tri _ _ h1 h3
        rw [← e, h] at h2; cases h2
      · have := less_trans _ _ _ h3 h
        rw [this] at h2; cases h2

theorem below_refl_grow (W : World) (o1 o2 : Obj) : ∃ q os', (W.alloc o1).alloc o2 = grow (W.drewN q) os' := ⟨0, _, by rw [alloc_eq_grow, alloc_eq_grow, grow_grow]; rfl⟩
set_option maxHeartbeats 1000000 in
theorem closure_any (x y : KVC) (W : World) : Calls Tryd.prog 21 #[.agg (encM x).toArray, .agg (encM y).toArray] W fun e w' => e = .returned (.int .i64 (cmpM x y)) ∧ ∃ q os', w' = grow (W.drewN q) os' := by
  obtain ⟨⟨s, v1⟩, c⟩ := x
  obtain ⟨⟨s2, v2⟩, c2⟩ := y
  have hcon := fun W' => Tryd.strings_Compare s s2 W'
  unfold cmpM
  dsimp only
  generalize Lib.compareBytes s.data.toList s2.data.toList = r at hcon ⊢
  simp only [encM, mem7, C6.cells]
  go_enter Tryd.func21, Tryd.ntmps21
  go_wp2_with (go_at_call 22; refine (hcon _).mono ?_; rintro e w' ⟨rfl, rfl⟩)
  go_ret
  exact ⟨rfl, below_refl_grow _ _ _⟩
theorem cmpLays_any (blk off size : Nat) (w : World) : CmpLays Tryd.prog 21 #[] encM 7 cmpM blk off size w := fun _ _ _ _ x y => closure_any x y _

/-- The row's members. -/
def Row7 (w : World) (blk off : Nat) (d : List KVC) : Prop := ∀ i (h : i < d.length) q, q < 7 → w.cell? ⟨blk, off + i * 7 + q, none⟩ = (encM d[i])[q]? ∧ w.frozen? ⟨blk, off + i * 7 + q, none⟩ = false
end Go.Proofs.YtpehddbpingobaaDoor
