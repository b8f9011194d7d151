/-
  The laws' Few, walked.
-/
import Derived.Test.YtnbagklgagomfaaDoorBkA
import Derived.Deep.LoopGhost
import Derived.IntWalk
namespace Go.Proofs.YtnbagklgagomfaaDoor
open Go.RowKit Go.Lib
set_option linter.unusedVariables false
set_option linter.unusedSimpArgs false

/-- Acts that aren't many. -/
def FewOk (w : World) (A : Option Addr) (n : Nat) : Prop := n ≤ 40 ∧ ∀ b off, A = some ⟨b, off, none⟩ → ∀ i, i < n → ∀ B l c, w.cell? ⟨b, off + i * 3 + 2, none⟩ = some (.slice B l c) → l ≤ 200
def FewAns (w : World) (A : Option Addr) (n : Nat) (e : Ending) (w' : World) : Prop := ∃ r : Bool, e = .returned (.bool r) ∧ (r = true → FewOk w A n) ∧ Below w.heap.size w w'
def FewRel (w : World) (A : Option Addr) (n : Nat) (kk : Nat) (i : Value) (wr : World) : Prop :=
  ∃ j : Nat, j + kk = n ∧ i = .int .i64 (j : Int) ∧ (∀ b off, A = some ⟨b, off, none⟩ → ∀ i, i < j → ∀ B l c, w.cell? ⟨b, off + i * 3 + 2, none⟩ = some (.slice B l c) → l ≤ 200) ∧ Below w.heap.size w wr
set_option maxRecDepth 100000 in
set_option maxHeartbeats 2000000 in
theorem few_acts (w : World) (A : Option Addr) (n c : Nat) (hA : Acts w A n) (hn : n ≤ c) (hc : c ≤ maxLen) :
    Calls Tryd.prog 5 #[.slice A n c] w (FewAns w A n) := by
  unfold maxLen at hc
  have HA := Lib.hid hA
  clear hA
  go_enter Tryd.func5, Tryd.ntmps5
  go_wp2_with fail
  go_loopg [7] n (FewRel w A n)
  case atStart => exact ⟨0, by omega, rfl, fun _ _ _ i hi => absurd hi (by omega), Below.refl _ _⟩
  case round =>
    obtain ⟨j, hk, rfl, hl, hB⟩ := hrel
    have HB := Lib.hid hB
    have HL := Lib.hid hl
    clear hB hl
    by_cases hlt : j < n
    · obtain ⟨b, off, rfl, hacts⟩ := HA.out (by omega)
      obtain ⟨kd, k, B, x, c', h0, h1, h2, -, -, -, -, -⟩ := hacts j hlt
      have hbl : b < w.heap.size := block_lt_of_cell h0
      have k0 : wr.cell? ⟨b, off + j * 3, none⟩ = some (.int .u8 kd) := (HB.out.cell (p := ⟨b, off + j * 3, none⟩) hbl).trans h0
      have k1 : wr.cell? ⟨b, off + j * 3 + 1, none⟩ = some (.int .i64 k) := (HB.out.cell (p := ⟨b, off + j * 3 + 1, none⟩) hbl).trans h1
      have k2 : wr.cell? ⟨b, off + j * 3 + 2, none⟩ = some (.slice B x.length c') := (HB.out.cell (p := ⟨b, off + j * 3 + 2, none⟩) hbl).trans h2
      have HC := Lib.hid h2
      obtain ⟨l, hL⟩ : ∃ l, Hid (x.length = l) := ⟨_, rfl⟩
      rw [hL.out] at k2
      clear h0 h1 h2
      have hz : w.heap.size ≤ wr.heap.size := HB.out.size
      by_cases h200 : (200 : Int) < (l : Int)
      · go_wp2_with fail
        go_ret
        exact ⟨false, rfl, (fun h => by cases h), HB.out.alloc HB.out.size _⟩
      · go_wp2_with fail
        go_roundg (n - (j + 1))
        case rel =>
          refine ⟨j + 1, by omega, by go_num, fun b' off' e i hi B' l' c'' hcell => ?_, HB.out.alloc HB.out.size _⟩
          rcases Nat.lt_or_ge i j with h | h
          · exact HL.out b' off' e i h B' l' c'' hcell
          · obtain rfl : i = j := by omega
            cases e
            rw [HC.out] at hcell
            injection hcell with hcell
            injection hcell with _ hcell _
            have := hL.out
            omega
        case measure => omega
    · obtain rfl : j = n := by omega
      by_cases h40 : (j : Int) ≤ 40
      · go_wp2_with fail
        go_ret
        exact ⟨true, by simp [h40], fun _ => ⟨by omega, HL.out⟩, HB.out⟩
      · go_wp2_with fail
        go_ret
        exact ⟨false, by simp [h40], (fun h => by cases h), HB.out⟩
end Go.Proofs.YtnbagklgagomfaaDoor
