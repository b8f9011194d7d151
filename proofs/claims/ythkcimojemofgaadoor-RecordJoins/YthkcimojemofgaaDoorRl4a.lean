/-
  Split, the program's and the document's, told in one; what Join says of a row without one.
-/
import Derived.Test.YthkcimojemofgaaDoorAw7
import Derived.Test.YthkcimojemofgaaDoorRl3
import Derived.Test.YthkcimojemofgaaDoorRd4
import Derived.Test.YthkcimojemofgaaDoorZr
import Derived.Test.YthkcimojemofgaaDoorBkE
namespace Go.Proofs.YthkcimojemofgaaDoor
open Go.RowKit Go.Lib
set_option linter.unusedVariables false
set_option linter.unusedSimpArgs false

section
variable (kd ep nu : Int) (x : List UInt8)
def ecS : Int := if 8400 < x.length then 2 else if hbad kd ep nu = 0 then 0 else 8
def esS : ByteArray := if 8400 < x.length then ⟨#[]⟩ else eP (pieceN kd ep nu x 0)
def lS : Nat := if 8400 < x.length then 0 else if hbad kd ep nu = 0 then partsN x.length else 0
end
section
variable {kd ep nu : Int} {x : List UInt8}
theorem p0_bad (h : x.length ≤ 8400) : (pieceN kd ep nu x 0).bad = hbad kd ep nu := piece_bad _ _ _ _ _ h (by have := parts_pos x.length; omega)
theorem eV_S (h : x.length ≤ 8400) : eV (pieceN kd ep nu x 0) = .agg #[.int .i64 (ecS kd ep nu x), .int .i64 (-1), .string (esS kd ep nu x)] := by
  have h84 : ¬ 8400 < x.length := by omega
  rw [eV, eC, p0_bad h, ecS, esS, if_neg h84, if_neg h84]
theorem ecS_0 (h : ecS kd ep nu x = 0) : x.length ≤ 8400 ∧ hbad kd ep nu = 0 := by
  unfold ecS at h
  split at h
  · cases h
  · split at h
    · rename_i h1 h2
      exact ⟨by omega, h2⟩
    · cases h
theorem sp_uni {w w' : World} {e : Ending} (h : SpAns w kd ep nu x e w') : ∃ A c v8, e = .returned (.tuple #[.slice A (lS kd ep nu x) c, v8]) ∧
    (∀ W, Below w'.heap.size w' W → ErrVar W → Calls Tryd.prog 13 #[v8] W fun e w2 => e = .returned (.agg #[.int .i64 (ecS kd ep nu x), .int .i64 (-1), .string (esS kd ep nu x)]) ∧ Below W.heap.size W w2) ∧
    (ecS kd ep nu x = 0 → (∃ g, A = some ⟨g, 0, none⟩ ∧ c = lS kd ep nu x) ∧ ∃ lim, Ps w' A (splitL kd ep nu x) lim) ∧ Below w.heap.size w w' := by
  unfold SpAns at h
  split at h
  · rename_i h84
    obtain ⟨rfl, hb⟩ := h
    refine ⟨none, 0, _, by rw [lS, if_pos h84], fun W hW hE => ?_, fun h0 => absurd (ecS_0 h0).1 (by omega), hb⟩
    rw [ecS, esS, if_pos h84, if_pos h84]
    exact tell_err 2 W hE
  · rename_i h84
    have h84' : x.length ≤ 8400 := by omega
    split at h
    · rename_i hbd
      obtain ⟨ev, rfl, hc, hb⟩ := h
      rw [p0_bad h84'] at hbd
      refine ⟨none, 0, ev, by rw [lS, if_neg h84, if_neg hbd], fun W hW hE => ?_, fun h0 => absurd (ecS_0 h0).2 hbd, hb⟩
      rw [← eV_S h84']
      exact tell_chk _ W ev (Or.inr ⟨by rw [p0_bad h84']; exact hbd, hc.below hW⟩) hE
    · rename_i hbd
      rw [p0_bad h84'] at hbd
      have hbd' := Decidable.not_not.1 hbd
      obtain ⟨g, rfl, hg, hp, hb⟩ := h
      refine ⟨some ⟨g, 0, none⟩, (splitL kd ep nu x).length, .nilIface, by rw [lS, if_neg h84, if_pos hbd', split_len], fun W hW hE => ?_, fun h0 => ⟨⟨g, rfl, by rw [lS, if_neg h84, if_pos hbd', split_len]⟩, _, hp⟩, hb⟩
      rw [← eV_S h84', eV_no (by rw [p0_bad h84']; exact hbd')]
      exact tell_nil W
theorem rs_uni {w w' : World} {e : Ending} (h : RSAns w kd ep nu x e w') : ∃ A c, e = .returned (.tuple #[.slice A (lS kd ep nu x) c, .agg #[.int .i64 (ecS kd ep nu x), .int .i64 (-1), .string (esS kd ep nu x)]]) ∧
    (ecS kd ep nu x = 0 → (∃ g, A = some ⟨g, 0, none⟩) ∧ Dps w' A (splitL kd ep nu x)) ∧ Below w.heap.size w w' := by
  rcases h with ⟨h84, rfl, hb⟩ | ⟨h84, hbd, rfl, hb⟩ | ⟨h84, hbd, g, c, rfl, hd, hb⟩
  · exact ⟨none, 0, by rw [lS, ecS, esS, if_pos h84, if_pos h84, if_pos h84], fun h0 => absurd (ecS_0 h0).1 (by omega), hb⟩
  · exact ⟨none, 0, by rw [lS, if_neg (by omega), if_neg hbd, eV_S h84], fun h0 => absurd (ecS_0 h0).2 hbd, hb⟩
  · exact ⟨some ⟨g, 0, none⟩, c, by rw [lS, if_neg (by omega), if_pos hbd, ← eV_S h84, eV_no (by rw [p0_bad h84]; exact hbd)], fun _ => ⟨⟨g, rfl⟩, hd⟩, hb⟩
/-- A row without one piece isn't joined. -/
theorem less_no {k : Nat} (hk : k < partsN x.length) : ¬ JoinOk ((splitL kd ep nu x).take k ++ (splitL kd ep nu x).drop (k + 1)) := fun hj => by
  have hl : ((splitL kd ep nu x).take k ++ (splitL kd ep nu x).drop (k + 1)).length = partsN x.length - 1 := by
    rw [List.length_append, List.length_take, List.length_drop, split_len]
    omega
  obtain ⟨-, -, h3, -⟩ := hj.2 0 hj.1
  have hm := List.getElem_mem hj.1
  have : (((splitL kd ep nu x).take k ++ (splitL kd ep nu x).drop (k + 1))[0]'hj.1).ps = (partsN x.length : Int) := by
    rcases List.mem_append.1 hm with h | h
    · obtain ⟨i, hi, e⟩ := List.getElem_of_mem (List.mem_of_mem_take h)
      rw [← e, split_at]
      rfl
    · obtain ⟨i, hi, e⟩ := List.getElem_of_mem (List.mem_of_mem_drop h)
      rw [← e, split_at]
      rfl
  rw [this, hl] at h3
  have := parts_pos x.length
  omega
end
theorem run_winLP (W : World) (g n l : Nat) (k1 : IntKind) (hl : l ≤ n) : ∃ A c, (∀ W, Sem.run Tryd.prog (Instr.slice 47 (.slice (some ⟨g, 0, none⟩) n n) (some (.int k1 (l : Int))) none none) W = .ok (.slice A (n - l) c) W) ∧ (l < n → A = some ⟨g, l * 6, none⟩) := by
  have hu : Tryd.prog.underlying 47 = some (.slice (Tryd.prog.elem 47)) := by kernel_rfl
  have he : Tryd.prog.elem 47 = 33 := by kernel_rfl
  have hsz : ∀ W, (Go.sizeOf 33).run Tryd.prog W = .ok 6 W := fun W => by kernel_rfl
  rcases Nat.lt_or_ge l n with h | h
  · refine ⟨some ⟨g, l * 6, none⟩, n - l, fun W => ?_, fun _ => rfl⟩
    rw [run_slice_l W 47 (some ⟨g, 0, none⟩) n n hu k1 _ (by omega) (by omega), he, hsz]
    simp [Result.andThen, sliced]
    rw [if_neg (by omega)]
    simp [Addr.add_mid]
  · obtain rfl : l = n := by omega
    refine ⟨some ⟨g, 0, none⟩, 0, fun W => ?_, fun h => absurd h (Nat.lt_irrefl _)⟩
    rw [run_slice_l W 47 (some ⟨g, 0, none⟩) l l hu k1 _ (by omega) (by omega), he, hsz]
    simp [Result.andThen, sliced]
end Go.Proofs.YthkcimojemofgaaDoor
