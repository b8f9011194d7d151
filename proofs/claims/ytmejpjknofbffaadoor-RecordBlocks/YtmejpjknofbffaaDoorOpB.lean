/-
  Arguments that are bytes, opened.
-/
import Derived.Test.YtmejpjknofbffaaDoorProg
import Derived.Test.YtmejpjknofbffaaDoorBcs
import Derived.Deep.Slices
import Derived.ChangeArms
import Derived.OpenShut
import Derived.KernelRfl
import Derived.Carry
namespace Go.Proofs.YtmejpjknofbffaaDoor
open Go.RowKit Go.Lib Go.ChangeShapes Go.WideShapes
set_option linter.unusedVariables false
set_option linter.unusedSimpArgs false

def byteOf : Option Value → UInt8
  | some (.int _ z) => UInt8.ofNat z.toNat
  | _ => 0
theorem bt_of {w : World} {A : Option Addr} {n : Nat} (h : 0 < n → ∃ ad, A = some ad ∧ ∀ j, j < n → ∃ z : Int, w.cell? (ad.add j) = some (.int .u8 z) ∧ 0 ≤ z ∧ z ≤ 255) : ∃ x : List UInt8, n = x.length ∧ Bt w A x := by
  rcases Nat.eq_zero_or_pos n with h0 | h0
  · exact ⟨[], by simp [h0], fun h => absurd h (by simp)⟩
  · obtain ⟨ad, rfl, hc⟩ := h h0
    refine ⟨(List.range n).map fun j => byteOf (w.cell? (ad.add j)), by simp, fun _ => ⟨ad, rfl, fun j v hv => ?_⟩⟩
    by_cases hj : j < n
    · rw [bcs_get, List.getElem?_map, List.getElem?_eq_getElem (by simpa using hj), List.getElem_range] at hv
      simp only [Option.map_some, Option.some.injEq] at hv
      obtain ⟨z, hz, h1, h2⟩ := hc j hj
      rw [hz] at hv ⊢
      rw [← hv]
      simp [byteOf]
      omega
    · rw [List.getElem?_eq_none (by rw [bcs_len]; simpa using hj)] at hv
      cases hv
set_option maxRecDepth 100000 in
theorem open_bytes {H : Type} {enc : TypeId × Value → H} {W : World} {fuel : Nat} {cs : List Value} {x : DataW H × List MemPlace} (h : DataW.trod enc Tryd.prog W 0 (fun _ => true) true fuel 28 cs = some x) :
    ∃ (A : Option Addr) (xs : List UInt8) (c : Nat), cs = [.slice A xs.length c] ∧ xs.length ≤ c ∧ c ≤ maxLen ∧ (A = none → c = 0) ∧ Bt W A xs := by
  rcases Go.Deep.open_slice1 Tryd.underlying28 (by kernel_rfl) h with ⟨rfl, rfl⟩ | ⟨a, len, cap, m, n, V, D, Pl, rfl, -, hl, hc, hm, -, hx⟩
  · exact ⟨none, [], 0, rfl, by simp, by simp [maxLen], fun _ => rfl, fun h => absurd h (by simp)⟩
  · simp only [if_true] at hm
    obtain ⟨xs, e, hb⟩ := bt_of (w := W) (A := some a) (n := len) fun _ => ⟨a, rfl, fun j hj => by
      obtain ⟨h1, h2⟩ := hx j (by omega)
      obtain ⟨z, e, -, hw⟩ := DataW.trod_int Tryd.underlying5 h2
      simp only [List.cons.injEq, and_true] at e
      have := bounds_u8 hw
      exact ⟨z, by rw [h1, e], this.1, this.2⟩⟩
    subst e
    exact ⟨some a, xs, cap, rfl, hl, hc, (fun h => by cases h), hb⟩

end Go.Proofs.YtmejpjknofbffaaDoor
