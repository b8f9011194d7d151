/-
  CanonSums, walked: the sum of any text is the document's; it is of 16 digits.
-/
import Derived.Test.YtleaaipkgjjlfaaDoorAw3
import Derived.Test.YtleaaipkgjjlfaaDoorRfS
import Derived.Deep.RegionHeld3
import Derived.Deep.DeepMust
namespace Go.Proofs.YtleaaipkgjjlfaaDoor
open Go.RowKit Go.Lib
set_option linter.unusedVariables false
set_option linter.unusedSimpArgs false

theorem sumB_size (s : ByteArray) : (sumB s).size = 16 := by
  have h2 : (sumB s).size = (hx 16 (fnv s.data.toList)).length := List.size_toArray
  rw [h2, hx_len]
set_option maxRecDepth 100000 in
set_option maxHeartbeats 4000000 in
theorem lawSm_any (s : ByteArray) (w : World) (hs : s.size ≤ 9223372036854775807) (hG : Glob w) (hT : Tabs w) (hN : 6 ≤ w.heap.size) :
    Calls Tryd.prog 4 #[.string s] w fun e w' => e = .returned (.bool true) ∧ Below w.heap.size w w' := by
  have hNT : ∀ W, Below w.heap.size w W → Glob W ∧ Tabs W ∧ 6 ≤ W.heap.size := fun W hW => ⟨hG.below hW, hT.below hW (Nat.lt_of_lt_of_le (by decide) hN) (Nat.lt_of_lt_of_le (by decide) hN), Nat.le_trans hN hW.size⟩
  have HAw := Lib.hid (fun W (hW : Below w.heap.size w W) => awake3_any W (hNT W hW).1 (hNT W hW).2.1 (hNT W hW).2.2)
  by_cases h2000 : s.size ≤ 2000
  · have d1 : decide ((2000 : Int) < (s.size : Int)) = false := decide_eq_false (by omega)
    have d2 : decide (2000 < s.size) = false := decide_eq_false (by omega)
    have HS := Lib.hid (fun W (hW : Below w.heap.size w W) => sum_any s W (hNT W hW).2.1.1 (by omega))
    have HR := Lib.hid (fun W => refsum_any s W (by omega))
    have hz := sumB_size s
    obtain ⟨D, hD⟩ : ∃ D, sumB s = D := ⟨_, rfl⟩
    rw [hD] at HS HR hz
    clear hNT hG hT hD
    go_enter Tryd.func4, Tryd.ntmps4
    go_wp2_with fail
    refine (HAw.out w (Below.refl _ _)).mono ?_
    rintro e W1 ⟨rfl, hb1⟩
    have HB1 := Lib.hid hb1
    clear hb1
    go_wp2_with fail
    refine (HS.out W1 HB1.out).mono ?_
    rintro e W2 ⟨rfl, hb2⟩
    have HB2 := Lib.hid (HB1.out.trans (hb2.mono HB1.out.size))
    clear hb2
    go_wp2_with fail
    refine (HR.out W2).mono ?_
    rintro e W3 ⟨rfl, hb3⟩
    have HB3 := Lib.hid (HB2.out.trans (hb3.mono HB2.out.size))
    clear hb3
    go_wp2_with fail
    refine (HS.out W3 HB3.out).mono ?_
    rintro e W4 ⟨rfl, hb4⟩
    have HB4 := Lib.hid (HB3.out.trans (hb4.mono HB3.out.size))
    clear hb4
    go_wp2_with fail
    go_ret
    exact ⟨by simp [hz], HB4.out⟩
  · have d1 : decide ((2000 : Int) < (s.size : Int)) = true := decide_eq_true (by omega)
    have d2 : decide (2000 < s.size) = true := decide_eq_true (by omega)
    clear hNT hG hT
    go_enter Tryd.func4, Tryd.ntmps4
    go_wp2_with fail
    refine (HAw.out w (Below.refl _ _)).mono ?_
    rintro e W1 ⟨rfl, hb1⟩
    have HB1 := Lib.hid hb1
    clear hb1
    go_wp2_with fail
    refine (HAw.out W1 HB1.out).mono ?_
    rintro e W2 ⟨rfl, hb2⟩
    have HB2 := Lib.hid (HB1.out.trans (hb2.mono HB1.out.size))
    clear hb2
    go_wp2_with fail
    go_ret
    exact ⟨rfl, HB2.out⟩
end Go.Proofs.YtleaaipkgjjlfaaDoor
