/-
  awake, walked.
-/
import Derived.Test.YtdpohklklmkjbaaDoorAwake
namespace Go.Proofs.YtdpohklklmkjbaaDoor
open Go.RowKit Go.Lib
set_option linter.unusedVariables false
set_option linter.unusedSimpArgs false

set_option maxRecDepth 100000 in
set_option maxHeartbeats 4000000 in
theorem awake_any (w : World) (hG : Glob w) :
    Calls Tryd.prog 9 #[] w fun e w' => e = .returned (.bool true) ∧ Below w.heap.size w w' := by
  have HG := Lib.hid hG
  clear hG
  go_enter Tryd.func9, Tryd.ntmps9
  go_wp2_with fail
  obtain ⟨W0, hW0⟩ : ∃ W0, ((w.alloc (.cells #[.int .i64 2, .bool false, .int .i64 1152921504606846976, .string ⟨#[]⟩, .slice none 0 0, .slice none 0 0] 38)).alloc (.cells #[.int .i64 4, .bool false, .int .i64 0, .string ⟨#[]⟩, .slice (some ⟨w.heap.size, 0, none⟩) 1 1, .slice none 0 0] 38)).alloc (.cells #[.string ⟨#[98]⟩, .int .i64 2, .bool false, .int .i64 1, .string ⟨#[]⟩, .slice none 0 0, .slice none 0 0, .string ⟨#[97]⟩, .int .i64 4, .bool false, .int .i64 0, .string ⟨#[]⟩, .slice (some ⟨w.heap.size, 0, none⟩) 1 1, .slice none 0 0] 58) = W0 := ⟨_, rfl⟩
  rw [hW0]
  have hb0 : Below w.heap.size w W0 := hW0 ▸ (((Below.refl _ _).alloc (Nat.le_refl _) _).alloc (by simp) _).alloc (by simp; omega) _
  have hz0 : W0.heap.size = w.heap.size + 3 := by rw [← hW0]; simp
  have hg1 : Whole W0 w.heap.size 38 (C6.mk 2 false 1152921504606846976 ⟨#[]⟩ none 0 0 none 0 0).arr := hW0 ▸ ((Whole.made w _ _).alloc _).alloc _
  have hg2 : Whole W0 (w.heap.size + 1 + 1) 58 (mem7 kB (C6.mk 2 false 1 ⟨#[]⟩ none 0 0 none 0 0) ++ mem7 kA (C6.mk 4 false 0 ⟨#[]⟩ (some ⟨w.heap.size, 0, none⟩) 1 1 none 0 0)).toArray := by
    have := Whole.made ((w.alloc (.cells #[.int .i64 2, .bool false, .int .i64 1152921504606846976, .string ⟨#[]⟩, .slice none 0 0, .slice none 0 0] 38)).alloc (.cells #[.int .i64 4, .bool false, .int .i64 0, .string ⟨#[]⟩, .slice (some ⟨w.heap.size, 0, none⟩) 1 1, .slice none 0 0] 38)) 58 (mem7 kB (C6.mk 2 false 1 ⟨#[]⟩ none 0 0 none 0 0) ++ mem7 kA (C6.mk 4 false 0 ⟨#[]⟩ (some ⟨w.heap.size, 0, none⟩) 1 1 none 0 0)).toArray
    rw [← hW0]
    simpa [mem7, C6.cells, kA, kB] using this
  have hval : ValM W0 (· < W0.heap.size) 1000000 example1 (some ⟨w.heap.size + 1 + 1, 0, none⟩) 0 := val_example (g1 := w.heap.size) (by omega) (by omega) (fun q _ => hg1.cell q) (fun q _ => by rw [hg2.cell q]; simp)
  refine (Members_some example1 (some ⟨w.heap.size + 1 + 1, 0, none⟩) 2 W0.heap.size W0 hval (Nat.le_refl _) (by decide) (by decide) (fun e => by cases e) (by rw [vsize_example]; decide) (by decide)).mono ?_
  clear hg1 hg2 hval hW0
  rintro e W1 ⟨⟨ms', hp, hs, hmem⟩, hb1⟩
  obtain rfl := sorted_example hp hs
  obtain ⟨o, rfl, hv⟩ : ∃ o : C6, e = .returned (.tuple #[.agg o.arr, .nilIface]) ∧ Val W1 (fun b => W0.heap.size ≤ b ∧ b < W1.heap.size) 1000000 (.mk 5 false 0 ⟨#[]⟩ [] [(kA, vA), (kB, vB)]) o.arr := by
    rcases hmem with ⟨o, he, -, hv⟩ | ⟨i, v, hi, -, -, he, -⟩
    · exact ⟨o, he, hv⟩
    · obtain rfl : i = 0 := by simp at hi; omega
      exact absurd he (show ¬ kA = kB by decide)
  clear hmem
  have hb1' : Below w.heap.size w W1 := hb0.trans (hb1.mono (by omega))
  have hz1 : w.heap.size ≤ W1.heap.size := hb1'.size
  have HX := Lib.hid (And.intro hb1' hv)
  clear hb1 hb1' hv hb0 hz0 hs hp
  obtain ⟨ok, oy, on_, ot, oa, ola, oca, ob, olb, ocb⟩ := o
  simp only [C6.arr] at *
  go_wp2_with fail
  obtain ⟨W2, hW2⟩ : ∃ W2, W1.alloc (.cells (C6.mk ok oy on_ ot oa ola oca ob olb ocb).arr 38) = W2 := ⟨_, rfl⟩
  have hW2' := hW2
  simp only [C6.arr] at hW2'
  rw [hW2']
  clear hW2'
  have hb2 : Below W1.heap.size W1 W2 := hW2 ▸ (Below.refl _ _).alloc (Nat.le_refl _) _
  have hbw2 : Below w.heap.size w W2 := HX.out.1.trans (hb2.mono hz1)
  have h2 : Whole W2 W1.heap.size 38 (C6.mk ok oy on_ ot oa ola oca ob olb ocb).arr := hW2 ▸ Whole.made _ _ _
  have hv2 : Val W2 (· < W2.heap.size) 1000000 (.mk 5 false 0 ⟨#[]⟩ [] [(kA, vA), (kB, vB)]) (C6.mk ok oy on_ ot oa ola oca ob olb ocb).arr := HX.out.2.keep (fun p hp => hb2.cell hp.2) (fun b hb => Nat.lt_of_lt_of_le hb.2 hb2.size)
  have HY := Lib.hid (And.intro hbw2 (And.intro h2 hv2))
  clear hW2 hb2 hbw2 h2 hv2
  refine (Check_any _ _ W2.heap.size W2 HY.out.2.2 (Nat.le_refl _) (HG.out.below HY.out.1)).mono ?_
  rw [chk_example]
  rintro e W3 ⟨hb3, hans⟩
  obtain ⟨v3, rfl, hch⟩ : ∃ v, e = .returned v ∧ Chain W3 ([kA, ⟨#[48]⟩].map fun s => ((-1 : Int), s)) 4 v := by
    rcases hans with ⟨h, _⟩ | ⟨p, c, v, h, he, hc⟩
    · cases h
    · injection h with h
      injection h with e1 e2
      subst e1 e2
      exact ⟨v, he, hc⟩
  clear hans
  have hbw3 : Below w.heap.size w W3 := HY.out.1.trans (hb3.mono HY.out.1.size)
  have HT := Lib.hid (tell_chain _ 4 v3 W3 hch (HG.out.below hbw3).1 (by decide))
  rw [tell_example] at HT
  obtain ⟨T, x, rfl⟩ := hch.held
  have HZ := Lib.hid (And.intro hb3 hbw3)
  clear hb3 hbw3 hch
  go_wp2_with fail
  refine HT.out.mono ?_
  rintro e W4 ⟨rfl, hb4⟩
  have h24 : Below W2.heap.size W2 W4 := HZ.out.1.trans (hb4.mono HZ.out.1.size)
  have hbw4 : Below w.heap.size w W4 := HY.out.1.trans (h24.mono HY.out.1.size)
  obtain ⟨a0, a1, a2, a3, a4, a5⟩ := Whole.six (HY.out.2.1.below h24 HY.out.2.1.lt)
  have hv4 : Val W4 (· < W4.heap.size) 1000000 (.mk 5 false 0 ⟨#[]⟩ [] [(kA, vA), (kB, vB)]) (C6.mk ok oy on_ ot oa ola oca ob olb ocb).arr := HY.out.2.2.keep (fun p hp => h24.cell hp) (fun b hb => Nat.lt_of_lt_of_le hb h24.size)
  have hz4 : W1.heap.size < W4.heap.size := Nat.lt_of_lt_of_le HY.out.2.1.lt h24.size
  have HW := Lib.hid (And.intro hbw4 hv4)
  clear hb4 h24 hbw4 hv4
  dsimp only
  go_wp2_with fail
  refine (Check_any _ _ W4.heap.size W4 HW.out.2 (Nat.le_refl _) (HG.out.below HW.out.1)).mono ?_
  rw [chk_example]
  rintro e W5 ⟨hb5, hans⟩
  obtain ⟨v5, rfl, hch⟩ : ∃ v, e = .returned v ∧ Chain W5 ([kA, ⟨#[48]⟩].map fun s => ((-1 : Int), s)) 4 v := by
    rcases hans with ⟨h, _⟩ | ⟨p, c, v, h, he, hc⟩
    · cases h
    · injection h with h
      injection h with e1 e2
      subst e1 e2
      exact ⟨v, he, hc⟩
  clear hans
  have HI := Lib.hid (is_code _ 4 4 v5 W5 hch)
  obtain ⟨T5, x5, rfl⟩ := hch.held
  have HV := Lib.hid (HW.out.1.trans (hb5.mono HW.out.1.size))
  clear hb5 hch
  go_wp2_with fail
  refine HI.out.mono ?_
  rintro e W6 ⟨rfl, rfl⟩
  go_wp2_with fail
  go_ret
  exact ⟨rfl, HV.out⟩
end Go.Proofs.YtdpohklklmkjbaaDoor
