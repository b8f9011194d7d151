/-
  Layer 7's fixed fact (awake), walked.
-/
import Derived.Test.YtmejpjknofbffaaDoorRe8
import Derived.Test.YtmejpjknofbffaaDoorRe10
import Derived.Test.YtmejpjknofbffaaDoorRj1
namespace Go.Proofs.YtmejpjknofbffaaDoor
open Go.RowKit Go.Lib
set_option linter.unusedVariables false
set_option linter.unusedSimpArgs false

/-- What the walks need of memory. -/
def G7 (w : World) : Prop := Deb w ∧ 7 ≤ w.heap.size
theorem G7.below {w w' : World} (h : G7 w) (hb : Below w.heap.size w w') : G7 w' :=
  ⟨(hb.cell (p := ⟨6, 15, none⟩) (Nat.lt_of_lt_of_le (by decide) h.2)).trans h.1, Nat.le_trans h.2 hb.size⟩
theorem made43 : madeCells (Value.int .u8 0).cells (43 * 1) = (bcs (List.replicate 43 0)).toArray := by kernel_rfl
abbrev ex7 : List UInt8 := List.replicate 43 0
abbrev q70 : Pc := ⟨1, 2, 3, 0, 2, List.replicate 42 0⟩
abbrev q71 : Pc := ⟨1, 2, 3, 1, 2, [0]⟩
theorem q71_ok : q71.Ok := Pc.ok_of (by decide)
theorem q71_fit : q71.Fit := by constructor <;> decide
theorem ex_split : splitL 1 2 3 ex7 = [q70, q71] := by kernel_rfl
theorem ex_bad : (pieceN 1 2 3 ex7 0).bad = 0 := by decide
theorem ex_sp {w w' : World} {e : Ending} (h : SpAns w 1 2 3 ex7 e w') : ∃ g B0 c0 B1 c1, e = .returned (.tuple #[.slice (some ⟨g, 0, none⟩) 2 2, .nilIface]) ∧ w.heap.size ≤ g ∧ Bt w' B1 [0] ∧ Below w.heap.size w w' ∧
    (∀ j v, (pcs q70 B0 c0)[j]? = some v → w'.cell? ⟨g, 0 + j, none⟩ = some v) ∧ (∀ j v, (pcs q71 B1 c1)[j]? = some v → w'.cell? ⟨g, 6 + j, none⟩ = some v) := by
  rw [SpAns, if_neg (by decide), if_neg (by rw [ex_bad]; decide), ex_split] at h
  obtain ⟨g, rfl, hg, hp, hb⟩ := h
  obtain ⟨g', q', e, h1⟩ := hp (by decide)
  cases e
  obtain ⟨B0, c0, a1, -⟩ := h1 0 (by decide)
  obtain ⟨B1, c1, b1, b2, -⟩ := h1 1 (by decide)
  exact ⟨g, B0, c0, B1, c1, rfl, hg, b2, hb, fun j v hv => by simpa using a1 j v hv, fun j v hv => by simpa using b1 j v hv⟩
theorem ex_rd {w w' : World} {e : Ending} (h : RdAns w (q71.blk 7) e w') : ∃ A c, e = .returned (.tuple #[q71.pv A c, .int .u8 7, .nilIface]) ∧ Below w.heap.size w w' := by
  obtain ⟨h1, h2, h3⟩ := blk_read (m := 7) q71_ok
  obtain ⟨A, c, rfl, -, -, -, hb⟩ := h
  rw [h1, h2, h3]
  exact ⟨A, c, rfl, hb⟩
set_option maxRecDepth 100000 in
set_option maxHeartbeats 4000000 in
theorem awake7_any (w : World) (hG : G7 w) :
    Calls Tryd.prog 4 #[] w fun e w' => e = .returned (.bool true) ∧ Below w.heap.size w w' := by
  have HG := Lib.hid (fun W (hW : Below w.heap.size w W) => hG.below hW)
  have hex : ex7.length = 43 := by decide
  have hbl : (q71.blk 7).length = 64 := Pc.blk_len (by decide) 7
  clear hG
  go_enter Tryd.func4, Tryd.ntmps4
  go_wp2_with (first | ((with_reducible refine at_slot 8 ?_); go_must (refine wpList_makeH rfl 28 5 _ _ rfl (.int .u8 0) 1 1 43 (by kernel_rfl) (by kernel_rfl) .i64 .i64 _ _ rfl rfl rfl rfl (by decide) (by decide) ?_; intro W1 HW1)))
  have hr1 : Rb W1 w.heap.size ex7 := by rw [HW1.out]; unfold Rb; rw [alloc_at, made43]
  have HB1 := Lib.hid (show Below w.heap.size w W1 by rw [HW1.out]; exact new_below w _)
  have hsp := rsplit_any W1 1 2 3 (some ⟨w.heap.size, 0, none⟩) 43 ex7 hr1.bt (by rw [hex]; exact Nat.le_refl _) (fun ad e => by cases e; exact ⟨_, _, rfl⟩) (fun e => by cases e) (by decide) (by decide) (by decide)
  rw [hex] at hsp
  have HSp := Lib.hid hsp
  clear hsp HW1 hr1 hex
  refine HSp.out.mono ?_
  rintro e W2 he
  obtain ⟨g, B0, c0, B1, c1, rfl, hg, hB1, hb2, hc0, hc1⟩ := ex_sp he
  have y5 := hc0 5 _ rfl
  have z0 := hc1 0 _ rfl
  have z1 := hc1 1 _ rfl
  have z2 := hc1 2 _ rfl
  have z3 := hc1 3 _ rfl
  have z4 := hc1 4 _ rfl
  have z5 := hc1 5 _ rfl
  simp only [Nat.zero_add, Nat.reduceAdd, List.length_replicate, List.length_cons, List.length_nil] at y5 z0 z1 z2 z3 z4 z5
  have HB2 := Lib.hid (HB1.out.trans (hb2.mono HB1.out.size))
  have hbk := block_yes q71 B1 c1 7 W2 q71_fit q71_ok hB1 (HG.out W2 HB2.out).1 (HG.out W2 HB2.out).2
  unfold Pc.pv at hbk
  simp only [List.length_cons, List.length_nil, Nat.zero_add] at hbk
  have HBk := Lib.hid hbk
  clear hbk hc0 hc1 hB1 hb2 hg he HSp
  go_wp2_with fail
  refine HBk.out.mono ?_
  rintro e W3 ⟨g2, rfl, hg2, hr2, hb3⟩
  have HB3 := Lib.hid (HB2.out.trans (hb3.mono HB2.out.size))
  have hrd := rread_any W3 (some ⟨g2, 0, none⟩) 64 (q71.blk 7) (by rw [hbl]; exact Nat.le_refl _) (by decide) hr2.bt (fun ad e => by cases e; exact ⟨_, _, rfl⟩) (HG.out W3 HB3.out).1 (HG.out W3 HB3.out).2
  rw [hbl] at hrd
  have HRd := Lib.hid hrd
  clear hrd hr2 hb3 hg2 y5 z0 z1 z2 z3 z4 z5 hbl HBk
  go_wp2_with fail
  refine HRd.out.mono ?_
  rintro e W4 he
  obtain ⟨A4, c4, rfl, hb4⟩ := ex_rd he
  have HB4 := Lib.hid (HB3.out.trans (hb4.mono HB3.out.size))
  unfold Pc.pv
  simp only
  clear he hb4
  go_wp2_with fail
  go_ret
  exact ⟨rfl, HB4.out.alloc HB4.out.size _⟩
end Go.Proofs.YtmejpjknofbffaaDoor
