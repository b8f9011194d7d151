/-
  Layer 3's fixed fact (awake): the document's examples, plain, and walked.
-/
import Derived.Test.YtleaaipkgjjlfaaDoorCn7
import Derived.Test.YtleaaipkgjjlfaaDoorSm1
import Derived.Test.YtleaaipkgjjlfaaDoorLawTexts1
namespace Go.Proofs.YtleaaipkgjjlfaaDoor
open Go.RowKit Go.Lib
set_option linter.unusedVariables false
set_option linter.unusedSimpArgs false

def exT : ByteArray := ⟨#[195, 169, 10]⟩
def exV : V := .mk 4 false 0 ⟨#[]⟩ [textV exT] []
def exM : List (ByteArray × V) := [(⟨#[97]⟩, exV)]
theorem ex_canon : canonM exM = exM := by kernel_rfl
theorem ex_size : vsizeM exM = 2 := by kernel_rfl
theorem ex_chk : chk 20 (.mk 5 false 0 ⟨#[]⟩ [] exM) = none := by kernel_rfl
theorem ex_text : canT (.mk 5 false 0 ⟨#[]⟩ [] exM) = [123, 34, 97, 34, 58, 91, 34, 195, 169, 92, 110, 34, 93, 125] := by kernel_rfl
theorem ex_sum : sumB ⟨#[]⟩ = ⟨#[99, 98, 102, 50, 57, 99, 101, 52, 56, 52, 50, 50, 50, 51, 50, 53]⟩ := by kernel_rfl
theorem ex_quote : quoL [1] = [34, 92, 117, 48, 48, 48, 49, 34] := by kernel_rfl
theorem ex_small : ∀ i (h : i < [exT].length), [exT][i].size ≤ 1000000 := by
  intro i h
  have hi : i = 0 := by simpa using h
  subst hi
  show exT.size ≤ 1000000
  decide
/-- The example's member in memory. -/
theorem ex_val {w : World} {B g : Nat} {a : Option Addr} {l c : Nat} (hg : g < B) (hc : ∀ q, q < 7 → w.cell? ⟨g, q, none⟩ = (mem7 ⟨#[97]⟩ (C6.mk 4 false 0 ⟨#[]⟩ a l c none 0 0))[q]?)
    (hv : Val w (· < B) 1000000 exV (C6.mk 4 false 0 ⟨#[]⟩ a l c none 0 0).arr) : ValM w (· < B) 1000000 exM (some ⟨g, 0, none⟩) 0 := by
  rw [exM, ValM]
  refine ⟨⟨g, 0, _, rfl, hg, by decide, hc 0 (by omega), fun j hj => ?_, hv⟩, by rw [ValM]; trivial⟩
  have := hc (1 + j) (by omega)
  rw [show 0 + 0 * 7 + (1 + j) = 1 + j by omega, this, C6.arr_get]
  simp [mem7, Nat.add_comm 1 j]
theorem ex_perm {ms : List (ByteArray × V)} (hp : ms.Perm (canonM exM)) : ms = exM := by
  rw [ex_canon] at hp
  exact List.perm_singleton.1 hp
set_option maxRecDepth 100000 in
set_option maxHeartbeats 4000000 in
theorem awake3_any (w : World) (hG : Glob w) (hT : Tabs w) (hN : 6 ≤ w.heap.size) :
    Calls Tryd.prog 5 #[] w fun e w' => e = .returned (.bool true) ∧ Below w.heap.size w w' := by
  have HG := Lib.hid (And.intro hG hT)
  clear hG hT
  go_enter Tryd.func5, Tryd.ntmps5
  go_wp2_with fail
  obtain ⟨W0, hW0⟩ : ∃ W0, w.alloc (.cells #[.string ⟨#[195, 169, 10]⟩] 9) = W0 := ⟨_, rfl⟩
  rw [hW0]
  have hb0 : Below w.heap.size w W0 := hW0 ▸ (Below.refl _ _).alloc (Nat.le_refl _) _
  have hc0 : W0.cell? ⟨w.heap.size, 0, none⟩ = some (.string ⟨#[195, 169, 10]⟩) := by rw [← hW0]; simp
  have hz0 : w.heap.size < W0.heap.size := lt_of_cell hc0
  have hst : Strs W0 [exT] (some ⟨w.heap.size, 0, none⟩) := fun _ => ⟨w.heap.size, 0, rfl, hz0, fun j hj => by
    obtain rfl : j = 0 := by simpa using hj
    exact hc0⟩
  refine (texts_any [exT] (some ⟨w.heap.size, 0, none⟩) 1 W0 hst (by decide)).mono ?_
  clear hW0 hc0 hst
  rintro e W1 ⟨⟨v, rfl, hown⟩, hb1⟩
  have hbw1 : Below w.heap.size w W1 := hb0.trans (hb1.mono (Nat.le_of_lt hz0))
  have hv1 : Val W1 (· < W1.heap.size) 1000000 exV #[.int .i64 4, .bool false, .int .i64 0, .string ⟨#[]⟩, v, .slice none 0 0] := own_list (ss := [exT]) hown (by decide) ex_small
  obtain ⟨ao, lo, co, rfl⟩ : ∃ ao lo co, v = .slice ao lo co := by
    rcases hown.2 with ⟨hv, _⟩ | ⟨g, cap, cur, hv, _⟩
    · exact ⟨_, _, _, hv⟩
    · exact ⟨_, _, _, hv⟩
  have HX := Lib.hid (And.intro hbw1 hv1)
  clear hown hb0 hb1 hbw1 hv1
  go_wp2_with fail
  obtain ⟨W2, hW2⟩ : ∃ W2, W1.alloc (.cells #[.string ⟨#[97]⟩, .int .i64 4, .bool false, .int .i64 0, .string ⟨#[]⟩, .slice ao lo co, .slice none 0 0] 48) = W2 := ⟨_, rfl⟩
  rw [hW2]
  have hb2 : Below W1.heap.size W1 W2 := hW2 ▸ (Below.refl _ _).alloc (Nat.le_refl _) _
  have hm2 : Whole W2 W1.heap.size 48 #[.string ⟨#[97]⟩, .int .i64 4, .bool false, .int .i64 0, .string ⟨#[]⟩, .slice ao lo co, .slice none 0 0] := hW2 ▸ Whole.made _ _ _
  have hz2 : W1.heap.size < W2.heap.size := hm2.lt
  have hz1 : w.heap.size ≤ W1.heap.size := HX.out.1.size
  have hv2 : ValM W2 (· < W2.heap.size) 1000000 exM (some ⟨W1.heap.size, 0, none⟩) 0 :=
    ex_val (a := ao) (l := lo) (c := co) hz2 (fun q _ => by rw [hm2.cell q]; simp [mem7, C6.cells]) (HX.out.2.keep (fun p hp => hb2.cell hp) (fun b hb => Nat.lt_trans hb hz2))
  refine (Members_some exM (some ⟨W1.heap.size, 0, none⟩) 1 W2.heap.size W2 hv2 (Nat.le_refl _) (by decide) (by decide) (fun e => by cases e) (by rw [ex_size]; decide) (by decide)).mono ?_
  rintro e W3 ⟨⟨ms', hp, hs, hmem⟩, hb3⟩
  obtain rfl := ex_perm hp
  obtain ⟨o, rfl, hv⟩ : ∃ o : C6, e = .returned (.tuple #[.agg o.arr, .nilIface]) ∧ Val W3 (fun b => W2.heap.size ≤ b ∧ b < W3.heap.size) 1000000 (.mk 5 false 0 ⟨#[]⟩ [] exM) o.arr := by
    rcases hmem with ⟨o, he, -, hv⟩ | ⟨i, v, hi, -⟩
    · exact ⟨o, he, hv⟩
    · exact absurd hi (by simp [exM])
  have hbw3 : Below w.heap.size w W3 := HX.out.1.trans ((hb2.trans (hb3.mono (Nat.le_of_lt hz2))).mono hz1)
  have hv3 : Val W3 (· < W3.heap.size) 1000000 (.mk 5 false 0 ⟨#[]⟩ [] exM) o.arr := hv.keep (fun _ _ => rfl) (fun b hb => hb.2)
  have HY := Lib.hid (And.intro hbw3 hv3)
  clear hmem hp hs hv hb3 hb2 hm2 hv2 hW2 hbw3 hv3 HX
  obtain ⟨ok, oy, on_, ot, oa, ola, oca, ob, olb, ocb⟩ := o
  simp only [C6.arr] at *
  go_wp2_with fail
  obtain ⟨W4, hW4⟩ : ∃ W4, W3.alloc (.cells #[.int .i64 ok, .bool oy, .int .i64 on_, .string ot, .slice oa ola oca, .slice ob olb ocb] 39) = W4 := ⟨_, rfl⟩
  rw [hW4]
  have hb4 : Below W3.heap.size W3 W4 := hW4 ▸ (Below.refl _ _).alloc (Nat.le_refl _) _
  have hz3 : w.heap.size ≤ W3.heap.size := HY.out.1.size
  have hbw4 : Below w.heap.size w W4 := HY.out.1.trans (hb4.mono hz3)
  have hNT : ∀ W, Below w.heap.size w W → Glob W ∧ Tabs W ∧ 6 ≤ W.heap.size := fun W hW => ⟨HG.out.1.below hW, HG.out.2.below hW (Nat.lt_of_lt_of_le (by decide) hN) (Nat.lt_of_lt_of_le (by decide) hN), Nat.le_trans hN hW.size⟩
  have HN := Lib.hid hNT
  refine (text_any (.mk 5 false 0 ⟨#[]⟩ [] exM) (C6.mk ok oy on_ ot oa ola oca ob olb ocb) W3.heap.size W4 (HY.out.2.keep (fun p hp => hb4.cell hp) (fun _ h => h)) hb4.size (HN.out W4 hbw4).1 (HN.out W4 hbw4).2.1 (HN.out W4 hbw4).2.2 (fun _ => by rw [ex_text]; decide)).mono ?_
  rintro e W5 ⟨hb5, hans⟩
  obtain rfl : e = .returned (.tuple #[.string ⟨#[123, 34, 97, 34, 58, 91, 34, 195, 169, 92, 110, 34, 93, 125]⟩, .nilIface]) := by
    rcases hans with ⟨-, he⟩ | ⟨p, cd, x, hr, -⟩
    · rw [he, ex_text]
    · rw [ex_chk] at hr
      cases hr
  have HZ := Lib.hid (hbw4.trans (hb5.mono hbw4.size))
  clear hans hb5 hb4 hbw4 hW4 hNT HY
  go_wp2_with fail
  have HS := sum_any ⟨#[]⟩ W5 (HN.out W5 HZ.out).2.1.1 (by decide)
  rw [ex_sum] at HS
  refine HS.mono ?_
  rintro e W6 ⟨rfl, hb6⟩
  have H6 := Lib.hid (HZ.out.trans (hb6.mono HZ.out.size))
  clear hb6 HS
  go_wp2_with fail
  have HQ := quoteT_any ⟨#[1]⟩ W6 (HN.out W6 H6.out).2.1 (HN.out W6 H6.out).2.2 (by decide)
  simp only [ex_quote] at HQ
  refine HQ.mono ?_
  rintro e W7 ⟨rfl, hb7⟩
  have H7 := Lib.hid (H6.out.trans (hb7.mono H6.out.size))
  clear hb7 HQ
  go_wp2_with fail
  go_ret
  exact ⟨rfl, H7.out⟩
end Go.Proofs.YtleaaipkgjjlfaaDoor
