/-
  ValueChecks, walked: what Check tells of the program's value is what the document's Check says.
-/
import Derived.Test.YtigegjeikkopjaaDoorRefChk4
import Derived.Test.YtigegjeikkopjaaDoorReal3
namespace Go.Proofs.YtigegjeikkopjaaDoor
open Go.RowKit Go.Lib
set_option linter.unusedVariables false
set_option linter.unusedSimpArgs false

/-- Real, then Check, then Tell, in whatever worlds: what chk says. -/
def RealTell (r : Option (List ByteArray × Int)) (w : World) (e : Ending) (w' : World) : Prop :=
  ∃ o : C6, e = .returned (.agg o.arr) ∧ Below w.heap.size w w' ∧ ∀ W, Below w'.heap.size w' W → Calls Tryd.prog 13 #[.agg o.arr] W (CheckTell r W)
theorem realTell_any (v : V) (cs : Array Value) (B : Nat) (w : World) (hw : wgt v ≤ 300) (hv : Val w (· < B) 1000000 v cs) (hB : B ≤ w.heap.size) (hG : Glob w) :
    Calls Tryd.prog 14 #[.agg cs] w (RealTell (chk 20 v) w) := by
  refine (real_any 300 v cs B w hw (by omega) hv hB).mono ?_
  rintro e w' ⟨⟨o, rfl, ho⟩, hb⟩
  refine ⟨o, rfl, hb, fun W hW => ?_⟩
  exact checkTell_any v o.arr w'.heap.size W (ho.keep (fun p hp => hW.cell hp.2) (fun b hb => hb.2)) hW.size ((hG.below hb).below hW)

set_option maxRecDepth 100000 in
set_option maxHeartbeats 4000000 in
theorem lawChecks_any (v : V) (c : C6) (B M : Nat) (w : World) (hM : M ≤ 1000000000) (hw : wgt v ≤ 1000000000) (hv : Val w (· < B) M v c.arr) (hB : B ≤ w.heap.size) (hG : Glob w) :
    Calls Tryd.prog 3 #[.agg c.arr] w fun e w' => e = .returned (.bool true) ∧ Below w.heap.size w w' := by
  obtain ⟨jk, jy, jn, jt, ja, jla, jca, jb, jlb, jcb⟩ := c
  have HV := Lib.hid (And.intro hv hG)
  have HF := Lib.hid (fun W (hW : Below w.heap.size w W) => few_any M hM 300 (by omega) v _ B W hw (hv.keep (fun p hp => hW.cell (Nat.lt_of_lt_of_le hp hB)) (fun _ h => h)) (Nat.le_trans hB hW.size))
  obtain ⟨W0, hW0⟩ : ∃ W0, w.alloc (.cells #[.int .i64 jk, .bool jy, .int .i64 jn, .string jt, .slice ja jla jca, .slice jb jlb jcb] 25) = W0 := ⟨_, rfl⟩
  have hb0 : Below w.heap.size w W0 := hW0 ▸ (Below.refl _ _).alloc (Nat.le_refl _) _
  have hw6 : Whole W0 w.heap.size 25 #[.int .i64 jk, .bool jy, .int .i64 jn, .string jt, .slice ja jla jca, .slice jb jlb jcb] := hW0 ▸ Whole.made _ _ _
  have H0 := Lib.hid (And.intro hb0 (And.intro hw6 hW0))
  have hz0 : w.heap.size < W0.heap.size := hw6.lt
  clear hv hG hW0 hb0 hw6
  dsimp only [C6.arr] at HF HV ⊢
  by_cases h300 : wgt v ≤ 300
  · have hdec : decide (wgt v ≤ 300) = true := decide_eq_true h300
    rw [hdec] at HF
    have HR := Lib.hid (fun W (hW : Below w.heap.size w W) => realTell_any v _ B W h300 ((HV.out.1.small (K := 300) (by omega) h300).keep (fun p hp => hW.cell (Nat.lt_of_lt_of_le hp hB)) (fun _ h => h)) (Nat.le_trans hB hW.size) (HV.out.2.below hW))
    have HC := Lib.hid (fun W (hW : Below w.heap.size w W) => RefCheck_any v _ B W ((HV.out.1.small (K := 300) (by omega) h300).keep (fun p hp => hW.cell (Nat.lt_of_lt_of_le hp hB)) (fun _ h => h)) (Nat.le_trans hB hW.size))
    obtain ⟨R, hR⟩ : ∃ R, chk 20 v = R := ⟨_, rfl⟩
    rw [hR] at HR HC
    clear hdec h300 hR
    go_enter Tryd.func3, Tryd.ntmps3
    go_wp2_with fail
    rw [H0.out.2.2]
    refine (awake_any W0 (HV.out.2.below H0.out.1)).mono ?_
    rintro e W1 ⟨rfl, hb1⟩
    obtain ⟨x0, x1, x2, x3, x4, x5⟩ := (H0.out.2.1.below hb1 hz0).six
    have HB1 := Lib.hid (H0.out.1.trans (hb1.mono H0.out.1.size))
    have hz1 : w.heap.size < W1.heap.size := lt_of_cell x0
    clear hb1
    go_wp2_with fail
    refine (HF.out W1 HB1.out).mono ?_
    rintro e W2 ⟨rfl, hb2⟩
    have y0 := (hb2.cell (p := ⟨w.heap.size, 0, none⟩) hz1).trans x0
    have y1 := (hb2.cell (p := ⟨w.heap.size, 1, none⟩) hz1).trans x1
    have y2 := (hb2.cell (p := ⟨w.heap.size, 2, none⟩) hz1).trans x2
    have y3 := (hb2.cell (p := ⟨w.heap.size, 3, none⟩) hz1).trans x3
    have y4 := (hb2.cell (p := ⟨w.heap.size, 4, none⟩) hz1).trans x4
    have y5 := (hb2.cell (p := ⟨w.heap.size, 5, none⟩) hz1).trans x5
    have HB2 := Lib.hid (HB1.out.trans (hb2.mono HB1.out.size))
    have hz2 : w.heap.size < W2.heap.size := lt_of_cell y0
    clear hb2 x0 x1 x2 x3 x4 x5
    go_wp2_with fail
    go_region_held3 (fun w' => w'.cell? ⟨w.heap.size, 0, none⟩ = some (.int .i64 jk) ∧ w'.cell? ⟨w.heap.size, 1, none⟩ = some (.bool jy) ∧ w'.cell? ⟨w.heap.size, 2, none⟩ = some (.int .i64 jn) ∧ w'.cell? ⟨w.heap.size, 3, none⟩ = some (.string jt) ∧ w'.cell? ⟨w.heap.size, 4, none⟩ = some (.slice ja jla jca) ∧ w'.cell? ⟨w.heap.size, 5, none⟩ = some (.slice jb jlb jcb)) (go_keep)
      (first
        | (go_at_call 14; refine (HR.out _ ?_).mono ?_; (first | exact HB2.out | exact HB2.out.drew); rintro e W3 ⟨o, rfl, hb3, hck⟩
           have z0 := (hb3.cell (p := ⟨w.heap.size, 0, none⟩) hz2).trans y0
           have z1 := (hb3.cell (p := ⟨w.heap.size, 1, none⟩) hz2).trans y1
           have z2 := (hb3.cell (p := ⟨w.heap.size, 2, none⟩) hz2).trans y2
           have z3 := (hb3.cell (p := ⟨w.heap.size, 3, none⟩) hz2).trans y3
           have z4 := (hb3.cell (p := ⟨w.heap.size, 4, none⟩) hz2).trans y4
           have z5 := (hb3.cell (p := ⟨w.heap.size, 5, none⟩) hz2).trans y5
           have hz3 : w.heap.size < W3.heap.size := lt_of_cell z0
           have H3 := Lib.hid (And.intro (HB2.out.trans ((((Below.refl W2.heap.size W2).drew).trans hb3).mono HB2.out.size)) hck)
           clear hb3 hck)
        | (go_at_call 13; refine (H3.out.2 _ (Below.refl _ _)).mono ?_; rintro e W4 ⟨x, rfl, hb4, htl⟩
           have p0 := (hb4.cell (p := ⟨w.heap.size, 0, none⟩) hz3).trans z0
           have p1 := (hb4.cell (p := ⟨w.heap.size, 1, none⟩) hz3).trans z1
           have p2 := (hb4.cell (p := ⟨w.heap.size, 2, none⟩) hz3).trans z2
           have p3 := (hb4.cell (p := ⟨w.heap.size, 3, none⟩) hz3).trans z3
           have p4 := (hb4.cell (p := ⟨w.heap.size, 4, none⟩) hz3).trans z4
           have p5 := (hb4.cell (p := ⟨w.heap.size, 5, none⟩) hz3).trans z5
           have hz4 : w.heap.size < W4.heap.size := lt_of_cell p0
           have H4 := Lib.hid (And.intro (H3.out.1.trans (hb4.mono H3.out.1.size)) htl)
           clear hb4 htl)
        | (go_at_call 12; refine (H4.out.2 _ (Below.refl _ _)).mono ?_; rintro e W5 ⟨rfl, hb5⟩
           have q0 := (hb5.cell (p := ⟨w.heap.size, 0, none⟩) hz4).trans p0
           have q1 := (hb5.cell (p := ⟨w.heap.size, 1, none⟩) hz4).trans p1
           have q2 := (hb5.cell (p := ⟨w.heap.size, 2, none⟩) hz4).trans p2
           have q3 := (hb5.cell (p := ⟨w.heap.size, 3, none⟩) hz4).trans p3
           have q4 := (hb5.cell (p := ⟨w.heap.size, 4, none⟩) hz4).trans p4
           have q5 := (hb5.cell (p := ⟨w.heap.size, 5, none⟩) hz4).trans p5
           have hz5 : w.heap.size < W5.heap.size := lt_of_cell q0
           have H5 := Lib.hid (H4.out.1.trans (hb5.mono H4.out.1.size))
           clear hb5)
        | (go_at_call 15; refine (HC.out _ H5.out).mono ?_; rintro e W6 ⟨rfl, hb6⟩
           have r0 := (hb6.cell (p := ⟨w.heap.size, 0, none⟩) hz5).trans q0
           have r1 := (hb6.cell (p := ⟨w.heap.size, 1, none⟩) hz5).trans q1
           have r2 := (hb6.cell (p := ⟨w.heap.size, 2, none⟩) hz5).trans q2
           have r3 := (hb6.cell (p := ⟨w.heap.size, 3, none⟩) hz5).trans q3
           have r4 := (hb6.cell (p := ⟨w.heap.size, 4, none⟩) hz5).trans q4
           have r5 := (hb6.cell (p := ⟨w.heap.size, 5, none⟩) hz5).trans q5
           have H6 := Lib.hid (H5.out.trans (hb6.mono H5.out.size))
           clear hb6))
    go_wp2_with fail
    go_ret
    exact ⟨by simp, H6.out⟩
  · have hdec : decide (wgt v ≤ 300) = false := decide_eq_false h300
    rw [hdec] at HF
    clear hdec h300
    go_enter Tryd.func3, Tryd.ntmps3
    go_wp2_with fail
    rw [H0.out.2.2]
    refine (awake_any W0 (HV.out.2.below H0.out.1)).mono ?_
    rintro e W1 ⟨rfl, hb1⟩
    obtain ⟨x0, x1, x2, x3, x4, x5⟩ := (H0.out.2.1.below hb1 hz0).six
    have HB1 := Lib.hid (H0.out.1.trans (hb1.mono H0.out.1.size))
    have hz1 : w.heap.size < W1.heap.size := lt_of_cell x0
    clear hb1
    go_wp2_with fail
    refine (HF.out W1 HB1.out).mono ?_
    rintro e W2 ⟨rfl, hb2⟩
    have HB2 := Lib.hid (HB1.out.trans (hb2.mono HB1.out.size))
    clear hb2 x0 x1 x2 x3 x4 x5
    go_wp2_with fail
    refine (awake_any W2 (HV.out.2.below HB2.out)).mono ?_
    rintro e W3 ⟨rfl, hb3⟩
    go_wp2_with fail
    go_ret
    exact ⟨rfl, HB2.out.trans (hb3.mono HB2.out.size)⟩
end Go.Proofs.YtigegjeikkopjaaDoor
