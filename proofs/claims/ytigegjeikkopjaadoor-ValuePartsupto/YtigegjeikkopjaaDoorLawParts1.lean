/-
  ValueParts, walked: the parts of a right value are right; a list of it is, unless it is too deep.
-/
import Derived.Test.YtigegjeikkopjaaDoorDeep
import Derived.Test.YtigegjeikkopjaaDoorRefChk4
import Derived.Test.YtigegjeikkopjaaDoorReal3
namespace Go.Proofs.YtigegjeikkopjaaDoor
open Go.RowKit Go.Lib
set_option linter.unusedVariables false
set_option linter.unusedSimpArgs false

/-- Check of a right value: nil. -/
theorem check_nil (v : V) (cs : Array Value) (B : Nat) (w : World) (hv : Val w (· < B) 1000000 v cs) (hB : B ≤ w.heap.size) (hG : Glob w) (h : chk 20 v = none) :
    Calls Tryd.prog 13 #[.agg cs] w fun e w' => e = .returned .nilIface ∧ Below w.heap.size w w' := by
  refine (Check_any v cs B w hv hB hG).mono ?_
  rintro e w' ⟨hb, ⟨hr, rfl⟩ | ⟨p, c, x, hr, rfl, hch⟩⟩
  · exact ⟨rfl, hb⟩
  · rw [h] at hr; cases hr
def RealNil (w : World) (e : Ending) (w' : World) : Prop :=
  ∃ o : C6, e = .returned (.agg o.arr) ∧ Below w.heap.size w w' ∧ ∀ W, Below w'.heap.size w' W → Calls Tryd.prog 13 #[.agg o.arr] W fun e W' => e = .returned .nilIface ∧ Below W.heap.size W W'
theorem realNil_any (v : V) (cs : Array Value) (B : Nat) (w : World) (hw : wgt v ≤ 300) (hv : Val w (· < B) 1000000 v cs) (hB : B ≤ w.heap.size) (hG : Glob w) (h : chk 20 v = none) :
    Calls Tryd.prog 14 #[.agg cs] w (RealNil w) := by
  refine (real_any 300 v cs B w hw (by omega) hv hB).mono ?_
  rintro e w' ⟨⟨o, rfl, ho⟩, hb⟩
  refine ⟨o, rfl, hb, fun W hW => ?_⟩
  exact check_nil v o.arr w'.heap.size W (ho.keep (fun p hp => hW.cell hp.2) (fun b hb => hb.2)) hW.size ((hG.below hb).below hW) h

/-- What a check answers, and what errors.Is says of it. -/
def OneAns (deep : Bool) (w : World) (e : Ending) (w' : World) : Prop :=
  Below w.heap.size w w' ∧ ((deep = false ∧ e = .returned .nilIface) ∨ ∃ T x, deep = true ∧ e = .returned (.iface T x) ∧ ∀ W, Below w'.heap.size w' W → Calls Tryd.prog 31 #[.iface T x, .iface 67 (.int .i64 3)] W fun e W' => e = .returned (.bool true) ∧ W' = W)
theorem checkOne_any (v : V) (cs : Array Value) (B : Nat) (w : World) (hv : Val w (· < B) 1000000 (oneV v) cs) (hB : B ≤ w.heap.size) (hG : Glob w) (h : chk 20 v = none) :
    Calls Tryd.prog 13 #[.agg cs] w (OneAns (decide (dep v = 20)) w) := by
  have h1 := chk_one v h
  refine (Check_any (oneV v) cs B w hv hB hG).mono ?_
  rintro e w' ⟨hb, ⟨hr, rfl⟩ | ⟨p, c, x, hr, rfl, hch⟩⟩
  · refine ⟨hb, .inl ⟨decide_eq_false fun hd => ?_, rfl⟩⟩
    obtain ⟨p, hp⟩ := h1.1 hd
    rw [hp] at hr; cases hr
  · by_cases hd : dep v = 20
    · obtain ⟨p', hp⟩ := h1.1 hd
      rw [hp] at hr
      injection hr with hr
      injection hr with e1 e2
      subst e2
      obtain ⟨T, y, rfl⟩ := hch.held
      exact ⟨hb, .inr ⟨T, y, decide_eq_true hd, rfl, fun W hW => (is_code _ 3 3 _ W (hch.below hW)).mono fun e W' ⟨he, hw⟩ => ⟨by rw [he]; rfl, hw⟩⟩⟩
    · rw [h1.2 hd] at hr; cases hr
/-- A list of one value, laid in a block of its own. -/
theorem one_val {v : V} {o : C6} {W : World} {B : Nat} (hv : Val W (· < B) 1000000 v o.arr) (hB : B ≤ W.heap.size) (T : TypeId) :
    Val (W.alloc (.cells o.arr T)) (· < W.heap.size + 1) 1000000 (oneV v) #[.int .i64 4, .bool false, .int .i64 0, .string ⟨#[]⟩, .slice (some ⟨W.heap.size, 0, none⟩) 1 1, .slice none 0 0] := by
  have hb : Below W.heap.size W (W.alloc (.cells o.arr T)) := (Below.refl _ _).alloc (Nat.le_refl _) _
  rw [oneV, Val]
  refine ⟨some ⟨W.heap.size, 0, none⟩, 1, none, 0, rfl, ⟨by simp, by simp, by simp [ByteArray.size], by simp, by simp, (fun h => by cases h), fun _ => rfl⟩, ?_, by rw [ValM]; trivial⟩
  refine ValL.mk_ fun j hj => ?_
  have hj0 : j = 0 := by simpa using hj
  subst hj0
  refine ⟨W.heap.size, 0, o.arr, rfl, Nat.lt_succ_self _, fun q hq => ?_, ?_⟩
  · have := (Whole.made W T o.arr).cell q
    rw [show 0 + (0 + 0) * 6 + q = q by omega]
    exact this
  · exact hv.keep (fun p hp => hb.cell (Nat.lt_of_lt_of_le hp hB)) (fun b hb => by omega)

theorem run_field (a b : Int) (s : ByteArray) (W : World) : Sem.run Tryd.prog (Instr.field 29 (.agg #[.int .i64 a, .int .i64 b, .string s]) 0) W = .ok (.int .i64 a) W := by kernel_rfl

def LPRel (W : World) (l : List V) (k : Nat) (i : Value) (wr : World) : Prop := ∃ j : Nat, j + k = l.length ∧ i = .int .i64 j ∧ Below W.heap.size W wr

set_option maxRecDepth 100000 in
set_option maxHeartbeats 4000000 in
theorem lawParts_any (v : V) (c : C6) (B M : Nat) (w : World) (hM : M ≤ 1000000000) (hw : wgt v ≤ 1000000000) (hv : Val w (· < B) M v c.arr) (hB : B ≤ w.heap.size) (hG : Glob w) :
    Calls Tryd.prog 7 #[.agg c.arr] w fun e w' => e = .returned (.bool true) ∧ Below w.heap.size w w' := by
  obtain ⟨jk, jy, jn, jt, ja, jla, jca, jb, jlb, jcb⟩ := c
  have HV := Lib.hid (And.intro hv hG)
  have HF := Lib.hid (fun W (hW : Below w.heap.size w W) => few_any M hM 300 (by omega) v _ B W hw (hv.keep (fun p hp => hW.cell (Nat.lt_of_lt_of_le hp hB)) (fun _ h => h)) (Nat.le_trans hB hW.size))
  obtain ⟨W0, hW0⟩ : ∃ W0, w.alloc (.cells #[.int .i64 jk, .bool jy, .int .i64 jn, .string jt, .slice ja jla jca, .slice jb jlb jcb] 25) = W0 := ⟨_, rfl⟩
  have hb0 : Below w.heap.size w W0 := hW0 ▸ (Below.refl _ _).alloc (Nat.le_refl _) _
  have hw6 : Whole W0 w.heap.size 25 #[.int .i64 jk, .bool jy, .int .i64 jn, .string jt, .slice ja jla jca, .slice jb jlb jcb] := hW0 ▸ Whole.made _ _ _
  have H0 := Lib.hid (And.intro hb0 (And.intro hw6 hW0))
  have hz0 : w.heap.size < W0.heap.size := hw6.lt
  clear hv hG hW0 hb0 hw6
  dsimp only [C6.arr] at HF HV ⊢
  by_cases h300 : wgt v ≤ 300
  · have hdec : decide (wgt v ≤ 300) = true := decide_eq_true h300
    rw [hdec] at HF
    have hsm := HV.out.1.small (K := 300) (by omega) h300
    have HC := Lib.hid (fun W (hW : Below w.heap.size w W) => RefCheck_any v _ B W (hsm.keep (fun p hp => hW.cell (Nat.lt_of_lt_of_le hp hB)) (fun _ h => h)) (Nat.le_trans hB hW.size))
    have hgood := chk_good 20 v hsm.ok
    cases hR : chk 20 v with
    | some pc =>
      obtain ⟨p, ec⟩ := pc
      have hec : (ec != 0) = true := by simpa using (hgood p ec hR).1
      have hfld := fun W => run_field ec (-1) (pth p) W
      rw [hR] at HC
      unfold RefAns at HC
      simp only [refCode, refPath] at HC
      clear hdec h300 hR hsm hgood
      go_enter Tryd.func7, Tryd.ntmps7
      go_wp2_with fail
      rw [H0.out.2.2]
      refine (awake_any W0 (HV.out.2.below H0.out.1)).mono ?_
      rintro e W1 ⟨rfl, hb1⟩
      obtain ⟨x0, x1, x2, x3, x4, x5⟩ := (H0.out.2.1.below hb1 hz0).six
      have HB1 := Lib.hid (H0.out.1.trans (hb1.mono H0.out.1.size))
      have hz1 : w.heap.size < W1.heap.size := lt_of_cell x0
      clear hb1
      go_wp2_with fail
      refine (HF.out W1 HB1.out).mono ?_
      rintro e W2 ⟨rfl, hb2⟩
      have y0 := (hb2.cell (p := ⟨w.heap.size, 0, none⟩) hz1).trans x0
      have y1 := (hb2.cell (p := ⟨w.heap.size, 1, none⟩) hz1).trans x1
      have y2 := (hb2.cell (p := ⟨w.heap.size, 2, none⟩) hz1).trans x2
      have y3 := (hb2.cell (p := ⟨w.heap.size, 3, none⟩) hz1).trans x3
      have y4 := (hb2.cell (p := ⟨w.heap.size, 4, none⟩) hz1).trans x4
      have y5 := (hb2.cell (p := ⟨w.heap.size, 5, none⟩) hz1).trans x5
      have HB2 := Lib.hid (HB1.out.trans (hb2.mono HB1.out.size))
      clear hb2 x0 x1 x2 x3 x4 x5
      go_wp2_with fail
      refine (HC.out W2 HB2.out).mono ?_
      rintro e W3 ⟨rfl, hb3⟩
      have HB3 := Lib.hid (HB2.out.trans (hb3.mono HB2.out.size))
      clear hb3 y0 y1 y2 y3 y4 y5
      go_wp2_with fail
      refine (awake_any W3 (HV.out.2.below HB3.out)).mono ?_
      rintro e W4 ⟨rfl, hb4⟩
      go_wp2_with fail
      go_ret
      exact ⟨rfl, HB3.out.trans (hb4.mono HB3.out.size)⟩
    | none =>
      rw [hR] at HC
      unfold RefAns at HC
      simp only [refCode, refPath] at HC
      have HN := Lib.hid hR
      have HP := Lib.hid (fun W (hW : Below w.heap.size w W) => parts_any v _ B W (hsm.keep (fun p hp => hW.cell (Nat.lt_of_lt_of_le hp hB)) (fun _ h => h)) (Nat.le_trans hB hW.size))
      have HD := Lib.hid (fun W (hW : Below w.heap.size w W) => depth_any 300 v _ B W h300 (by omega) (hsm.keep (fun p hp => hW.cell (Nat.lt_of_lt_of_le hp hB)) (fun _ h => h)) (Nat.le_trans hB hW.size))
      have HRl := Lib.hid (fun W (hW : Below w.heap.size w W) => real_any 300 v _ B W h300 (by omega) (hsm.keep (fun p hp => hW.cell (Nat.lt_of_lt_of_le hp hB)) (fun _ h => h)) (Nat.le_trans hB hW.size))
      have hfld := fun W => run_field 0 (-1) ⟨#[]⟩ W
      have hwp := wgt_parts v
      have hd20 := chk_dep 20 v hR
      clear hdec hR hsm hgood
      go_enter Tryd.func7, Tryd.ntmps7
      go_wp2_with fail
      rw [H0.out.2.2]
      refine (awake_any W0 (HV.out.2.below H0.out.1)).mono ?_
      rintro e W1 ⟨rfl, hb1⟩
      obtain ⟨x0, x1, x2, x3, x4, x5⟩ := (H0.out.2.1.below hb1 hz0).six
      have HB1 := Lib.hid (H0.out.1.trans (hb1.mono H0.out.1.size))
      have hz1 : w.heap.size < W1.heap.size := lt_of_cell x0
      clear hb1
      go_wp2_with fail
      refine (HF.out W1 HB1.out).mono ?_
      rintro e W2 ⟨rfl, hb2⟩
      have y0 := (hb2.cell (p := ⟨w.heap.size, 0, none⟩) hz1).trans x0
      have y1 := (hb2.cell (p := ⟨w.heap.size, 1, none⟩) hz1).trans x1
      have y2 := (hb2.cell (p := ⟨w.heap.size, 2, none⟩) hz1).trans x2
      have y3 := (hb2.cell (p := ⟨w.heap.size, 3, none⟩) hz1).trans x3
      have y4 := (hb2.cell (p := ⟨w.heap.size, 4, none⟩) hz1).trans x4
      have y5 := (hb2.cell (p := ⟨w.heap.size, 5, none⟩) hz1).trans x5
      have HB2 := Lib.hid (HB1.out.trans (hb2.mono HB1.out.size))
      have hz2 : w.heap.size < W2.heap.size := lt_of_cell y0
      clear hb2 x0 x1 x2 x3 x4 x5
      go_wp2_with fail
      refine (HC.out W2 HB2.out).mono ?_
      rintro e W3 ⟨rfl, hb3⟩
      have z0 := (hb3.cell (p := ⟨w.heap.size, 0, none⟩) hz2).trans y0
      have z1 := (hb3.cell (p := ⟨w.heap.size, 1, none⟩) hz2).trans y1
      have z2 := (hb3.cell (p := ⟨w.heap.size, 2, none⟩) hz2).trans y2
      have z3 := (hb3.cell (p := ⟨w.heap.size, 3, none⟩) hz2).trans y3
      have z4 := (hb3.cell (p := ⟨w.heap.size, 4, none⟩) hz2).trans y4
      have z5 := (hb3.cell (p := ⟨w.heap.size, 5, none⟩) hz2).trans y5
      have HB3 := Lib.hid (HB2.out.trans (hb3.mono HB2.out.size))
      have hz3 : w.heap.size < W3.heap.size := lt_of_cell z0
      clear hb3 y0 y1 y2 y3 y4 y5
      go_wp2_with fail
      refine (HP.out W3 HB3.out).mono ?_
      rintro e W4 ⟨⟨A, ca, rfl, hpc, hpl, hvl⟩, hb4⟩
      have q0 := (hb4.cell (p := ⟨w.heap.size, 0, none⟩) hz3).trans z0
      have q1 := (hb4.cell (p := ⟨w.heap.size, 1, none⟩) hz3).trans z1
      have q2 := (hb4.cell (p := ⟨w.heap.size, 2, none⟩) hz3).trans z2
      have q3 := (hb4.cell (p := ⟨w.heap.size, 3, none⟩) hz3).trans z3
      have q4 := (hb4.cell (p := ⟨w.heap.size, 4, none⟩) hz3).trans z4
      have q5 := (hb4.cell (p := ⟨w.heap.size, 5, none⟩) hz3).trans z5
      have hz4 : w.heap.size < W4.heap.size := lt_of_cell q0
      have hall := chk_part 19 v HN.out
      obtain ⟨l, hl⟩ : ∃ l, parts v = l := ⟨_, rfl⟩
      rw [hl] at hpc hpl hvl hwp hall ⊢
      have HX := Lib.hid (And.intro hvl (And.intro (HB3.out.trans (hb4.mono HB3.out.size)) (And.intro hwp hall)))
      clear hvl hb4 hl HP hwp hall z0 z1 z2 z3 z4 z5
      go_wp2_with fail
      go_loopg [23] l.length (LPRel W4 l)
      case atStart => exact ⟨0, by simp, rfl, Below.refl _ _⟩
      case round =>
        obtain ⟨j, hk, rfl, hb⟩ := hrel
        by_cases hlt : j < l.length
        · obtain ⟨b, off, cs, rfl, hbB, hc, hx⟩ := HX.out.1.get j hlt
          obtain ⟨cj, rfl⟩ := hx.c6
          have hcj : ∀ q, q < 6 → wr.cell? ⟨b, off + j * 6 + q, none⟩ = cj.arr[q]? := fun q hq => (hb.cell (p := ⟨b, off + j * 6 + q, none⟩) hbB).trans (by simpa using hc q hq)
          obtain ⟨x0, x1, x2, x3, x4, x5⟩ := cells6 hcj rfl
          have hwj : wgt l[j] ≤ 300 := by
            have h1 := HX.out.2.2.1
            have h2 := wgtL_le l (j + 1)
            rw [wgtL_take l j hlt] at h2
            omega
          have hcall := fun W (hW : Below W4.heap.size W4 W) => realNil_any l[j] cj.arr W4.heap.size W hwj (hx.keep (fun p hp => hW.cell hp) (fun _ h => h)) hW.size ((HV.out.2.below HX.out.2.1).below hW) (chk_mono 19 _ (HX.out.2.2.2 _ (List.getElem_mem hlt)))
          have HC2 := Lib.hid (And.intro hcall (And.intro hk hb))
          have hj1 : (j : Int) < (l.length : Int) := by omega
          have hzb := hb.size
          clear hcall hk hb hcj hc hx hwj
          obtain ⟨pk, py, pn, pt, pa, pla, pca, pb, plb, pcb⟩ := cj
          dsimp only [C6.arr] at x0 x1 x2 x3 x4 x5 HC2
          go_wp2_with fail
          refine (HC2.out.1 _ (HC2.out.2.2.alloc hzb _)).mono ?_
          rintro e W5 ⟨o, rfl, hb5, hck⟩
          have H5 := Lib.hid (And.intro hb5 hck)
          clear hb5 hck
          go_wp2_with fail
          refine (H5.out.2 _ (Below.refl _ _)).mono ?_
          rintro e W6 ⟨rfl, hb6⟩
          go_wp2_with fail
          go_roundg (l.length - (j + 1))
          case rel =>
            have hb := HC2.out.2.2
            have hb5 := (hb.alloc hzb (.cells #[.int .i64 pk, .bool py, .int .i64 pn, .string pt, .slice pa pla pca, .slice pb plb pcb] 25)).trans (H5.out.1.mono (by simp; omega))
            exact ⟨j + 1, by omega, by go_num, hb5.trans (hb6.mono hb5.size)⟩
          case measure => have := HC2.out.2.1; omega
        · have hzr := hb.size
          have r0 := (hb.cell (p := ⟨w.heap.size, 0, none⟩) hz4).trans q0
          have r1 := (hb.cell (p := ⟨w.heap.size, 1, none⟩) hz4).trans q1
          have r2 := (hb.cell (p := ⟨w.heap.size, 2, none⟩) hz4).trans q2
          have r3 := (hb.cell (p := ⟨w.heap.size, 3, none⟩) hz4).trans q3
          have r4 := (hb.cell (p := ⟨w.heap.size, 4, none⟩) hz4).trans q4
          have r5 := (hb.cell (p := ⟨w.heap.size, 5, none⟩) hz4).trans q5
          have hz5 : w.heap.size < wr.heap.size := lt_of_cell r0
          have HB5 := Lib.hid (HX.out.2.1.trans (hb.mono HX.out.2.1.size))
          clear hb hk q0 q1 q2 q3 q4 q5
          go_wp2_with fail
          refine (HRl.out wr HB5.out).mono ?_
          rintro e W6 ⟨⟨o, rfl, ho⟩, hb6⟩
          have s0 := (hb6.cell (p := ⟨w.heap.size, 0, none⟩) hz5).trans r0
          have s1 := (hb6.cell (p := ⟨w.heap.size, 1, none⟩) hz5).trans r1
          have s2 := (hb6.cell (p := ⟨w.heap.size, 2, none⟩) hz5).trans r2
          have s3 := (hb6.cell (p := ⟨w.heap.size, 3, none⟩) hz5).trans r3
          have s4 := (hb6.cell (p := ⟨w.heap.size, 4, none⟩) hz5).trans r4
          have s5 := (hb6.cell (p := ⟨w.heap.size, 5, none⟩) hz5).trans r5
          have hz6 : w.heap.size < W6.heap.size := lt_of_cell s0
          have H6 := Lib.hid (And.intro ho (HB5.out.trans (hb6.mono HB5.out.size)))
          have HCk := Lib.hid (checkOne_any v _ (W6.heap.size + 1) _ (one_val (ho.keep (fun _ _ => rfl) (fun b hb => hb.2)) (Nat.le_refl _) 38) (by simp) (HV.out.2.below ((HB5.out.trans (hb6.mono HB5.out.size)).alloc (by omega) _)) HN.out)
          clear ho hb6 r0 r1 r2 r3 r4 r5
          obtain ⟨ok, oy, on_, ot, oa, ola, oca, ob, olb, ocb⟩ := o
          dsimp only [C6.arr] at HCk ⊢
          go_wp2_with fail
          refine HCk.out.mono ?_
          rintro e W7 ⟨hb7, ⟨hd, rfl⟩ | ⟨T, x, hd, rfl, hIs⟩⟩
          · have hbb : Below W6.heap.size W6 W7 := ((Below.refl _ _).alloc (Nat.le_refl _) _).trans (hb7.mono (by simp))
            have t0 := (hbb.cell (p := ⟨w.heap.size, 0, none⟩) hz6).trans s0
            have t1 := (hbb.cell (p := ⟨w.heap.size, 1, none⟩) hz6).trans s1
            have t2 := (hbb.cell (p := ⟨w.heap.size, 2, none⟩) hz6).trans s2
            have t3 := (hbb.cell (p := ⟨w.heap.size, 3, none⟩) hz6).trans s3
            have t4 := (hbb.cell (p := ⟨w.heap.size, 4, none⟩) hz6).trans s4
            have t5 := (hbb.cell (p := ⟨w.heap.size, 5, none⟩) hz6).trans s5
            have H7 := Lib.hid (H6.out.2.trans (hbb.mono H6.out.2.size))
            have hdn : ((dep v : Int) == 20) = false := by rw [beq_eq_false_iff_ne]; have := of_decide_eq_false hd; omega
            clear hb7 hbb s0 s1 s2 s3 s4 s5 hd
            go_wp2_with fail
            refine (HD.out W7 H7.out).mono ?_
            rintro e W8 ⟨rfl, hb8⟩
            go_wp2_with fail
            go_ret
            exact ⟨rfl, H7.out.trans (hb8.mono H7.out.size)⟩
          · have hbb : Below W6.heap.size W6 W7 := ((Below.refl _ _).alloc (Nat.le_refl _) _).trans (hb7.mono (by simp))
            have t0 := (hbb.cell (p := ⟨w.heap.size, 0, none⟩) hz6).trans s0
            have t1 := (hbb.cell (p := ⟨w.heap.size, 1, none⟩) hz6).trans s1
            have t2 := (hbb.cell (p := ⟨w.heap.size, 2, none⟩) hz6).trans s2
            have t3 := (hbb.cell (p := ⟨w.heap.size, 3, none⟩) hz6).trans s3
            have t4 := (hbb.cell (p := ⟨w.heap.size, 4, none⟩) hz6).trans s4
            have t5 := (hbb.cell (p := ⟨w.heap.size, 5, none⟩) hz6).trans s5
            have H7 := Lib.hid (And.intro (H6.out.2.trans (hbb.mono H6.out.2.size)) hIs)
            have hdn : ((dep v : Int) == 20) = true := by rw [beq_iff_eq]; have := of_decide_eq_true hd; omega
            clear hb7 hbb s0 s1 s2 s3 s4 s5 hd hIs
            go_wp2_with fail
            refine (HD.out W7 H7.out.1).mono ?_
            rintro e W8 ⟨rfl, hb8⟩
            have H8 := Lib.hid (And.intro (H7.out.1.trans (hb8.mono H7.out.1.size)) (H7.out.2 W8 hb8))
            clear hb8
            go_wp2_with fail
            refine H8.out.2.mono ?_
            rintro e W9 ⟨rfl, rfl⟩
            go_wp2_with fail
            go_ret
            exact ⟨rfl, H8.out.1⟩
  · have hdec : decide (wgt v ≤ 300) = false := decide_eq_false h300
    rw [hdec] at HF
    clear hdec h300
    go_enter Tryd.func7, Tryd.ntmps7
    go_wp2_with fail
    rw [H0.out.2.2]
    refine (awake_any W0 (HV.out.2.below H0.out.1)).mono ?_
    rintro e W1 ⟨rfl, hb1⟩
    obtain ⟨x0, x1, x2, x3, x4, x5⟩ := (H0.out.2.1.below hb1 hz0).six
    have HB1 := Lib.hid (H0.out.1.trans (hb1.mono H0.out.1.size))
    have hz1 : w.heap.size < W1.heap.size := lt_of_cell x0
    clear hb1
    go_wp2_with fail
    refine (HF.out W1 HB1.out).mono ?_
    rintro e W2 ⟨rfl, hb2⟩
    have HB2 := Lib.hid (HB1.out.trans (hb2.mono HB1.out.size))
    clear hb2 x0 x1 x2 x3 x4 x5
    go_wp2_with fail
    refine (awake_any W2 (HV.out.2.below HB2.out)).mono ?_
    rintro e W3 ⟨rfl, hb3⟩
    go_wp2_with fail
    go_ret
    exact ⟨rfl, HB2.out.trans (hb3.mono HB2.out.size)⟩
end Go.Proofs.YtigegjeikkopjaaDoor
