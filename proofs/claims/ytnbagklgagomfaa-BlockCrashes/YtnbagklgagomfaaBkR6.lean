/-
  The document's disks: Write that isn't refused, walked.
-/
import Derived.Test.YtnbagklgagomfaaBkR5
import Derived.Deep.RegionHeld3
namespace Go.Proofs.Ytnbagklgagomfaa
open Go.RowKit Go.Lib
set_option linter.unusedVariables false
set_option linter.unusedSimpArgs false

section
variable {P : Program} {ops : Array Oper} {o : Oper} {a : Act} {w : World} {K : Act → World → Prop} {Q : Exit → Act → World → Prop} {E : Prop} {S : World → Prop}
theorem step_slice (hgd : o.guard = none) (ty : TypeId) (len : Nat) (parts : Array (Nat × Operand)) (ho : o.op = .buildSlice ty len parts) (ps : Array (Nat × Value)) (hp : (parts.map fun (i, x) => (i, a.eval x)) = ps) (v : Value) (w1 : World) (hr : (Instr.buildSlice ty len ps).run P w = .ok v w1)
    (h : K (a.put o.dst v) w1) : if Region.wanted o (yielded ops a.tmps) = true then Oper.wp P o a w K Q else E := by
  have hw : Region.wanted o (yielded ops a.tmps) = true := by simp [Region.wanted, hgd]
  rw [if_pos hw]
  subst hp
  unfold Oper.wp
  simp only [execOp, ho, Sem.run_bind, hr, Result.andThen_ok, Sem.run_pure]
  exact h
/-- A load of a long row, taken first. -/
theorem yields_loadH (hw : Region.wanted o (yielded ops a.tmps) = true) (ty : TypeId) (x : Operand) (ho : o.op = .load ty x) (b q : Nat) (hx : a.eval x = .pointer (some ⟨b, q, none⟩)) (cs : List Value) (d : TypeDesc) (hc : ∀ w, S w → w.rangeAt b q cs)
    (hu : P.underlying ty = some d) (hd : d.isRow = true) (hi : (P.info? ty).map (·.size) = some cs.length) : YieldsIf P ops S o (.agg cs.toArray) a := by
  refine .inl ⟨hw, fun w hS => ?_⟩
  unfold execOp
  simp only [ho, hx, Instr.loadAt, Instr.sureAddr, Sem.run_bind, Sem.run_pure, Result.andThen_ok, run_loadVar_mid w b q ty cs d (hc w hS) hu hd hi]
end
theorem e1 {W : World} {R : RD} {A A' : Option Addr} {c c' : Nat} (ws' : List RW) (g : Nat) (hl : R.rf.b.length = 64) (h : HdD W g (rcs R A c)) : HdD (W.setCell ⟨g, 1, none⟩ (.slice A' ws'.length c')) g (rcs { R with ws := ws' } A' c') :=
  h.put 1 (by rw [rcs_len hl]; omega) (.slice A' ws'.length c')
theorem e70 {W : World} {R : RD} {A : Option Addr} {c : Nat} (s : Nat) (g : Nat) (hl : R.rf.b.length = 64) (h : HdD W g (rcs R A c)) : HdD (W.setCell ⟨g, 70, none⟩ (.int .i64 (s : Int))) g (rcs { R with st := s } A c) := by
  have := (h.put 70 (by rw [rcs_len hl]; omega) (.int .i64 (s : Int)))
  rwa [rcs_set70 hl] at this
theorem e69d {W : World} {R : RD} {A : Option Addr} {c : Nat} (f : Int) (g : Nat) (hl : R.rf.b.length = 64) (h : HdD W g (rcs R A c)) : HdD (W.setCell ⟨g, 69, none⟩ (.int .i64 f)) g (rcs { R with fu := f } A c) := by
  have := (h.put 69 (by rw [rcs_len hl]; omega) (.int .i64 f))
  rwa [rcs_set69 hl] at this
set_option maxRecDepth 100000 in
set_option maxHeartbeats 4000000 in
theorem refWrite_pos (w : World) (R : RD) (A : Option Addr) (c : Nat) (k : Int) (A' : Option Addr) (x : List UInt8) (c' : Nat) (hm : Rm w A c R.ws) (hl : R.rf.b.length = 64) (hk : ¬ k < 0) (hk2 : ¬ (R.n : Int) ≤ k) (h64 : ¬ (64 : Int) < (x.length : Int)) (hB : Bt w A' x) (hd : R.de = false) (hf : 0 < R.fu) (hfb : -1 ≤ R.fu ∧ R.fu ≤ 9223372036854775807) (hst : R.st + 1 ≤ 1000000000) (hws : R.ws.length ≤ 900000) :
    Calls Try.prog 13 #[.agg (rcs R A c).toArray, .int .i64 k, .slice A' x.length c'] w (RAns w ({ R with ws := R.ws ++ [{ bk := k, b := pad x, ld := 64 }], fu := R.fu - 1, st := R.st + 1 }, 0)) := by
  have HM := Lib.hid hm
  have HL := Lib.hid hl
  clear hm hl
  have HD := Lib.hid hd
  clear hd
  have HB := Lib.hid hB
  obtain ⟨l, hl⟩ : ∃ l, x.length = l := ⟨_, rfl⟩
  have HLx := Lib.hid hl
  rw [hl] at h64 ⊢
  clear hB hl
  go_enter Try.func13, Try.ntmps13
  go_wp2_with (first | ((with_reducible refine at_slot 3 ?_); refine wpList_boxH rfl 35 _ rfl _ rfl ?_; intro W1 HW1; have DW1 := Lib.hid (show HdD W1 w.heap.size (rcs R A c) by rw [HW1.out]; exact hd_new w _ _); have BW1 := Lib.hid (show Below w.heap.size w W1 by rw [HW1.out]; exact new_below w _); have zW1 := Lib.hid (show W1.heap.size = w.heap.size + 1 by rw [HW1.out, new_size])) | ((with_reducible refine at_slot 6 ?_); refine wpList_allocH rfl 35 rfl _ zero_D ?_; intro W2 HW2; have DW2 := Lib.hid (show HdD W2 W1.heap.size (rcs zR none 0) by rw [HW2.out]; exact hd_new W1 _ _); have BW2 := Lib.hid (show Below W1.heap.size W1 W2 by rw [HW2.out]; exact new_below W1 _); have E2 := Lib.hid (DW1.out.keep (by have := zW1.out; omega) BW2.out); have zW2 := Lib.hid (show W2.heap.size = W1.heap.size + 1 by rw [HW2.out, new_size]); have c0 : W2.cell? ⟨w.heap.size, 0, none⟩ = some (.int .i64 (R.n : Int)) := E2.out.cell 0 _ (rcs_0 A c)) | ((with_reducible refine at_slot 24 ?_); go_must (refine wpList_buildH rfl 33 #[(0, .tmp 23), (2, .const (.int .i64 64))] rfl #[(0, .int .i64 k), (2, .int .i64 64)] ?hp (.agg (wcs { bk := k, b := zeros, ld := 64 }).toArray) ?hr ?_; (case hr => (exact build_W2 _ _)); (case hp => (first | rfl | (simp [Act.eval]; done) | (go_simp; done) | kernel_rfl)))) | ((with_reducible refine at_slot 8 ?_); refine wpList_allocH rfl 33 rfl _ zero_W ?_; intro W3 HW3; have DW3 := Lib.hid (show HdD W3 W2.heap.size (wcs { bk := 0, b := List.replicate 64 0, ld := 0 }) by rw [HW3.out]; exact hd_new W2 _ _); have BW3 := Lib.hid (show Below W2.heap.size W2 W3 by rw [HW3.out]; exact new_below W2 _); have zW3 := Lib.hid (show W3.heap.size = W2.heap.size + 1 by rw [HW3.out, new_size])) | ((with_reducible refine at_store 33 ?_); refine wpList_storeH rfl 33 _ _ rfl _ _ _ rfl rfl ?c4 ?c5 (all_oneCell_toArray (wcs_one _)) ?_; (case c4 => ((have t := DW3.out.th; rw [wcs_len List.length_replicate] at t; rw [wcs_size (x := { bk := k, b := zeros, ld := 64 }) List.length_replicate]; exact t))); (case c5 => (rw [size_W, wcs_size (x := { bk := k, b := zeros, ld := 64 }) List.length_replicate])); intro W4 HW4))
  have hzs := And.intro zW1.out (And.intro zW2.out zW3.out)
  have B3 := Lib.hid (show Below w.heap.size w W3 from (BW1.out.trans (BW2.out.mono (by omega))).trans (BW3.out.mono (by omega)))
  have F2 := Lib.hid (show HdD W3 W1.heap.size (rcs zR none 0) from DW2.out.keep (by omega) BW3.out)
  have F0 := Lib.hid (show HdD W3 w.heap.size (rcs R A c) from E2.out.keep (by omega) BW3.out)
  have HOut := Lib.hid (show OutG w W3 W2.heap.size (wcs { bk := k, b := x.take 0 ++ zeros.drop 0, ld := 64 }) W4 from (by
    rw [List.take_zero, List.drop_zero, List.nil_append]
    have e4 := HW4.out
    refine ⟨by rw [e4]; exact DW3.out.all (by rw [wcs_len List.length_replicate, wcs_len List.length_replicate]), by rw [e4, size_setCells], fun q hq => by rw [e4]; exact heap_setCells _ _ _ _ _ hq, by rw [e4]; exact below_setCells B3.out (by omega) _ _⟩))
  obtain ⟨gW, hgW⟩ : ∃ g, W2.heap.size = g := ⟨_, rfl⟩
  obtain ⟨gR, hgR⟩ : ∃ g, W1.heap.size = g := ⟨_, rfl⟩
  obtain ⟨g0, hg0⟩ : ∃ g, w.heap.size = g := ⟨_, rfl⟩
  rw [hgW] at HOut ⊢
  rw [hgR] at F2 ⊢
  rw [hg0] at F0 ⊢
  have HZ := Lib.hid (show g0 + 1 = gR ∧ gR + 1 = gW ∧ gW + 1 = W3.heap.size ∧ w.heap.size = g0 by omega)
  clear hzs hgW hgR hg0 zW1 zW2 zW3 BW1 BW2 BW3 DW1 DW2 DW3 HW1 HW2 HW3 HW4 E2 c0
  go_loopg [27] x.length (WrRel w W3 gW k x)
  case atStart => exact ⟨0, by omega, rfl, HOut.out⟩
  case round =>
    obtain ⟨j, hkj, rfl, hO⟩ := hrel
    have HO := Lib.hid hO
    clear hO HOut
    by_cases hlt : j < l
    · obtain ⟨b, off, rfl, hb, hc⟩ := bt_spot HB.out (by have := HLx.out; omega)
      have hjx : j < x.length := by have := HLx.out; omega
      have r0 : wr.cell? ⟨b, off + j, none⟩ = some (.int .u8 (x[j].toNat : Int)) := (HO.out.blw.cell (p := ⟨b, off + j, none⟩) hb).trans (hc j hjx)
      have hXl : (x.take j ++ zeros.drop j).length = 64 := by rw [List.length_append, List.length_take, List.length_drop]; simp only [zeros, List.length_replicate]; have := HLx.out; omega
      obtain ⟨old, ho⟩ : ∃ old, (wcs { bk := k, b := x.take j ++ zeros.drop j, ld := 64 })[1 + j]? = some old := ⟨_, List.getElem?_eq_getElem (by rw [wcs_len hXl]; omega)⟩
      have ro : wr.cell? ⟨gW, 1 + j, none⟩ = some old := HO.out.hd.cell (1 + j) _ ho
      have fo : wr.frozen? ⟨gW, 1 + j, none⟩ = false := HO.out.hd.2 (1 + j) (by rw [wcs_len hXl]; omega)
      have HST := Lib.hid (HO.out.put j (by rw [hXl]; omega) x[j] (by have := HZ.out; omega))
      rw [take_set2 (out := zeros) j List.length_replicate (by have := HLx.out; omega) hjx] at HST
      obtain ⟨bb, hbb⟩ : ∃ bb : Nat, x[j].toNat = bb := ⟨_, rfl⟩
      rw [hbb] at r0 HST
      clear hc ho hXl hbb
      go_wp2_with fail
      go_roundg (x.length - (j + 1))
      case rel => exact ⟨j + 1, by omega, by go_num, HST.out⟩
      case measure => omega
    · have hjl : j = l := by have := HLx.out; omega
      subst hjl
      have hO := HO.out
      rw [← HLx.out, take_zeros (by have := HLx.out; omega)] at hO
      have HP := Lib.hid hO
      have G0 := Lib.hid (show HdD wr g0 (rcs R A c) from F0.out.same (HO.out.oth g0 (by have := HZ.out; omega)))
      have G2 := Lib.hid (show HdD wr gR (rcs zR none 0) from F2.out.same (HO.out.oth gR (by have := HZ.out; omega)))
      have hpl : (pad x).length = 64 := pad_len (by have := HLx.out; omega)
      have HPl := Lib.hid hpl
      have c68 : wr.cell? ⟨g0, 68, none⟩ = some (.bool R.de) := G0.out.cell 68 _ (rcs_68 HL.out A c)
      have c69 : wr.cell? ⟨g0, 69, none⟩ = some (.int .i64 R.fu) := G0.out.cell 69 _ (rcs_69 HL.out A c)
      have f68 : wr.frozen? ⟨g0, 68, none⟩ = false := G0.out.2 68 (by rw [rcs_len HL.out]; omega)
      clear hO hpl HO F0 F2
      rw [HD.out] at c68
      have c70 : wr.cell? ⟨g0, 70, none⟩ = some (.int .i64 (R.st : Int)) := G0.out.cell 70 _ (rcs_70 HL.out A c)
      have f69 : wr.frozen? ⟨g0, 69, none⟩ = false := G0.out.2 69 (by rw [rcs_len HL.out]; omega)
      have f70 : wr.frozen? ⟨g0, 70, none⟩ = false := G0.out.2 70 (by rw [rcs_len HL.out]; omega)
      have hbl : ∀ b, b < wr.heap.size → b < (((wr.setCell ⟨g0, 69, none⟩ (.int .i64 (R.fu - 1))).setCell ⟨g0, 70, none⟩ (.int .i64 ((R.st : Int) + 1)))).heap.size := fun b hb => by simpa [World.setCell] using hb
      have hgz : g0 < wr.heap.size ∧ gR < wr.heap.size ∧ gW < wr.heap.size := by have := HZ.out; have := HP.out.sz; omega
      have HBl := Lib.hid (And.intro (hbl g0 hgz.1) (And.intro (hbl gR hgz.2.1) (hbl gW hgz.2.2)))
      have K0 := Lib.hid (show HdD (((wr.setCell ⟨g0, 69, none⟩ (.int .i64 (R.fu - 1))).setCell ⟨g0, 70, none⟩ (.int .i64 ((R.st : Int) + 1)))) g0 (rcs { R with fu := R.fu - 1, st := R.st + 1 } A c) from e70 (R := { R with fu := R.fu - 1 }) (R.st + 1) g0 HL.out (e69d (R.fu - 1) g0 HL.out G0.out))
      have K2 := Lib.hid (show HdD (((wr.setCell ⟨g0, 69, none⟩ (.int .i64 (R.fu - 1))).setCell ⟨g0, 70, none⟩ (.int .i64 ((R.st : Int) + 1)))) gR (rcs zR none 0) from (G2.out.apart (b := g0) (q := 69) (by have := HZ.out; omega) (.int .i64 (R.fu - 1))).apart (b := g0) (q := 70) (by have := HZ.out; omega) (.int .i64 ((R.st : Int) + 1)))
      have KP := Lib.hid (show HdD (((wr.setCell ⟨g0, 69, none⟩ (.int .i64 (R.fu - 1))).setCell ⟨g0, 70, none⟩ (.int .i64 ((R.st : Int) + 1)))) gW (wcs { bk := k, b := pad x, ld := 64 }) from (HP.out.hd.apart (b := g0) (q := 69) (by have := HZ.out; omega) (.int .i64 (R.fu - 1))).apart (b := g0) (q := 70) (by have := HZ.out; omega) (.int .i64 ((R.st : Int) + 1)))
      have KB := Lib.hid (show Below w.heap.size w (((wr.setCell ⟨g0, 69, none⟩ (.int .i64 (R.fu - 1))).setCell ⟨g0, 70, none⟩ (.int .i64 ((R.st : Int) + 1)))) from (HP.out.blw.setCell (p := ⟨g0, 69, none⟩) (show w.heap.size ≤ g0 by have := HZ.out; omega) _).setCell (p := ⟨g0, 70, none⟩) (show w.heap.size ≤ g0 by have := HZ.out; omega) _)
      clear hbl hgz
      go_wp2_with fail
      obtain ⟨V, HV⟩ : ∃ V, Hid (V = ((wr.setCell ⟨g0, 69, none⟩ (.int .i64 (R.fu - 1))).setCell ⟨g0, 70, none⟩ (.int .i64 ((R.st : Int) + 1)))) := ⟨_, rfl⟩
      rw [← HV.out] at HBl K0 K2 KP KB ⊢
      have HMV := Lib.hid (HM.out.keep KB.out)
      have hg0V : g0 < V.heap.size := HBl.out.1
      have kc1 : V.cell? ⟨g0, 1, none⟩ = some (.slice A R.ws.length c) := K0.out.cell 1 _ rfl
      have kf1 : V.frozen? ⟨g0, 1, none⟩ = false := K0.out.2 1 (by rw [rcs_len (R := { R with fu := R.fu - 1, st := R.st + 1 }) HL.out]; omega)
      have HRg := Lib.hid (fun W' (hW : Below V.heap.size V W') => rangeAt_of KP.out.1 (hW.block gW HBl.out.2.2))
      have hyy := And.intro HPl.out (show (64 : Nat) ≤ 64 from Nat.le_refl _)
      have HY := Lib.hid (show ({ bk := k, b := pad x, ld := 64 } : RW).b.length = 64 ∧ ({ bk := k, b := pad x, ld := 64 } : RW).ld ≤ 64 from hyy)
      have hn9 : R.ws.length ≤ 900000 := by omega
      have hn10 : R.ws.length ≤ 1000000 := by omega
      clear hyy HV HP G0 G2 c68 c69 c70 f68 f69 f70
      refine wp_region_held_drew (S := fun W' => W'.rangeAt gW 0 (wcs { bk := k, b := pad x, ld := 64 })) (by kernel_rfl) (HRg.out _ (drew_below V)) (fun hS => ?_)
      refine wpAnyH_take (i := 1) (v := .pointer (some ⟨g0, 1, none⟩)) rfl (by kernel_rfl) (by kernel_rfl) (by kernel_rfl) (fun _ _ _ h => h) (Or.inl ⟨by rfl, ?_⟩) hS ?_
      · intro w hSw
        go_simp
      simp only [Act.put, List.setIfInBounds_toArray, List.set_cons_zero, List.set_cons_succ]
      refine wpAnyH_take (i := 4) (v := .agg (wcs { bk := k, b := pad x, ld := 64 }).toArray) rfl (by kernel_rfl) (by kernel_rfl) (by kernel_rfl) (fun _ _ _ h => h) (yields_loadH (by rfl) 33 _ rfl _ _ rfl (wcs { bk := k, b := pad x, ld := 64 }) _ (fun _ h => h) Try.underlying33 rfl (by rw [size_W, wcs_len (x := { bk := k, b := pad x, ld := 64 }) HPl.out])) hS ?_
      simp only [Act.put, List.setIfInBounds_toArray, List.set_cons_zero, List.set_cons_succ]
      refine wpAnyH_ready (rs := [0, 2, 5]) (by kernel_rfl) (by simp) ?_
      refine AllReadyH.cons rfl (fun K hK => ?_) ?_
      · go_simp
        refine hK.out _ _ ?_ (fun hS => ?_)
        · exact HRg.out _ ((drew_below V).alloc (Nat.le_refl _) _)
        clear hK K
        try simp only [Act.put, List.setIfInBounds_toArray, List.set_cons_zero, List.set_cons_succ, new_size, drew_size]
        refine wpAnyH_ready (rs := [2, 5]) (by kernel_rfl) (by simp) ?_
        refine AllReadyH.cons rfl (fun K hK => ?_) ?_
        · go_simp
          refine hK.out _ _ ?_ (fun hS => ?_)
          · exact HRg.out _ ((drew_below V).alloc (Nat.le_refl _) _)
          clear hK K
          try simp only [Act.put, List.setIfInBounds_toArray, List.set_cons_zero, List.set_cons_succ, new_size, drew_size]
          refine wpAnyH_ready (rs := [3, 5]) (by kernel_rfl) (by simp) ?_
          refine AllReadyH.cons rfl (fun K hK => ?_) ?_
          · refine step_app rfl (.tmp 63) (.tmp 65) 30 rfl _ _ rfl rfl _ (appW_e1 HMV.out hn10 _) ?_
            intro v1 w1 hA1
            have HA1 := Lib.hid hA1
            clear hA1
            refine hK.out _ _ ?_ (fun hS => ?_)
            · exact HRg.out _ HA1.out.1.below
            clear hK K
            try simp only [Act.put, List.setIfInBounds_toArray, List.set_cons_zero, List.set_cons_succ, new_size, drew_size]
            refine wpAnyH_ready (rs := [5]) (by kernel_rfl) (by simp) ?_
            refine AllReadyH.cons rfl (fun K hK => ?_) ?_
            · refine step_slice rfl 30 1 _ rfl #[(0, .agg (wcs { bk := k, b := pad x, ld := 64 }).toArray)] (by first | rfl | (simp [Act.eval]; done) | (go_simp; done) | kernel_rfl) _ _ (slice_W { bk := k, b := pad x, ld := 64 } HPl.out _) ?_
              refine hK.out _ _ ?_ (fun hS => ?_)
              · exact HRg.out _ (HA1.out.1.below.alloc HA1.out.1.below.size _)
              clear hK K
              try simp only [Act.put, List.setIfInBounds_toArray, List.set_cons_zero, List.set_cons_succ, new_size, drew_size]
              refine wpAnyH_ready (rs := [6]) (by kernel_rfl) (by simp) ?_
              refine AllReadyH.cons rfl (fun K hK => ?_) ?_
              · refine step_app rfl (.tmp 66) (.tmp 68) 30 rfl _ _ rfl rfl _ (appW_2n HMV.out.ok HY.out HA1.out hn9 _) ?_
                rintro v2 w2 ⟨g2, cap2, rfl, hb2, hg2, hm2⟩
                have KK := Lib.hid (K0.out.keep hg0V hb2)
                have HA2 := Lib.hid hb2
                have KM := Lib.hid hm2
                have KG := Lib.hid hg2
                have k1c : w2.cell? ⟨g0, 1, none⟩ = some (.slice A R.ws.length c) := KK.out.cell 1 _ rfl
                have k1f : w2.frozen? ⟨g0, 1, none⟩ = false := KK.out.2 1 (by rw [rcs_len (R := { R with fu := R.fu - 1, st := R.st + 1 }) HL.out]; omega)
                clear hb2 hm2 hg2
                refine hK.out _ _ ?_ (fun hS => ?_)
                · exact HRg.out _ HA2.out
                clear hK K
                try simp only [Act.put, List.setIfInBounds_toArray, List.set_cons_zero, List.set_cons_succ, new_size, drew_size]
                refine wpAnyH_ready (rs := [7]) (by kernel_rfl) (by simp) ?_
                refine AllReadyH.cons rfl (fun K hK => ?_) ?_
                · go_simp
                  refine hK.out _ _ ?_ (fun hS => ?_)
                  · exact HRg.out _ HA2.out
                  clear hK K
                  try simp only [Act.put, List.setIfInBounds_toArray, List.set_cons_zero, List.set_cons_succ, new_size, drew_size]
                  refine wpAnyH_ready (rs := [8]) (by kernel_rfl) (by simp) ?_
                  refine AllReadyH.cons rfl (fun K hK => ?_) ?_
                  · go_simp
                    refine hK.out _ _ ?_ (fun hS => ?_)
                    · exact rangeAt_of (HRg.out _ HA2.out) (Below.heap_setCell _ _ _ _ (by have := HZ.out; show gW ≠ g0; omega))
                    clear hK K
                    try simp only [Act.put, List.setIfInBounds_toArray, List.set_cons_zero, List.set_cons_succ, new_size, drew_size]
                    refine wpAnyH_done (by kernel_rfl) ?_ _
                    have K1 := Lib.hid (show HdD (w2.setCell ⟨g0, 1, none⟩ (.slice (some ⟨g2, 0, none⟩) (R.ws.length + 1) cap2)) g0 (rcs { R with ws := R.ws ++ [{ bk := k, b := pad x, ld := 64 }], fu := R.fu - 1, st := R.st + 1 } (some ⟨g2, 0, none⟩) cap2) by have t := e1 (R := { R with fu := R.fu - 1, st := R.st + 1 }) (A' := (some ⟨g2, 0, none⟩)) (c' := cap2) (R.ws ++ [{ bk := k, b := pad x, ld := 64 }]) g0 HL.out KK.out; rw [List.length_append] at t; exact t)
                    have K3 := Lib.hid (show HdD (w2.setCell ⟨g0, 1, none⟩ (.slice (some ⟨g2, 0, none⟩) (R.ws.length + 1) cap2)) gR (rcs zR none 0) from (K2.out.keep HBl.out.2.1 HA2.out).apart (b := g0) (q := 1) (by have := HZ.out; omega) _)
                    have KE := Lib.hid (show Below w.heap.size w (w2.setCell ⟨g0, 1, none⟩ (.slice (some ⟨g2, 0, none⟩) (R.ws.length + 1) cap2)) from (KB.out.trans (HA2.out.mono KB.out.size)).setCell (p := ⟨g0, 1, none⟩) (show w.heap.size ≤ g0 by have := HZ.out; omega) _)
                    go_wp2_with (first | ((with_reducible refine at_slot 71 ?_); refine wpList_load_mid rfl 35 _ rfl _ _ rfl (rcs { R with ws := R.ws ++ [{ bk := k, b := pad x, ld := 64 }], fu := R.fu - 1, st := R.st + 1 } (some ⟨g2, 0, none⟩) cap2) _ K1.out.1 Try.underlying35 rfl ?_ ?_; (rw [size_D, rcs_len (R := { R with ws := R.ws ++ [{ bk := k, b := pad x, ld := 64 }], fu := R.fu - 1, st := R.st + 1 }) HL.out])) | ((with_reducible refine at_store 35 ?_); refine wpList_storeH rfl 35 _ _ rfl _ _ _ rfl rfl ?_ ?_ (all_oneCell_toArray (rcs_one _ _ _)) ?_; (focus ((have t := K3.out.th; rw [rcs_len (R := zR) rfl] at t; rw [rcs_size (R := { R with ws := R.ws ++ [{ bk := k, b := pad x, ld := 64 }], fu := R.fu - 1, st := R.st + 1 }) HL.out]; exact t))); (focus (rw [size_D, rcs_size (R := { R with ws := R.ws ++ [{ bk := k, b := pad x, ld := 64 }], fu := R.fu - 1, st := R.st + 1 }) HL.out])); intro W9 HW9))
                    have hB9 : Below w.heap.size w W9 := by
                      rw [HW9.out]
                      exact below_setCells KE.out (by have := HZ.out; omega) _ _
                    have hM9 : Rm W9 (some ⟨g2, 0, none⟩) cap2 (R.ws ++ [{ bk := k, b := pad x, ld := 64 }]) := KM.out.same (by rw [HW9.out, size_setCells]; simp [World.setCell]) (fun b hb hlt => by
                      have hbg : g2 = b := by injection hb with hb; injection hb
                      subst hbg
                      have h1 := KG.out
                      have h2 := HBl.out
                      rw [HW9.out, heap_setCells _ _ _ _ _ (by omega), Below.heap_setCell _ _ _ _ (show g2 ≠ g0 by omega)])
                    obtain ⟨h1, h2, h3⟩ := ref_end (R' := { R with ws := R.ws ++ [{ bk := k, b := pad x, ld := 64 }], fu := R.fu - 1, st := R.st + 1 }) (L := rcs zR none 0) K3.out (rcs_len (R := zR) rfl _ _) HL.out HW9.out KE.out (by have := HZ.out; omega) hM9
                    exact ret_cell_tmp _ gR rfl rfl h1 Try.underlying35 rfl (by rw [size_D, rcs_len (R := { R with ws := R.ws ++ [{ bk := k, b := pad x, ld := 64 }], fu := R.fu - 1, st := R.st + 1 }) HL.out]) rfl ⟨_, rfl, h2, h3⟩
                  exact AllReadyH.nil
                exact AllReadyH.nil
              exact AllReadyH.nil
            exact AllReadyH.nil
          refine AllReadyH.cons rfl (fun K hK => ?_) ?_
          · refine step_slice rfl 30 1 _ rfl #[(0, .agg (wcs { bk := k, b := pad x, ld := 64 }).toArray)] (by first | rfl | (simp [Act.eval]; done) | (go_simp; done) | kernel_rfl) _ _ (slice_W { bk := k, b := pad x, ld := 64 } HPl.out _) ?_
            refine hK.out _ _ ?_ (fun hS => ?_)
            · exact HRg.out _ (((drew_below V).alloc (Nat.le_refl _) _).alloc (by rw [new_size]; exact Nat.le_succ _) _)
            clear hK K
            try simp only [Act.put, List.setIfInBounds_toArray, List.set_cons_zero, List.set_cons_succ, new_size, drew_size]
            refine wpAnyH_ready (rs := [3]) (by kernel_rfl) (by simp) ?_
            refine AllReadyH.cons rfl (fun K hK => ?_) ?_
            · refine step_app rfl (.tmp 63) (.tmp 65) 30 rfl _ _ rfl rfl _ (appW_e2 HMV.out hn10 _) ?_
              intro v1 w1 hA1
              have HA1 := Lib.hid hA1.1
              have HX1 := Lib.hid hA1
              clear hA1
              refine hK.out _ _ ?_ (fun hS => ?_)
              · exact HRg.out _ HA1.out.1.below
              clear hK K
              try simp only [Act.put, List.setIfInBounds_toArray, List.set_cons_zero, List.set_cons_succ, new_size, drew_size]
              refine wpAnyH_ready (rs := [6]) (by kernel_rfl) (by simp) ?_
              refine AllReadyH.cons rfl (fun K hK => ?_) ?_
              · refine step_app rfl (.tmp 66) (.tmp 68) 30 rfl _ _ rfl rfl _ (appW_2 HMV.out.ok HY.out HX1.out hn9 _) ?_
                rintro v2 w2 ⟨g2, cap2, rfl, hb2, hg2, hm2⟩
                have KK := Lib.hid (K0.out.keep hg0V hb2)
                have HA2 := Lib.hid hb2
                have KM := Lib.hid hm2
                have KG := Lib.hid hg2
                have k1c : w2.cell? ⟨g0, 1, none⟩ = some (.slice A R.ws.length c) := KK.out.cell 1 _ rfl
                have k1f : w2.frozen? ⟨g0, 1, none⟩ = false := KK.out.2 1 (by rw [rcs_len (R := { R with fu := R.fu - 1, st := R.st + 1 }) HL.out]; omega)
                clear hb2 hm2 hg2
                refine hK.out _ _ ?_ (fun hS => ?_)
                · exact HRg.out _ HA2.out
                clear hK K
                try simp only [Act.put, List.setIfInBounds_toArray, List.set_cons_zero, List.set_cons_succ, new_size, drew_size]
                refine wpAnyH_ready (rs := [7]) (by kernel_rfl) (by simp) ?_
                refine AllReadyH.cons rfl (fun K hK => ?_) ?_
                · go_simp
                  refine hK.out _ _ ?_ (fun hS => ?_)
                  · exact HRg.out _ HA2.out
                  clear hK K
                  try simp only [Act.put, List.setIfInBounds_toArray, List.set_cons_zero, List.set_cons_succ, new_size, drew_size]
                  refine wpAnyH_ready (rs := [8]) (by kernel_rfl) (by simp) ?_
                  refine AllReadyH.cons rfl (fun K hK => ?_) ?_
                  · go_simp
                    refine hK.out _ _ ?_ (fun hS => ?_)
                    · exact rangeAt_of (HRg.out _ HA2.out) (Below.heap_setCell _ _ _ _ (by have := HZ.out; show gW ≠ g0; omega))
                    clear hK K
                    try simp only [Act.put, List.setIfInBounds_toArray, List.set_cons_zero, List.set_cons_succ, new_size, drew_size]
                    refine wpAnyH_done (by kernel_rfl) ?_ _
                    have K1 := Lib.hid (show HdD (w2.setCell ⟨g0, 1, none⟩ (.slice (some ⟨g2, 0, none⟩) (R.ws.length + 1) cap2)) g0 (rcs { R with ws := R.ws ++ [{ bk := k, b := pad x, ld := 64 }], fu := R.fu - 1, st := R.st + 1 } (some ⟨g2, 0, none⟩) cap2) by have t := e1 (R := { R with fu := R.fu - 1, st := R.st + 1 }) (A' := (some ⟨g2, 0, none⟩)) (c' := cap2) (R.ws ++ [{ bk := k, b := pad x, ld := 64 }]) g0 HL.out KK.out; rw [List.length_append] at t; exact t)
                    have K3 := Lib.hid (show HdD (w2.setCell ⟨g0, 1, none⟩ (.slice (some ⟨g2, 0, none⟩) (R.ws.length + 1) cap2)) gR (rcs zR none 0) from (K2.out.keep HBl.out.2.1 HA2.out).apart (b := g0) (q := 1) (by have := HZ.out; omega) _)
                    have KE := Lib.hid (show Below w.heap.size w (w2.setCell ⟨g0, 1, none⟩ (.slice (some ⟨g2, 0, none⟩) (R.ws.length + 1) cap2)) from (KB.out.trans (HA2.out.mono KB.out.size)).setCell (p := ⟨g0, 1, none⟩) (show w.heap.size ≤ g0 by have := HZ.out; omega) _)
                    go_wp2_with (first | ((with_reducible refine at_slot 71 ?_); refine wpList_load_mid rfl 35 _ rfl _ _ rfl (rcs { R with ws := R.ws ++ [{ bk := k, b := pad x, ld := 64 }], fu := R.fu - 1, st := R.st + 1 } (some ⟨g2, 0, none⟩) cap2) _ K1.out.1 Try.underlying35 rfl ?_ ?_; (rw [size_D, rcs_len (R := { R with ws := R.ws ++ [{ bk := k, b := pad x, ld := 64 }], fu := R.fu - 1, st := R.st + 1 }) HL.out])) | ((with_reducible refine at_store 35 ?_); refine wpList_storeH rfl 35 _ _ rfl _ _ _ rfl rfl ?_ ?_ (all_oneCell_toArray (rcs_one _ _ _)) ?_; (focus ((have t := K3.out.th; rw [rcs_len (R := zR) rfl] at t; rw [rcs_size (R := { R with ws := R.ws ++ [{ bk := k, b := pad x, ld := 64 }], fu := R.fu - 1, st := R.st + 1 }) HL.out]; exact t))); (focus (rw [size_D, rcs_size (R := { R with ws := R.ws ++ [{ bk := k, b := pad x, ld := 64 }], fu := R.fu - 1, st := R.st + 1 }) HL.out])); intro W9 HW9))
                    have hB9 : Below w.heap.size w W9 := by
                      rw [HW9.out]
                      exact below_setCells KE.out (by have := HZ.out; omega) _ _
                    have hM9 : Rm W9 (some ⟨g2, 0, none⟩) cap2 (R.ws ++ [{ bk := k, b := pad x, ld := 64 }]) := KM.out.same (by rw [HW9.out, size_setCells]; simp [World.setCell]) (fun b hb hlt => by
                      have hbg : g2 = b := by injection hb with hb; injection hb
                      subst hbg
                      have h1 := KG.out
                      have h2 := HBl.out
                      rw [HW9.out, heap_setCells _ _ _ _ _ (by omega), Below.heap_setCell _ _ _ _ (show g2 ≠ g0 by omega)])
                    obtain ⟨h1, h2, h3⟩ := ref_end (R' := { R with ws := R.ws ++ [{ bk := k, b := pad x, ld := 64 }], fu := R.fu - 1, st := R.st + 1 }) (L := rcs zR none 0) K3.out (rcs_len (R := zR) rfl _ _) HL.out HW9.out KE.out (by have := HZ.out; omega) hM9
                    exact ret_cell_tmp _ gR rfl rfl h1 Try.underlying35 rfl (by rw [size_D, rcs_len (R := { R with ws := R.ws ++ [{ bk := k, b := pad x, ld := 64 }], fu := R.fu - 1, st := R.st + 1 }) HL.out]) rfl ⟨_, rfl, h2, h3⟩
                  exact AllReadyH.nil
                exact AllReadyH.nil
              exact AllReadyH.nil
            exact AllReadyH.nil
          exact AllReadyH.nil
        refine AllReadyH.cons rfl (fun K hK => ?_) ?_
        · refine step_slice rfl 30 1 _ rfl #[(0, .agg (wcs { bk := k, b := pad x, ld := 64 }).toArray)] (by first | rfl | (simp [Act.eval]; done) | (go_simp; done) | kernel_rfl) _ _ (slice_W { bk := k, b := pad x, ld := 64 } HPl.out _) ?_
          refine hK.out _ _ ?_ (fun hS => ?_)
          · exact HRg.out _ (((drew_below V).alloc (Nat.le_refl _) _).alloc (by rw [new_size]; exact Nat.le_succ _) _)
          clear hK K
          try simp only [Act.put, List.setIfInBounds_toArray, List.set_cons_zero, List.set_cons_succ, new_size, drew_size]
          refine wpAnyH_ready (rs := [2]) (by kernel_rfl) (by simp) ?_
          refine AllReadyH.cons rfl (fun K hK => ?_) ?_
          · go_simp
            refine hK.out _ _ ?_ (fun hS => ?_)
            · exact HRg.out _ (((drew_below V).alloc (Nat.le_refl _) _).alloc (by rw [new_size]; exact Nat.le_succ _) _)
            clear hK K
            try simp only [Act.put, List.setIfInBounds_toArray, List.set_cons_zero, List.set_cons_succ, new_size, drew_size]
            refine wpAnyH_ready (rs := [3]) (by kernel_rfl) (by simp) ?_
            refine AllReadyH.cons rfl (fun K hK => ?_) ?_
            · refine step_app rfl (.tmp 63) (.tmp 65) 30 rfl _ _ rfl rfl _ (appW_e2 HMV.out hn10 _) ?_
              intro v1 w1 hA1
              have HA1 := Lib.hid hA1.1
              have HX1 := Lib.hid hA1
              clear hA1
              refine hK.out _ _ ?_ (fun hS => ?_)
              · exact HRg.out _ HA1.out.1.below
              clear hK K
              try simp only [Act.put, List.setIfInBounds_toArray, List.set_cons_zero, List.set_cons_succ, new_size, drew_size]
              refine wpAnyH_ready (rs := [6]) (by kernel_rfl) (by simp) ?_
              refine AllReadyH.cons rfl (fun K hK => ?_) ?_
              · refine step_app rfl (.tmp 66) (.tmp 68) 30 rfl _ _ rfl rfl _ (appW_2 HMV.out.ok HY.out HX1.out hn9 _) ?_
                rintro v2 w2 ⟨g2, cap2, rfl, hb2, hg2, hm2⟩
                have KK := Lib.hid (K0.out.keep hg0V hb2)
                have HA2 := Lib.hid hb2
                have KM := Lib.hid hm2
                have KG := Lib.hid hg2
                have k1c : w2.cell? ⟨g0, 1, none⟩ = some (.slice A R.ws.length c) := KK.out.cell 1 _ rfl
                have k1f : w2.frozen? ⟨g0, 1, none⟩ = false := KK.out.2 1 (by rw [rcs_len (R := { R with fu := R.fu - 1, st := R.st + 1 }) HL.out]; omega)
                clear hb2 hm2 hg2
                refine hK.out _ _ ?_ (fun hS => ?_)
                · exact HRg.out _ HA2.out
                clear hK K
                try simp only [Act.put, List.setIfInBounds_toArray, List.set_cons_zero, List.set_cons_succ, new_size, drew_size]
                refine wpAnyH_ready (rs := [7]) (by kernel_rfl) (by simp) ?_
                refine AllReadyH.cons rfl (fun K hK => ?_) ?_
                · go_simp
                  refine hK.out _ _ ?_ (fun hS => ?_)
                  · exact HRg.out _ HA2.out
                  clear hK K
                  try simp only [Act.put, List.setIfInBounds_toArray, List.set_cons_zero, List.set_cons_succ, new_size, drew_size]
                  refine wpAnyH_ready (rs := [8]) (by kernel_rfl) (by simp) ?_
                  refine AllReadyH.cons rfl (fun K hK => ?_) ?_
                  · go_simp
                    refine hK.out _ _ ?_ (fun hS => ?_)
                    · exact rangeAt_of (HRg.out _ HA2.out) (Below.heap_setCell _ _ _ _ (by have := HZ.out; show gW ≠ g0; omega))
                    clear hK K
                    try simp only [Act.put, List.setIfInBounds_toArray, List.set_cons_zero, List.set_cons_succ, new_size, drew_size]
                    refine wpAnyH_done (by kernel_rfl) ?_ _
                    have K1 := Lib.hid (show HdD (w2.setCell ⟨g0, 1, none⟩ (.slice (some ⟨g2, 0, none⟩) (R.ws.length + 1) cap2)) g0 (rcs { R with ws := R.ws ++ [{ bk := k, b := pad x, ld := 64 }], fu := R.fu - 1, st := R.st + 1 } (some ⟨g2, 0, none⟩) cap2) by have t := e1 (R := { R with fu := R.fu - 1, st := R.st + 1 }) (A' := (some ⟨g2, 0, none⟩)) (c' := cap2) (R.ws ++ [{ bk := k, b := pad x, ld := 64 }]) g0 HL.out KK.out; rw [List.length_append] at t; exact t)
                    have K3 := Lib.hid (show HdD (w2.setCell ⟨g0, 1, none⟩ (.slice (some ⟨g2, 0, none⟩) (R.ws.length + 1) cap2)) gR (rcs zR none 0) from (K2.out.keep HBl.out.2.1 HA2.out).apart (b := g0) (q := 1) (by have := HZ.out; omega) _)
                    have KE := Lib.hid (show Below w.heap.size w (w2.setCell ⟨g0, 1, none⟩ (.slice (some ⟨g2, 0, none⟩) (R.ws.length + 1) cap2)) from (KB.out.trans (HA2.out.mono KB.out.size)).setCell (p := ⟨g0, 1, none⟩) (show w.heap.size ≤ g0 by have := HZ.out; omega) _)
                    go_wp2_with (first | ((with_reducible refine at_slot 71 ?_); refine wpList_load_mid rfl 35 _ rfl _ _ rfl (rcs { R with ws := R.ws ++ [{ bk := k, b := pad x, ld := 64 }], fu := R.fu - 1, st := R.st + 1 } (some ⟨g2, 0, none⟩) cap2) _ K1.out.1 Try.underlying35 rfl ?_ ?_; (rw [size_D, rcs_len (R := { R with ws := R.ws ++ [{ bk := k, b := pad x, ld := 64 }], fu := R.fu - 1, st := R.st + 1 }) HL.out])) | ((with_reducible refine at_store 35 ?_); refine wpList_storeH rfl 35 _ _ rfl _ _ _ rfl rfl ?_ ?_ (all_oneCell_toArray (rcs_one _ _ _)) ?_; (focus ((have t := K3.out.th; rw [rcs_len (R := zR) rfl] at t; rw [rcs_size (R := { R with ws := R.ws ++ [{ bk := k, b := pad x, ld := 64 }], fu := R.fu - 1, st := R.st + 1 }) HL.out]; exact t))); (focus (rw [size_D, rcs_size (R := { R with ws := R.ws ++ [{ bk := k, b := pad x, ld := 64 }], fu := R.fu - 1, st := R.st + 1 }) HL.out])); intro W9 HW9))
                    have hB9 : Below w.heap.size w W9 := by
                      rw [HW9.out]
                      exact below_setCells KE.out (by have := HZ.out; omega) _ _
                    have hM9 : Rm W9 (some ⟨g2, 0, none⟩) cap2 (R.ws ++ [{ bk := k, b := pad x, ld := 64 }]) := KM.out.same (by rw [HW9.out, size_setCells]; simp [World.setCell]) (fun b hb hlt => by
                      have hbg : g2 = b := by injection hb with hb; injection hb
                      subst hbg
                      have h1 := KG.out
                      have h2 := HBl.out
                      rw [HW9.out, heap_setCells _ _ _ _ _ (by omega), Below.heap_setCell _ _ _ _ (show g2 ≠ g0 by omega)])
                    obtain ⟨h1, h2, h3⟩ := ref_end (R' := { R with ws := R.ws ++ [{ bk := k, b := pad x, ld := 64 }], fu := R.fu - 1, st := R.st + 1 }) (L := rcs zR none 0) K3.out (rcs_len (R := zR) rfl _ _) HL.out HW9.out KE.out (by have := HZ.out; omega) hM9
                    exact ret_cell_tmp _ gR rfl rfl h1 Try.underlying35 rfl (by rw [size_D, rcs_len (R := { R with ws := R.ws ++ [{ bk := k, b := pad x, ld := 64 }], fu := R.fu - 1, st := R.st + 1 }) HL.out]) rfl ⟨_, rfl, h2, h3⟩
                  exact AllReadyH.nil
                exact AllReadyH.nil
              exact AllReadyH.nil
            exact AllReadyH.nil
          exact AllReadyH.nil
        exact AllReadyH.nil
      refine AllReadyH.cons rfl (fun K hK => ?_) ?_
      · go_simp
        refine hK.out _ _ ?_ (fun hS => ?_)
        · exact HRg.out _ (drew_below V)
        clear hK K
        try simp only [Act.put, List.setIfInBounds_toArray, List.set_cons_zero, List.set_cons_succ, new_size, drew_size]
        refine wpAnyH_ready (rs := [0, 5]) (by kernel_rfl) (by simp) ?_
        refine AllReadyH.cons rfl (fun K hK => ?_) ?_
        · go_simp
          refine hK.out _ _ ?_ (fun hS => ?_)
          · exact HRg.out _ ((drew_below V).alloc (Nat.le_refl _) _)
          clear hK K
          try simp only [Act.put, List.setIfInBounds_toArray, List.set_cons_zero, List.set_cons_succ, new_size, drew_size]
          refine wpAnyH_ready (rs := [3, 5]) (by kernel_rfl) (by simp) ?_
          refine AllReadyH.cons rfl (fun K hK => ?_) ?_
          · refine step_app rfl (.tmp 63) (.tmp 65) 30 rfl _ _ rfl rfl _ (appW_e1 HMV.out hn10 _) ?_
            intro v1 w1 hA1
            have HA1 := Lib.hid hA1
            clear hA1
            refine hK.out _ _ ?_ (fun hS => ?_)
            · exact HRg.out _ HA1.out.1.below
            clear hK K
            try simp only [Act.put, List.setIfInBounds_toArray, List.set_cons_zero, List.set_cons_succ, new_size, drew_size]
            refine wpAnyH_ready (rs := [5]) (by kernel_rfl) (by simp) ?_
            refine AllReadyH.cons rfl (fun K hK => ?_) ?_
            · refine step_slice rfl 30 1 _ rfl #[(0, .agg (wcs { bk := k, b := pad x, ld := 64 }).toArray)] (by first | rfl | (simp [Act.eval]; done) | (go_simp; done) | kernel_rfl) _ _ (slice_W { bk := k, b := pad x, ld := 64 } HPl.out _) ?_
              refine hK.out _ _ ?_ (fun hS => ?_)
              · exact HRg.out _ (HA1.out.1.below.alloc HA1.out.1.below.size _)
              clear hK K
              try simp only [Act.put, List.setIfInBounds_toArray, List.set_cons_zero, List.set_cons_succ, new_size, drew_size]
              refine wpAnyH_ready (rs := [6]) (by kernel_rfl) (by simp) ?_
              refine AllReadyH.cons rfl (fun K hK => ?_) ?_
              · refine step_app rfl (.tmp 66) (.tmp 68) 30 rfl _ _ rfl rfl _ (appW_2n HMV.out.ok HY.out HA1.out hn9 _) ?_
                rintro v2 w2 ⟨g2, cap2, rfl, hb2, hg2, hm2⟩
                have KK := Lib.hid (K0.out.keep hg0V hb2)
                have HA2 := Lib.hid hb2
                have KM := Lib.hid hm2
                have KG := Lib.hid hg2
                have k1c : w2.cell? ⟨g0, 1, none⟩ = some (.slice A R.ws.length c) := KK.out.cell 1 _ rfl
                have k1f : w2.frozen? ⟨g0, 1, none⟩ = false := KK.out.2 1 (by rw [rcs_len (R := { R with fu := R.fu - 1, st := R.st + 1 }) HL.out]; omega)
                clear hb2 hm2 hg2
                refine hK.out _ _ ?_ (fun hS => ?_)
                · exact HRg.out _ HA2.out
                clear hK K
                try simp only [Act.put, List.setIfInBounds_toArray, List.set_cons_zero, List.set_cons_succ, new_size, drew_size]
                refine wpAnyH_ready (rs := [7]) (by kernel_rfl) (by simp) ?_
                refine AllReadyH.cons rfl (fun K hK => ?_) ?_
                · go_simp
                  refine hK.out _ _ ?_ (fun hS => ?_)
                  · exact HRg.out _ HA2.out
                  clear hK K
                  try simp only [Act.put, List.setIfInBounds_toArray, List.set_cons_zero, List.set_cons_succ, new_size, drew_size]
                  refine wpAnyH_ready (rs := [8]) (by kernel_rfl) (by simp) ?_
                  refine AllReadyH.cons rfl (fun K hK => ?_) ?_
                  · go_simp
                    refine hK.out _ _ ?_ (fun hS => ?_)
                    · exact rangeAt_of (HRg.out _ HA2.out) (Below.heap_setCell _ _ _ _ (by have := HZ.out; show gW ≠ g0; omega))
                    clear hK K
                    try simp only [Act.put, List.setIfInBounds_toArray, List.set_cons_zero, List.set_cons_succ, new_size, drew_size]
                    refine wpAnyH_done (by kernel_rfl) ?_ _
                    have K1 := Lib.hid (show HdD (w2.setCell ⟨g0, 1, none⟩ (.slice (some ⟨g2, 0, none⟩) (R.ws.length + 1) cap2)) g0 (rcs { R with ws := R.ws ++ [{ bk := k, b := pad x, ld := 64 }], fu := R.fu - 1, st := R.st + 1 } (some ⟨g2, 0, none⟩) cap2) by have t := e1 (R := { R with fu := R.fu - 1, st := R.st + 1 }) (A' := (some ⟨g2, 0, none⟩)) (c' := cap2) (R.ws ++ [{ bk := k, b := pad x, ld := 64 }]) g0 HL.out KK.out; rw [List.length_append] at t; exact t)
                    have K3 := Lib.hid (show HdD (w2.setCell ⟨g0, 1, none⟩ (.slice (some ⟨g2, 0, none⟩) (R.ws.length + 1) cap2)) gR (rcs zR none 0) from (K2.out.keep HBl.out.2.1 HA2.out).apart (b := g0) (q := 1) (by have := HZ.out; omega) _)
                    have KE := Lib.hid (show Below w.heap.size w (w2.setCell ⟨g0, 1, none⟩ (.slice (some ⟨g2, 0, none⟩) (R.ws.length + 1) cap2)) from (KB.out.trans (HA2.out.mono KB.out.size)).setCell (p := ⟨g0, 1, none⟩) (show w.heap.size ≤ g0 by have := HZ.out; omega) _)
                    go_wp2_with (first | ((with_reducible refine at_slot 71 ?_); refine wpList_load_mid rfl 35 _ rfl _ _ rfl (rcs { R with ws := R.ws ++ [{ bk := k, b := pad x, ld := 64 }], fu := R.fu - 1, st := R.st + 1 } (some ⟨g2, 0, none⟩) cap2) _ K1.out.1 Try.underlying35 rfl ?_ ?_; (rw [size_D, rcs_len (R := { R with ws := R.ws ++ [{ bk := k, b := pad x, ld := 64 }], fu := R.fu - 1, st := R.st + 1 }) HL.out])) | ((with_reducible refine at_store 35 ?_); refine wpList_storeH rfl 35 _ _ rfl _ _ _ rfl rfl ?_ ?_ (all_oneCell_toArray (rcs_one _ _ _)) ?_; (focus ((have t := K3.out.th; rw [rcs_len (R := zR) rfl] at t; rw [rcs_size (R := { R with ws := R.ws ++ [{ bk := k, b := pad x, ld := 64 }], fu := R.fu - 1, st := R.st + 1 }) HL.out]; exact t))); (focus (rw [size_D, rcs_size (R := { R with ws := R.ws ++ [{ bk := k, b := pad x, ld := 64 }], fu := R.fu - 1, st := R.st + 1 }) HL.out])); intro W9 HW9))
                    have hB9 : Below w.heap.size w W9 := by
                      rw [HW9.out]
                      exact below_setCells KE.out (by have := HZ.out; omega) _ _
                    have hM9 : Rm W9 (some ⟨g2, 0, none⟩) cap2 (R.ws ++ [{ bk := k, b := pad x, ld := 64 }]) := KM.out.same (by rw [HW9.out, size_setCells]; simp [World.setCell]) (fun b hb hlt => by
                      have hbg : g2 = b := by injection hb with hb; injection hb
                      subst hbg
                      have h1 := KG.out
                      have h2 := HBl.out
                      rw [HW9.out, heap_setCells _ _ _ _ _ (by omega), Below.heap_setCell _ _ _ _ (show g2 ≠ g0 by omega)])
                    obtain ⟨h1, h2, h3⟩ := ref_end (R' := { R with ws := R.ws ++ [{ bk := k, b := pad x, ld := 64 }], fu := R.fu - 1, st := R.st + 1 }) (L := rcs zR none 0) K3.out (rcs_len (R := zR) rfl _ _) HL.out HW9.out KE.out (by have := HZ.out; omega) hM9
                    exact ret_cell_tmp _ gR rfl rfl h1 Try.underlying35 rfl (by rw [size_D, rcs_len (R := { R with ws := R.ws ++ [{ bk := k, b := pad x, ld := 64 }], fu := R.fu - 1, st := R.st + 1 }) HL.out]) rfl ⟨_, rfl, h2, h3⟩
                  exact AllReadyH.nil
                exact AllReadyH.nil
              exact AllReadyH.nil
            exact AllReadyH.nil
          refine AllReadyH.cons rfl (fun K hK => ?_) ?_
          · refine step_slice rfl 30 1 _ rfl #[(0, .agg (wcs { bk := k, b := pad x, ld := 64 }).toArray)] (by first | rfl | (simp [Act.eval]; done) | (go_simp; done) | kernel_rfl) _ _ (slice_W { bk := k, b := pad x, ld := 64 } HPl.out _) ?_
            refine hK.out _ _ ?_ (fun hS => ?_)
            · exact HRg.out _ (((drew_below V).alloc (Nat.le_refl _) _).alloc (by rw [new_size]; exact Nat.le_succ _) _)
            clear hK K
            try simp only [Act.put, List.setIfInBounds_toArray, List.set_cons_zero, List.set_cons_succ, new_size, drew_size]
            refine wpAnyH_ready (rs := [3]) (by kernel_rfl) (by simp) ?_
            refine AllReadyH.cons rfl (fun K hK => ?_) ?_
            · refine step_app rfl (.tmp 63) (.tmp 65) 30 rfl _ _ rfl rfl _ (appW_e2 HMV.out hn10 _) ?_
              intro v1 w1 hA1
              have HA1 := Lib.hid hA1.1
              have HX1 := Lib.hid hA1
              clear hA1
              refine hK.out _ _ ?_ (fun hS => ?_)
              · exact HRg.out _ HA1.out.1.below
              clear hK K
              try simp only [Act.put, List.setIfInBounds_toArray, List.set_cons_zero, List.set_cons_succ, new_size, drew_size]
              refine wpAnyH_ready (rs := [6]) (by kernel_rfl) (by simp) ?_
              refine AllReadyH.cons rfl (fun K hK => ?_) ?_
              · refine step_app rfl (.tmp 66) (.tmp 68) 30 rfl _ _ rfl rfl _ (appW_2 HMV.out.ok HY.out HX1.out hn9 _) ?_
                rintro v2 w2 ⟨g2, cap2, rfl, hb2, hg2, hm2⟩
                have KK := Lib.hid (K0.out.keep hg0V hb2)
                have HA2 := Lib.hid hb2
                have KM := Lib.hid hm2
                have KG := Lib.hid hg2
                have k1c : w2.cell? ⟨g0, 1, none⟩ = some (.slice A R.ws.length c) := KK.out.cell 1 _ rfl
                have k1f : w2.frozen? ⟨g0, 1, none⟩ = false := KK.out.2 1 (by rw [rcs_len (R := { R with fu := R.fu - 1, st := R.st + 1 }) HL.out]; omega)
                clear hb2 hm2 hg2
                refine hK.out _ _ ?_ (fun hS => ?_)
                · exact HRg.out _ HA2.out
                clear hK K
                try simp only [Act.put, List.setIfInBounds_toArray, List.set_cons_zero, List.set_cons_succ, new_size, drew_size]
                refine wpAnyH_ready (rs := [7]) (by kernel_rfl) (by simp) ?_
                refine AllReadyH.cons rfl (fun K hK => ?_) ?_
                · go_simp
                  refine hK.out _ _ ?_ (fun hS => ?_)
                  · exact HRg.out _ HA2.out
                  clear hK K
                  try simp only [Act.put, List.setIfInBounds_toArray, List.set_cons_zero, List.set_cons_succ, new_size, drew_size]
                  refine wpAnyH_ready (rs := [8]) (by kernel_rfl) (by simp) ?_
                  refine AllReadyH.cons rfl (fun K hK => ?_) ?_
                  · go_simp
                    refine hK.out _ _ ?_ (fun hS => ?_)
                    · exact rangeAt_of (HRg.out _ HA2.out) (Below.heap_setCell _ _ _ _ (by have := HZ.out; show gW ≠ g0; omega))
                    clear hK K
                    try simp only [Act.put, List.setIfInBounds_toArray, List.set_cons_zero, List.set_cons_succ, new_size, drew_size]
                    refine wpAnyH_done (by kernel_rfl) ?_ _
                    have K1 := Lib.hid (show HdD (w2.setCell ⟨g0, 1, none⟩ (.slice (some ⟨g2, 0, none⟩) (R.ws.length + 1) cap2)) g0 (rcs { R with ws := R.ws ++ [{ bk := k, b := pad x, ld := 64 }], fu := R.fu - 1, st := R.st + 1 } (some ⟨g2, 0, none⟩) cap2) by have t := e1 (R := { R with fu := R.fu - 1, st := R.st + 1 }) (A' := (some ⟨g2, 0, none⟩)) (c' := cap2) (R.ws ++ [{ bk := k, b := pad x, ld := 64 }]) g0 HL.out KK.out; rw [List.length_append] at t; exact t)
                    have K3 := Lib.hid (show HdD (w2.setCell ⟨g0, 1, none⟩ (.slice (some ⟨g2, 0, none⟩) (R.ws.length + 1) cap2)) gR (rcs zR none 0) from (K2.out.keep HBl.out.2.1 HA2.out).apart (b := g0) (q := 1) (by have := HZ.out; omega) _)
                    have KE := Lib.hid (show Below w.heap.size w (w2.setCell ⟨g0, 1, none⟩ (.slice (some ⟨g2, 0, none⟩) (R.ws.length + 1) cap2)) from (KB.out.trans (HA2.out.mono KB.out.size)).setCell (p := ⟨g0, 1, none⟩) (show w.heap.size ≤ g0 by have := HZ.out; omega) _)
                    go_wp2_with (first | ((with_reducible refine at_slot 71 ?_); refine wpList_load_mid rfl 35 _ rfl _ _ rfl (rcs { R with ws := R.ws ++ [{ bk := k, b := pad x, ld := 64 }], fu := R.fu - 1, st := R.st + 1 } (some ⟨g2, 0, none⟩) cap2) _ K1.out.1 Try.underlying35 rfl ?_ ?_; (rw [size_D, rcs_len (R := { R with ws := R.ws ++ [{ bk := k, b := pad x, ld := 64 }], fu := R.fu - 1, st := R.st + 1 }) HL.out])) | ((with_reducible refine at_store 35 ?_); refine wpList_storeH rfl 35 _ _ rfl _ _ _ rfl rfl ?_ ?_ (all_oneCell_toArray (rcs_one _ _ _)) ?_; (focus ((have t := K3.out.th; rw [rcs_len (R := zR) rfl] at t; rw [rcs_size (R := { R with ws := R.ws ++ [{ bk := k, b := pad x, ld := 64 }], fu := R.fu - 1, st := R.st + 1 }) HL.out]; exact t))); (focus (rw [size_D, rcs_size (R := { R with ws := R.ws ++ [{ bk := k, b := pad x, ld := 64 }], fu := R.fu - 1, st := R.st + 1 }) HL.out])); intro W9 HW9))
                    have hB9 : Below w.heap.size w W9 := by
                      rw [HW9.out]
                      exact below_setCells KE.out (by have := HZ.out; omega) _ _
                    have hM9 : Rm W9 (some ⟨g2, 0, none⟩) cap2 (R.ws ++ [{ bk := k, b := pad x, ld := 64 }]) := KM.out.same (by rw [HW9.out, size_setCells]; simp [World.setCell]) (fun b hb hlt => by
                      have hbg : g2 = b := by injection hb with hb; injection hb
                      subst hbg
                      have h1 := KG.out
                      have h2 := HBl.out
                      rw [HW9.out, heap_setCells _ _ _ _ _ (by omega), Below.heap_setCell _ _ _ _ (show g2 ≠ g0 by omega)])
                    obtain ⟨h1, h2, h3⟩ := ref_end (R' := { R with ws := R.ws ++ [{ bk := k, b := pad x, ld := 64 }], fu := R.fu - 1, st := R.st + 1 }) (L := rcs zR none 0) K3.out (rcs_len (R := zR) rfl _ _) HL.out HW9.out KE.out (by have := HZ.out; omega) hM9
                    exact ret_cell_tmp _ gR rfl rfl h1 Try.underlying35 rfl (by rw [size_D, rcs_len (R := { R with ws := R.ws ++ [{ bk := k, b := pad x, ld := 64 }], fu := R.fu - 1, st := R.st + 1 }) HL.out]) rfl ⟨_, rfl, h2, h3⟩
                  exact AllReadyH.nil
                exact AllReadyH.nil
              exact AllReadyH.nil
            exact AllReadyH.nil
          exact AllReadyH.nil
        refine AllReadyH.cons rfl (fun K hK => ?_) ?_
        · refine step_slice rfl 30 1 _ rfl #[(0, .agg (wcs { bk := k, b := pad x, ld := 64 }).toArray)] (by first | rfl | (simp [Act.eval]; done) | (go_simp; done) | kernel_rfl) _ _ (slice_W { bk := k, b := pad x, ld := 64 } HPl.out _) ?_
          refine hK.out _ _ ?_ (fun hS => ?_)
          · exact HRg.out _ ((drew_below V).alloc (Nat.le_refl _) _)
          clear hK K
          try simp only [Act.put, List.setIfInBounds_toArray, List.set_cons_zero, List.set_cons_succ, new_size, drew_size]
          refine wpAnyH_ready (rs := [0]) (by kernel_rfl) (by simp) ?_
          refine AllReadyH.cons rfl (fun K hK => ?_) ?_
          · go_simp
            refine hK.out _ _ ?_ (fun hS => ?_)
            · exact HRg.out _ (((drew_below V).alloc (Nat.le_refl _) _).alloc (by rw [new_size]; exact Nat.le_succ _) _)
            clear hK K
            try simp only [Act.put, List.setIfInBounds_toArray, List.set_cons_zero, List.set_cons_succ, new_size, drew_size]
            refine wpAnyH_ready (rs := [3]) (by kernel_rfl) (by simp) ?_
            refine AllReadyH.cons rfl (fun K hK => ?_) ?_
            · refine step_app rfl (.tmp 63) (.tmp 65) 30 rfl _ _ rfl rfl _ (appW_e3 HMV.out hn10 _) ?_
              intro v1 w1 hA1
              have HA1 := Lib.hid hA1.1
              have HX1 := Lib.hid hA1
              clear hA1
              refine hK.out _ _ ?_ (fun hS => ?_)
              · exact HRg.out _ HA1.out.1.below
              clear hK K
              try simp only [Act.put, List.setIfInBounds_toArray, List.set_cons_zero, List.set_cons_succ, new_size, drew_size]
              refine wpAnyH_ready (rs := [6]) (by kernel_rfl) (by simp) ?_
              refine AllReadyH.cons rfl (fun K hK => ?_) ?_
              · refine step_app rfl (.tmp 66) (.tmp 68) 30 rfl _ _ rfl rfl _ (appW_2 HMV.out.ok HY.out HX1.out hn9 _) ?_
                rintro v2 w2 ⟨g2, cap2, rfl, hb2, hg2, hm2⟩
                have KK := Lib.hid (K0.out.keep hg0V hb2)
                have HA2 := Lib.hid hb2
                have KM := Lib.hid hm2
                have KG := Lib.hid hg2
                have k1c : w2.cell? ⟨g0, 1, none⟩ = some (.slice A R.ws.length c) := KK.out.cell 1 _ rfl
                have k1f : w2.frozen? ⟨g0, 1, none⟩ = false := KK.out.2 1 (by rw [rcs_len (R := { R with fu := R.fu - 1, st := R.st + 1 }) HL.out]; omega)
                clear hb2 hm2 hg2
                refine hK.out _ _ ?_ (fun hS => ?_)
                · exact HRg.out _ HA2.out
                clear hK K
                try simp only [Act.put, List.setIfInBounds_toArray, List.set_cons_zero, List.set_cons_succ, new_size, drew_size]
                refine wpAnyH_ready (rs := [7]) (by kernel_rfl) (by simp) ?_
                refine AllReadyH.cons rfl (fun K hK => ?_) ?_
                · go_simp
                  refine hK.out _ _ ?_ (fun hS => ?_)
                  · exact HRg.out _ HA2.out
                  clear hK K
                  try simp only [Act.put, List.setIfInBounds_toArray, List.set_cons_zero, List.set_cons_succ, new_size, drew_size]
                  refine wpAnyH_ready (rs := [8]) (by kernel_rfl) (by simp) ?_
                  refine AllReadyH.cons rfl (fun K hK => ?_) ?_
                  · go_simp
                    refine hK.out _ _ ?_ (fun hS => ?_)
                    · exact rangeAt_of (HRg.out _ HA2.out) (Below.heap_setCell _ _ _ _ (by have := HZ.out; show gW ≠ g0; omega))
                    clear hK K
                    try simp only [Act.put, List.setIfInBounds_toArray, List.set_cons_zero, List.set_cons_succ, new_size, drew_size]
                    refine wpAnyH_done (by kernel_rfl) ?_ _
                    have K1 := Lib.hid (show HdD (w2.setCell ⟨g0, 1, none⟩ (.slice (some ⟨g2, 0, none⟩) (R.ws.length + 1) cap2)) g0 (rcs { R with ws := R.ws ++ [{ bk := k, b := pad x, ld := 64 }], fu := R.fu - 1, st := R.st + 1 } (some ⟨g2, 0, none⟩) cap2) by have t := e1 (R := { R with fu := R.fu - 1, st := R.st + 1 }) (A' := (some ⟨g2, 0, none⟩)) (c' := cap2) (R.ws ++ [{ bk := k, b := pad x, ld := 64 }]) g0 HL.out KK.out; rw [List.length_append] at t; exact t)
                    have K3 := Lib.hid (show HdD (w2.setCell ⟨g0, 1, none⟩ (.slice (some ⟨g2, 0, none⟩) (R.ws.length + 1) cap2)) gR (rcs zR none 0) from (K2.out.keep HBl.out.2.1 HA2.out).apart (b := g0) (q := 1) (by have := HZ.out; omega) _)
                    have KE := Lib.hid (show Below w.heap.size w (w2.setCell ⟨g0, 1, none⟩ (.slice (some ⟨g2, 0, none⟩) (R.ws.length + 1) cap2)) from (KB.out.trans (HA2.out.mono KB.out.size)).setCell (p := ⟨g0, 1, none⟩) (show w.heap.size ≤ g0 by have := HZ.out; omega) _)
                    go_wp2_with (first | ((with_reducible refine at_slot 71 ?_); refine wpList_load_mid rfl 35 _ rfl _ _ rfl (rcs { R with ws := R.ws ++ [{ bk := k, b := pad x, ld := 64 }], fu := R.fu - 1, st := R.st + 1 } (some ⟨g2, 0, none⟩) cap2) _ K1.out.1 Try.underlying35 rfl ?_ ?_; (rw [size_D, rcs_len (R := { R with ws := R.ws ++ [{ bk := k, b := pad x, ld := 64 }], fu := R.fu - 1, st := R.st + 1 }) HL.out])) | ((with_reducible refine at_store 35 ?_); refine wpList_storeH rfl 35 _ _ rfl _ _ _ rfl rfl ?_ ?_ (all_oneCell_toArray (rcs_one _ _ _)) ?_; (focus ((have t := K3.out.th; rw [rcs_len (R := zR) rfl] at t; rw [rcs_size (R := { R with ws := R.ws ++ [{ bk := k, b := pad x, ld := 64 }], fu := R.fu - 1, st := R.st + 1 }) HL.out]; exact t))); (focus (rw [size_D, rcs_size (R := { R with ws := R.ws ++ [{ bk := k, b := pad x, ld := 64 }], fu := R.fu - 1, st := R.st + 1 }) HL.out])); intro W9 HW9))
                    have hB9 : Below w.heap.size w W9 := by
                      rw [HW9.out]
                      exact below_setCells KE.out (by have := HZ.out; omega) _ _
                    have hM9 : Rm W9 (some ⟨g2, 0, none⟩) cap2 (R.ws ++ [{ bk := k, b := pad x, ld := 64 }]) := KM.out.same (by rw [HW9.out, size_setCells]; simp [World.setCell]) (fun b hb hlt => by
                      have hbg : g2 = b := by injection hb with hb; injection hb
                      subst hbg
                      have h1 := KG.out
                      have h2 := HBl.out
                      rw [HW9.out, heap_setCells _ _ _ _ _ (by omega), Below.heap_setCell _ _ _ _ (show g2 ≠ g0 by omega)])
                    obtain ⟨h1, h2, h3⟩ := ref_end (R' := { R with ws := R.ws ++ [{ bk := k, b := pad x, ld := 64 }], fu := R.fu - 1, st := R.st + 1 }) (L := rcs zR none 0) K3.out (rcs_len (R := zR) rfl _ _) HL.out HW9.out KE.out (by have := HZ.out; omega) hM9
                    exact ret_cell_tmp _ gR rfl rfl h1 Try.underlying35 rfl (by rw [size_D, rcs_len (R := { R with ws := R.ws ++ [{ bk := k, b := pad x, ld := 64 }], fu := R.fu - 1, st := R.st + 1 }) HL.out]) rfl ⟨_, rfl, h2, h3⟩
                  exact AllReadyH.nil
                exact AllReadyH.nil
              exact AllReadyH.nil
            exact AllReadyH.nil
          exact AllReadyH.nil
        exact AllReadyH.nil
      refine AllReadyH.cons rfl (fun K hK => ?_) ?_
      · refine step_slice rfl 30 1 _ rfl #[(0, .agg (wcs { bk := k, b := pad x, ld := 64 }).toArray)] (by first | rfl | (simp [Act.eval]; done) | (go_simp; done) | kernel_rfl) _ _ (slice_W { bk := k, b := pad x, ld := 64 } HPl.out _) ?_
        refine hK.out _ _ ?_ (fun hS => ?_)
        · exact HRg.out _ ((drew_below V).alloc (Nat.le_refl _) _)
        clear hK K
        try simp only [Act.put, List.setIfInBounds_toArray, List.set_cons_zero, List.set_cons_succ, new_size, drew_size]
        refine wpAnyH_ready (rs := [0, 2]) (by kernel_rfl) (by simp) ?_
        refine AllReadyH.cons rfl (fun K hK => ?_) ?_
        · go_simp
          refine hK.out _ _ ?_ (fun hS => ?_)
          · exact HRg.out _ (((drew_below V).alloc (Nat.le_refl _) _).alloc (by rw [new_size]; exact Nat.le_succ _) _)
          clear hK K
          try simp only [Act.put, List.setIfInBounds_toArray, List.set_cons_zero, List.set_cons_succ, new_size, drew_size]
          refine wpAnyH_ready (rs := [2]) (by kernel_rfl) (by simp) ?_
          refine AllReadyH.cons rfl (fun K hK => ?_) ?_
          · go_simp
            refine hK.out _ _ ?_ (fun hS => ?_)
            · exact HRg.out _ (((drew_below V).alloc (Nat.le_refl _) _).alloc (by rw [new_size]; exact Nat.le_succ _) _)
            clear hK K
            try simp only [Act.put, List.setIfInBounds_toArray, List.set_cons_zero, List.set_cons_succ, new_size, drew_size]
            refine wpAnyH_ready (rs := [3]) (by kernel_rfl) (by simp) ?_
            refine AllReadyH.cons rfl (fun K hK => ?_) ?_
            · refine step_app rfl (.tmp 63) (.tmp 65) 30 rfl _ _ rfl rfl _ (appW_e3 HMV.out hn10 _) ?_
              intro v1 w1 hA1
              have HA1 := Lib.hid hA1.1
              have HX1 := Lib.hid hA1
              clear hA1
              refine hK.out _ _ ?_ (fun hS => ?_)
              · exact HRg.out _ HA1.out.1.below
              clear hK K
              try simp only [Act.put, List.setIfInBounds_toArray, List.set_cons_zero, List.set_cons_succ, new_size, drew_size]
              refine wpAnyH_ready (rs := [6]) (by kernel_rfl) (by simp) ?_
              refine AllReadyH.cons rfl (fun K hK => ?_) ?_
              · refine step_app rfl (.tmp 66) (.tmp 68) 30 rfl _ _ rfl rfl _ (appW_2 HMV.out.ok HY.out HX1.out hn9 _) ?_
                rintro v2 w2 ⟨g2, cap2, rfl, hb2, hg2, hm2⟩
                have KK := Lib.hid (K0.out.keep hg0V hb2)
                have HA2 := Lib.hid hb2
                have KM := Lib.hid hm2
                have KG := Lib.hid hg2
                have k1c : w2.cell? ⟨g0, 1, none⟩ = some (.slice A R.ws.length c) := KK.out.cell 1 _ rfl
                have k1f : w2.frozen? ⟨g0, 1, none⟩ = false := KK.out.2 1 (by rw [rcs_len (R := { R with fu := R.fu - 1, st := R.st + 1 }) HL.out]; omega)
                clear hb2 hm2 hg2
                refine hK.out _ _ ?_ (fun hS => ?_)
                · exact HRg.out _ HA2.out
                clear hK K
                try simp only [Act.put, List.setIfInBounds_toArray, List.set_cons_zero, List.set_cons_succ, new_size, drew_size]
                refine wpAnyH_ready (rs := [7]) (by kernel_rfl) (by simp) ?_
                refine AllReadyH.cons rfl (fun K hK => ?_) ?_
                · go_simp
                  refine hK.out _ _ ?_ (fun hS => ?_)
                  · exact HRg.out _ HA2.out
                  clear hK K
                  try simp only [Act.put, List.setIfInBounds_toArray, List.set_cons_zero, List.set_cons_succ, new_size, drew_size]
                  refine wpAnyH_ready (rs := [8]) (by kernel_rfl) (by simp) ?_
                  refine AllReadyH.cons rfl (fun K hK => ?_) ?_
                  · go_simp
                    refine hK.out _ _ ?_ (fun hS => ?_)
                    · exact rangeAt_of (HRg.out _ HA2.out) (Below.heap_setCell _ _ _ _ (by have := HZ.out; show gW ≠ g0; omega))
                    clear hK K
                    try simp only [Act.put, List.setIfInBounds_toArray, List.set_cons_zero, List.set_cons_succ, new_size, drew_size]
                    refine wpAnyH_done (by kernel_rfl) ?_ _
                    have K1 := Lib.hid (show HdD (w2.setCell ⟨g0, 1, none⟩ (.slice (some ⟨g2, 0, none⟩) (R.ws.length + 1) cap2)) g0 (rcs { R with ws := R.ws ++ [{ bk := k, b := pad x, ld := 64 }], fu := R.fu - 1, st := R.st + 1 } (some ⟨g2, 0, none⟩) cap2) by have t := e1 (R := { R with fu := R.fu - 1, st := R.st + 1 }) (A' := (some ⟨g2, 0, none⟩)) (c' := cap2) (R.ws ++ [{ bk := k, b := pad x, ld := 64 }]) g0 HL.out KK.out; rw [List.length_append] at t; exact t)
                    have K3 := Lib.hid (show HdD (w2.setCell ⟨g0, 1, none⟩ (.slice (some ⟨g2, 0, none⟩) (R.ws.length + 1) cap2)) gR (rcs zR none 0) from (K2.out.keep HBl.out.2.1 HA2.out).apart (b := g0) (q := 1) (by have := HZ.out; omega) _)
                    have KE := Lib.hid (show Below w.heap.size w (w2.setCell ⟨g0, 1, none⟩ (.slice (some ⟨g2, 0, none⟩) (R.ws.length + 1) cap2)) from (KB.out.trans (HA2.out.mono KB.out.size)).setCell (p := ⟨g0, 1, none⟩) (show w.heap.size ≤ g0 by have := HZ.out; omega) _)
                    go_wp2_with (first | ((with_reducible refine at_slot 71 ?_); refine wpList_load_mid rfl 35 _ rfl _ _ rfl (rcs { R with ws := R.ws ++ [{ bk := k, b := pad x, ld := 64 }], fu := R.fu - 1, st := R.st + 1 } (some ⟨g2, 0, none⟩) cap2) _ K1.out.1 Try.underlying35 rfl ?_ ?_; (rw [size_D, rcs_len (R := { R with ws := R.ws ++ [{ bk := k, b := pad x, ld := 64 }], fu := R.fu - 1, st := R.st + 1 }) HL.out])) | ((with_reducible refine at_store 35 ?_); refine wpList_storeH rfl 35 _ _ rfl _ _ _ rfl rfl ?_ ?_ (all_oneCell_toArray (rcs_one _ _ _)) ?_; (focus ((have t := K3.out.th; rw [rcs_len (R := zR) rfl] at t; rw [rcs_size (R := { R with ws := R.ws ++ [{ bk := k, b := pad x, ld := 64 }], fu := R.fu - 1, st := R.st + 1 }) HL.out]; exact t))); (focus (rw [size_D, rcs_size (R := { R with ws := R.ws ++ [{ bk := k, b := pad x, ld := 64 }], fu := R.fu - 1, st := R.st + 1 }) HL.out])); intro W9 HW9))
                    have hB9 : Below w.heap.size w W9 := by
                      rw [HW9.out]
                      exact below_setCells KE.out (by have := HZ.out; omega) _ _
                    have hM9 : Rm W9 (some ⟨g2, 0, none⟩) cap2 (R.ws ++ [{ bk := k, b := pad x, ld := 64 }]) := KM.out.same (by rw [HW9.out, size_setCells]; simp [World.setCell]) (fun b hb hlt => by
                      have hbg : g2 = b := by injection hb with hb; injection hb
                      subst hbg
                      have h1 := KG.out
                      have h2 := HBl.out
                      rw [HW9.out, heap_setCells _ _ _ _ _ (by omega), Below.heap_setCell _ _ _ _ (show g2 ≠ g0 by omega)])
                    obtain ⟨h1, h2, h3⟩ := ref_end (R' := { R with ws := R.ws ++ [{ bk := k, b := pad x, ld := 64 }], fu := R.fu - 1, st := R.st + 1 }) (L := rcs zR none 0) K3.out (rcs_len (R := zR) rfl _ _) HL.out HW9.out KE.out (by have := HZ.out; omega) hM9
                    exact ret_cell_tmp _ gR rfl rfl h1 Try.underlying35 rfl (by rw [size_D, rcs_len (R := { R with ws := R.ws ++ [{ bk := k, b := pad x, ld := 64 }], fu := R.fu - 1, st := R.st + 1 }) HL.out]) rfl ⟨_, rfl, h2, h3⟩
                  exact AllReadyH.nil
                exact AllReadyH.nil
              exact AllReadyH.nil
            exact AllReadyH.nil
          exact AllReadyH.nil
        refine AllReadyH.cons rfl (fun K hK => ?_) ?_
        · go_simp
          refine hK.out _ _ ?_ (fun hS => ?_)
          · exact HRg.out _ ((drew_below V).alloc (Nat.le_refl _) _)
          clear hK K
          try simp only [Act.put, List.setIfInBounds_toArray, List.set_cons_zero, List.set_cons_succ, new_size, drew_size]
          refine wpAnyH_ready (rs := [0]) (by kernel_rfl) (by simp) ?_
          refine AllReadyH.cons rfl (fun K hK => ?_) ?_
          · go_simp
            refine hK.out _ _ ?_ (fun hS => ?_)
            · exact HRg.out _ (((drew_below V).alloc (Nat.le_refl _) _).alloc (by rw [new_size]; exact Nat.le_succ _) _)
            clear hK K
            try simp only [Act.put, List.setIfInBounds_toArray, List.set_cons_zero, List.set_cons_succ, new_size, drew_size]
            refine wpAnyH_ready (rs := [3]) (by kernel_rfl) (by simp) ?_
            refine AllReadyH.cons rfl (fun K hK => ?_) ?_
            · refine step_app rfl (.tmp 63) (.tmp 65) 30 rfl _ _ rfl rfl _ (appW_e3 HMV.out hn10 _) ?_
              intro v1 w1 hA1
              have HA1 := Lib.hid hA1.1
              have HX1 := Lib.hid hA1
              clear hA1
              refine hK.out _ _ ?_ (fun hS => ?_)
              · exact HRg.out _ HA1.out.1.below
              clear hK K
              try simp only [Act.put, List.setIfInBounds_toArray, List.set_cons_zero, List.set_cons_succ, new_size, drew_size]
              refine wpAnyH_ready (rs := [6]) (by kernel_rfl) (by simp) ?_
              refine AllReadyH.cons rfl (fun K hK => ?_) ?_
              · refine step_app rfl (.tmp 66) (.tmp 68) 30 rfl _ _ rfl rfl _ (appW_2 HMV.out.ok HY.out HX1.out hn9 _) ?_
                rintro v2 w2 ⟨g2, cap2, rfl, hb2, hg2, hm2⟩
                have KK := Lib.hid (K0.out.keep hg0V hb2)
                have HA2 := Lib.hid hb2
                have KM := Lib.hid hm2
                have KG := Lib.hid hg2
                have k1c : w2.cell? ⟨g0, 1, none⟩ = some (.slice A R.ws.length c) := KK.out.cell 1 _ rfl
                have k1f : w2.frozen? ⟨g0, 1, none⟩ = false := KK.out.2 1 (by rw [rcs_len (R := { R with fu := R.fu - 1, st := R.st + 1 }) HL.out]; omega)
                clear hb2 hm2 hg2
                refine hK.out _ _ ?_ (fun hS => ?_)
                · exact HRg.out _ HA2.out
                clear hK K
                try simp only [Act.put, List.setIfInBounds_toArray, List.set_cons_zero, List.set_cons_succ, new_size, drew_size]
                refine wpAnyH_ready (rs := [7]) (by kernel_rfl) (by simp) ?_
                refine AllReadyH.cons rfl (fun K hK => ?_) ?_
                · go_simp
                  refine hK.out _ _ ?_ (fun hS => ?_)
                  · exact HRg.out _ HA2.out
                  clear hK K
                  try simp only [Act.put, List.setIfInBounds_toArray, List.set_cons_zero, List.set_cons_succ, new_size, drew_size]
                  refine wpAnyH_ready (rs := [8]) (by kernel_rfl) (by simp) ?_
                  refine AllReadyH.cons rfl (fun K hK => ?_) ?_
                  · go_simp
                    refine hK.out _ _ ?_ (fun hS => ?_)
                    · exact rangeAt_of (HRg.out _ HA2.out) (Below.heap_setCell _ _ _ _ (by have := HZ.out; show gW ≠ g0; omega))
                    clear hK K
                    try simp only [Act.put, List.setIfInBounds_toArray, List.set_cons_zero, List.set_cons_succ, new_size, drew_size]
                    refine wpAnyH_done (by kernel_rfl) ?_ _
                    have K1 := Lib.hid (show HdD (w2.setCell ⟨g0, 1, none⟩ (.slice (some ⟨g2, 0, none⟩) (R.ws.length + 1) cap2)) g0 (rcs { R with ws := R.ws ++ [{ bk := k, b := pad x, ld := 64 }], fu := R.fu - 1, st := R.st + 1 } (some ⟨g2, 0, none⟩) cap2) by have t := e1 (R := { R with fu := R.fu - 1, st := R.st + 1 }) (A' := (some ⟨g2, 0, none⟩)) (c' := cap2) (R.ws ++ [{ bk := k, b := pad x, ld := 64 }]) g0 HL.out KK.out; rw [List.length_append] at t; exact t)
                    have K3 := Lib.hid (show HdD (w2.setCell ⟨g0, 1, none⟩ (.slice (some ⟨g2, 0, none⟩) (R.ws.length + 1) cap2)) gR (rcs zR none 0) from (K2.out.keep HBl.out.2.1 HA2.out).apart (b := g0) (q := 1) (by have := HZ.out; omega) _)
                    have KE := Lib.hid (show Below w.heap.size w (w2.setCell ⟨g0, 1, none⟩ (.slice (some ⟨g2, 0, none⟩) (R.ws.length + 1) cap2)) from (KB.out.trans (HA2.out.mono KB.out.size)).setCell (p := ⟨g0, 1, none⟩) (show w.heap.size ≤ g0 by have := HZ.out; omega) _)
                    go_wp2_with (first | ((with_reducible refine at_slot 71 ?_); refine wpList_load_mid rfl 35 _ rfl _ _ rfl (rcs { R with ws := R.ws ++ [{ bk := k, b := pad x, ld := 64 }], fu := R.fu - 1, st := R.st + 1 } (some ⟨g2, 0, none⟩) cap2) _ K1.out.1 Try.underlying35 rfl ?_ ?_; (rw [size_D, rcs_len (R := { R with ws := R.ws ++ [{ bk := k, b := pad x, ld := 64 }], fu := R.fu - 1, st := R.st + 1 }) HL.out])) | ((with_reducible refine at_store 35 ?_); refine wpList_storeH rfl 35 _ _ rfl _ _ _ rfl rfl ?_ ?_ (all_oneCell_toArray (rcs_one _ _ _)) ?_; (focus ((have t := K3.out.th; rw [rcs_len (R := zR) rfl] at t; rw [rcs_size (R := { R with ws := R.ws ++ [{ bk := k, b := pad x, ld := 64 }], fu := R.fu - 1, st := R.st + 1 }) HL.out]; exact t))); (focus (rw [size_D, rcs_size (R := { R with ws := R.ws ++ [{ bk := k, b := pad x, ld := 64 }], fu := R.fu - 1, st := R.st + 1 }) HL.out])); intro W9 HW9))
                    have hB9 : Below w.heap.size w W9 := by
                      rw [HW9.out]
                      exact below_setCells KE.out (by have := HZ.out; omega) _ _
                    have hM9 : Rm W9 (some ⟨g2, 0, none⟩) cap2 (R.ws ++ [{ bk := k, b := pad x, ld := 64 }]) := KM.out.same (by rw [HW9.out, size_setCells]; simp [World.setCell]) (fun b hb hlt => by
                      have hbg : g2 = b := by injection hb with hb; injection hb
                      subst hbg
                      have h1 := KG.out
                      have h2 := HBl.out
                      rw [HW9.out, heap_setCells _ _ _ _ _ (by omega), Below.heap_setCell _ _ _ _ (show g2 ≠ g0 by omega)])
                    obtain ⟨h1, h2, h3⟩ := ref_end (R' := { R with ws := R.ws ++ [{ bk := k, b := pad x, ld := 64 }], fu := R.fu - 1, st := R.st + 1 }) (L := rcs zR none 0) K3.out (rcs_len (R := zR) rfl _ _) HL.out HW9.out KE.out (by have := HZ.out; omega) hM9
                    exact ret_cell_tmp _ gR rfl rfl h1 Try.underlying35 rfl (by rw [size_D, rcs_len (R := { R with ws := R.ws ++ [{ bk := k, b := pad x, ld := 64 }], fu := R.fu - 1, st := R.st + 1 }) HL.out]) rfl ⟨_, rfl, h2, h3⟩
                  exact AllReadyH.nil
                exact AllReadyH.nil
              exact AllReadyH.nil
            exact AllReadyH.nil
          exact AllReadyH.nil
        exact AllReadyH.nil
      exact AllReadyH.nil
set_option maxRecDepth 100000 in
set_option maxHeartbeats 4000000 in
theorem refWrite_none (w : World) (R : RD) (A : Option Addr) (c : Nat) (k : Int) (A' : Option Addr) (x : List UInt8) (c' : Nat) (hm : Rm w A c R.ws) (hl : R.rf.b.length = 64) (hk : ¬ k < 0) (hk2 : ¬ (R.n : Int) ≤ k) (h64 : ¬ (64 : Int) < (x.length : Int)) (hB : Bt w A' x) (hd : R.de = false) (hf : R.fu < 0) (hfb : -1 ≤ R.fu ∧ R.fu ≤ 9223372036854775807) (hst : R.st + 1 ≤ 1000000000) (hws : R.ws.length ≤ 900000) :
    Calls Try.prog 13 #[.agg (rcs R A c).toArray, .int .i64 k, .slice A' x.length c'] w (RAns w ({ R with ws := R.ws ++ [{ bk := k, b := pad x, ld := 64 }], st := R.st + 1 }, 0)) := by
  have HM := Lib.hid hm
  have HL := Lib.hid hl
  clear hm hl
  have HD := Lib.hid hd
  clear hd
  have HB := Lib.hid hB
  obtain ⟨l, hl⟩ : ∃ l, x.length = l := ⟨_, rfl⟩
  have HLx := Lib.hid hl
  rw [hl] at h64 ⊢
  clear hB hl
  go_enter Try.func13, Try.ntmps13
  go_wp2_with (first | ((with_reducible refine at_slot 3 ?_); refine wpList_boxH rfl 35 _ rfl _ rfl ?_; intro W1 HW1; have DW1 := Lib.hid (show HdD W1 w.heap.size (rcs R A c) by rw [HW1.out]; exact hd_new w _ _); have BW1 := Lib.hid (show Below w.heap.size w W1 by rw [HW1.out]; exact new_below w _); have zW1 := Lib.hid (show W1.heap.size = w.heap.size + 1 by rw [HW1.out, new_size])) | ((with_reducible refine at_slot 6 ?_); refine wpList_allocH rfl 35 rfl _ zero_D ?_; intro W2 HW2; have DW2 := Lib.hid (show HdD W2 W1.heap.size (rcs zR none 0) by rw [HW2.out]; exact hd_new W1 _ _); have BW2 := Lib.hid (show Below W1.heap.size W1 W2 by rw [HW2.out]; exact new_below W1 _); have E2 := Lib.hid (DW1.out.keep (by have := zW1.out; omega) BW2.out); have zW2 := Lib.hid (show W2.heap.size = W1.heap.size + 1 by rw [HW2.out, new_size]); have c0 : W2.cell? ⟨w.heap.size, 0, none⟩ = some (.int .i64 (R.n : Int)) := E2.out.cell 0 _ (rcs_0 A c)) | ((with_reducible refine at_slot 24 ?_); go_must (refine wpList_buildH rfl 33 #[(0, .tmp 23), (2, .const (.int .i64 64))] rfl #[(0, .int .i64 k), (2, .int .i64 64)] ?hp (.agg (wcs { bk := k, b := zeros, ld := 64 }).toArray) ?hr ?_; (case hr => (exact build_W2 _ _)); (case hp => (first | rfl | (simp [Act.eval]; done) | (go_simp; done) | kernel_rfl)))) | ((with_reducible refine at_slot 8 ?_); refine wpList_allocH rfl 33 rfl _ zero_W ?_; intro W3 HW3; have DW3 := Lib.hid (show HdD W3 W2.heap.size (wcs { bk := 0, b := List.replicate 64 0, ld := 0 }) by rw [HW3.out]; exact hd_new W2 _ _); have BW3 := Lib.hid (show Below W2.heap.size W2 W3 by rw [HW3.out]; exact new_below W2 _); have zW3 := Lib.hid (show W3.heap.size = W2.heap.size + 1 by rw [HW3.out, new_size])) | ((with_reducible refine at_store 33 ?_); refine wpList_storeH rfl 33 _ _ rfl _ _ _ rfl rfl ?c4 ?c5 (all_oneCell_toArray (wcs_one _)) ?_; (case c4 => ((have t := DW3.out.th; rw [wcs_len List.length_replicate] at t; rw [wcs_size (x := { bk := k, b := zeros, ld := 64 }) List.length_replicate]; exact t))); (case c5 => (rw [size_W, wcs_size (x := { bk := k, b := zeros, ld := 64 }) List.length_replicate])); intro W4 HW4))
  have hzs := And.intro zW1.out (And.intro zW2.out zW3.out)
  have B3 := Lib.hid (show Below w.heap.size w W3 from (BW1.out.trans (BW2.out.mono (by omega))).trans (BW3.out.mono (by omega)))
  have F2 := Lib.hid (show HdD W3 W1.heap.size (rcs zR none 0) from DW2.out.keep (by omega) BW3.out)
  have F0 := Lib.hid (show HdD W3 w.heap.size (rcs R A c) from E2.out.keep (by omega) BW3.out)
  have HOut := Lib.hid (show OutG w W3 W2.heap.size (wcs { bk := k, b := x.take 0 ++ zeros.drop 0, ld := 64 }) W4 from (by
    rw [List.take_zero, List.drop_zero, List.nil_append]
    have e4 := HW4.out
    refine ⟨by rw [e4]; exact DW3.out.all (by rw [wcs_len List.length_replicate, wcs_len List.length_replicate]), by rw [e4, size_setCells], fun q hq => by rw [e4]; exact heap_setCells _ _ _ _ _ hq, by rw [e4]; exact below_setCells B3.out (by omega) _ _⟩))
  obtain ⟨gW, hgW⟩ : ∃ g, W2.heap.size = g := ⟨_, rfl⟩
  obtain ⟨gR, hgR⟩ : ∃ g, W1.heap.size = g := ⟨_, rfl⟩
  obtain ⟨g0, hg0⟩ : ∃ g, w.heap.size = g := ⟨_, rfl⟩
  rw [hgW] at HOut ⊢
  rw [hgR] at F2 ⊢
  rw [hg0] at F0 ⊢
  have HZ := Lib.hid (show g0 + 1 = gR ∧ gR + 1 = gW ∧ gW + 1 = W3.heap.size ∧ w.heap.size = g0 by omega)
  clear hzs hgW hgR hg0 zW1 zW2 zW3 BW1 BW2 BW3 DW1 DW2 DW3 HW1 HW2 HW3 HW4 E2 c0
  go_loopg [27] x.length (WrRel w W3 gW k x)
  case atStart => exact ⟨0, by omega, rfl, HOut.out⟩
  case round =>
    obtain ⟨j, hkj, rfl, hO⟩ := hrel
    have HO := Lib.hid hO
    clear hO HOut
    by_cases hlt : j < l
    · obtain ⟨b, off, rfl, hb, hc⟩ := bt_spot HB.out (by have := HLx.out; omega)
      have hjx : j < x.length := by have := HLx.out; omega
      have r0 : wr.cell? ⟨b, off + j, none⟩ = some (.int .u8 (x[j].toNat : Int)) := (HO.out.blw.cell (p := ⟨b, off + j, none⟩) hb).trans (hc j hjx)
      have hXl : (x.take j ++ zeros.drop j).length = 64 := by rw [List.length_append, List.length_take, List.length_drop]; simp only [zeros, List.length_replicate]; have := HLx.out; omega
      obtain ⟨old, ho⟩ : ∃ old, (wcs { bk := k, b := x.take j ++ zeros.drop j, ld := 64 })[1 + j]? = some old := ⟨_, List.getElem?_eq_getElem (by rw [wcs_len hXl]; omega)⟩
      have ro : wr.cell? ⟨gW, 1 + j, none⟩ = some old := HO.out.hd.cell (1 + j) _ ho
      have fo : wr.frozen? ⟨gW, 1 + j, none⟩ = false := HO.out.hd.2 (1 + j) (by rw [wcs_len hXl]; omega)
      have HST := Lib.hid (HO.out.put j (by rw [hXl]; omega) x[j] (by have := HZ.out; omega))
      rw [take_set2 (out := zeros) j List.length_replicate (by have := HLx.out; omega) hjx] at HST
      obtain ⟨bb, hbb⟩ : ∃ bb : Nat, x[j].toNat = bb := ⟨_, rfl⟩
      rw [hbb] at r0 HST
      clear hc ho hXl hbb
      go_wp2_with fail
      go_roundg (x.length - (j + 1))
      case rel => exact ⟨j + 1, by omega, by go_num, HST.out⟩
      case measure => omega
    · have hjl : j = l := by have := HLx.out; omega
      subst hjl
      have hO := HO.out
      rw [← HLx.out, take_zeros (by have := HLx.out; omega)] at hO
      have HP := Lib.hid hO
      have G0 := Lib.hid (show HdD wr g0 (rcs R A c) from F0.out.same (HO.out.oth g0 (by have := HZ.out; omega)))
      have G2 := Lib.hid (show HdD wr gR (rcs zR none 0) from F2.out.same (HO.out.oth gR (by have := HZ.out; omega)))
      have hpl : (pad x).length = 64 := pad_len (by have := HLx.out; omega)
      have HPl := Lib.hid hpl
      have c68 : wr.cell? ⟨g0, 68, none⟩ = some (.bool R.de) := G0.out.cell 68 _ (rcs_68 HL.out A c)
      have c69 : wr.cell? ⟨g0, 69, none⟩ = some (.int .i64 R.fu) := G0.out.cell 69 _ (rcs_69 HL.out A c)
      have f68 : wr.frozen? ⟨g0, 68, none⟩ = false := G0.out.2 68 (by rw [rcs_len HL.out]; omega)
      clear hO hpl HO F0 F2
      rw [HD.out] at c68
      have c70 : wr.cell? ⟨g0, 70, none⟩ = some (.int .i64 (R.st : Int)) := G0.out.cell 70 _ (rcs_70 HL.out A c)
      have f69 : wr.frozen? ⟨g0, 69, none⟩ = false := G0.out.2 69 (by rw [rcs_len HL.out]; omega)
      have f70 : wr.frozen? ⟨g0, 70, none⟩ = false := G0.out.2 70 (by rw [rcs_len HL.out]; omega)
      have hbl : ∀ b, b < wr.heap.size → b < ((wr.setCell ⟨g0, 70, none⟩ (.int .i64 ((R.st : Int) + 1)))).heap.size := fun b hb => by simpa [World.setCell] using hb
      have hgz : g0 < wr.heap.size ∧ gR < wr.heap.size ∧ gW < wr.heap.size := by have := HZ.out; have := HP.out.sz; omega
      have HBl := Lib.hid (And.intro (hbl g0 hgz.1) (And.intro (hbl gR hgz.2.1) (hbl gW hgz.2.2)))
      have K0 := Lib.hid (show HdD ((wr.setCell ⟨g0, 70, none⟩ (.int .i64 ((R.st : Int) + 1)))) g0 (rcs { R with st := R.st + 1 } A c) from e70 (R.st + 1) g0 HL.out G0.out)
      have K2 := Lib.hid (show HdD ((wr.setCell ⟨g0, 70, none⟩ (.int .i64 ((R.st : Int) + 1)))) gR (rcs zR none 0) from G2.out.apart (b := g0) (q := 70) (by have := HZ.out; omega) (.int .i64 ((R.st : Int) + 1)))
      have KP := Lib.hid (show HdD ((wr.setCell ⟨g0, 70, none⟩ (.int .i64 ((R.st : Int) + 1)))) gW (wcs { bk := k, b := pad x, ld := 64 }) from HP.out.hd.apart (b := g0) (q := 70) (by have := HZ.out; omega) (.int .i64 ((R.st : Int) + 1)))
      have KB := Lib.hid (show Below w.heap.size w ((wr.setCell ⟨g0, 70, none⟩ (.int .i64 ((R.st : Int) + 1)))) from HP.out.blw.setCell (p := ⟨g0, 70, none⟩) (show w.heap.size ≤ g0 by have := HZ.out; omega) _)
      clear hbl hgz
      go_wp2_with fail
      obtain ⟨V, HV⟩ : ∃ V, Hid (V = (wr.setCell ⟨g0, 70, none⟩ (.int .i64 ((R.st : Int) + 1)))) := ⟨_, rfl⟩
      rw [← HV.out] at HBl K0 K2 KP KB ⊢
      have HMV := Lib.hid (HM.out.keep KB.out)
      have hg0V : g0 < V.heap.size := HBl.out.1
      have kc1 : V.cell? ⟨g0, 1, none⟩ = some (.slice A R.ws.length c) := K0.out.cell 1 _ rfl
      have kf1 : V.frozen? ⟨g0, 1, none⟩ = false := K0.out.2 1 (by rw [rcs_len (R := { R with st := R.st + 1 }) HL.out]; omega)
      have HRg := Lib.hid (fun W' (hW : Below V.heap.size V W') => rangeAt_of KP.out.1 (hW.block gW HBl.out.2.2))
      have hyy := And.intro HPl.out (show (64 : Nat) ≤ 64 from Nat.le_refl _)
      have HY := Lib.hid (show ({ bk := k, b := pad x, ld := 64 } : RW).b.length = 64 ∧ ({ bk := k, b := pad x, ld := 64 } : RW).ld ≤ 64 from hyy)
      have hn9 : R.ws.length ≤ 900000 := by omega
      have hn10 : R.ws.length ≤ 1000000 := by omega
      clear hyy HV HP G0 G2 c68 c69 c70 f68 f69 f70
      refine wp_region_held_drew (S := fun W' => W'.rangeAt gW 0 (wcs { bk := k, b := pad x, ld := 64 })) (by kernel_rfl) (HRg.out _ (drew_below V)) (fun hS => ?_)
      refine wpAnyH_take (i := 1) (v := .pointer (some ⟨g0, 1, none⟩)) rfl (by kernel_rfl) (by kernel_rfl) (by kernel_rfl) (fun _ _ _ h => h) (Or.inl ⟨by rfl, ?_⟩) hS ?_
      · intro w hSw
        go_simp
      simp only [Act.put, List.setIfInBounds_toArray, List.set_cons_zero, List.set_cons_succ]
      refine wpAnyH_take (i := 4) (v := .agg (wcs { bk := k, b := pad x, ld := 64 }).toArray) rfl (by kernel_rfl) (by kernel_rfl) (by kernel_rfl) (fun _ _ _ h => h) (yields_loadH (by rfl) 33 _ rfl _ _ rfl (wcs { bk := k, b := pad x, ld := 64 }) _ (fun _ h => h) Try.underlying33 rfl (by rw [size_W, wcs_len (x := { bk := k, b := pad x, ld := 64 }) HPl.out])) hS ?_
      simp only [Act.put, List.setIfInBounds_toArray, List.set_cons_zero, List.set_cons_succ]
      refine wpAnyH_ready (rs := [0, 2, 5]) (by kernel_rfl) (by simp) ?_
      refine AllReadyH.cons rfl (fun K hK => ?_) ?_
      · go_simp
        refine hK.out _ _ ?_ (fun hS => ?_)
        · exact HRg.out _ ((drew_below V).alloc (Nat.le_refl _) _)
        clear hK K
        try simp only [Act.put, List.setIfInBounds_toArray, List.set_cons_zero, List.set_cons_succ, new_size, drew_size]
        refine wpAnyH_ready (rs := [2, 5]) (by kernel_rfl) (by simp) ?_
        refine AllReadyH.cons rfl (fun K hK => ?_) ?_
        · go_simp
          refine hK.out _ _ ?_ (fun hS => ?_)
          · exact HRg.out _ ((drew_below V).alloc (Nat.le_refl _) _)
          clear hK K
          try simp only [Act.put, List.setIfInBounds_toArray, List.set_cons_zero, List.set_cons_succ, new_size, drew_size]
          refine wpAnyH_ready (rs := [3, 5]) (by kernel_rfl) (by simp) ?_
          refine AllReadyH.cons rfl (fun K hK => ?_) ?_
          · refine step_app rfl (.tmp 63) (.tmp 65) 30 rfl _ _ rfl rfl _ (appW_e1 HMV.out hn10 _) ?_
            intro v1 w1 hA1
            have HA1 := Lib.hid hA1
            clear hA1
            refine hK.out _ _ ?_ (fun hS => ?_)
            · exact HRg.out _ HA1.out.1.below
            clear hK K
            try simp only [Act.put, List.setIfInBounds_toArray, List.set_cons_zero, List.set_cons_succ, new_size, drew_size]
            refine wpAnyH_ready (rs := [5]) (by kernel_rfl) (by simp) ?_
            refine AllReadyH.cons rfl (fun K hK => ?_) ?_
            · refine step_slice rfl 30 1 _ rfl #[(0, .agg (wcs { bk := k, b := pad x, ld := 64 }).toArray)] (by first | rfl | (simp [Act.eval]; done) | (go_simp; done) | kernel_rfl) _ _ (slice_W { bk := k, b := pad x, ld := 64 } HPl.out _) ?_
              refine hK.out _ _ ?_ (fun hS => ?_)
              · exact HRg.out _ (HA1.out.1.below.alloc HA1.out.1.below.size _)
              clear hK K
              try simp only [Act.put, List.setIfInBounds_toArray, List.set_cons_zero, List.set_cons_succ, new_size, drew_size]
              refine wpAnyH_ready (rs := [6]) (by kernel_rfl) (by simp) ?_
              refine AllReadyH.cons rfl (fun K hK => ?_) ?_
              · refine step_app rfl (.tmp 66) (.tmp 68) 30 rfl _ _ rfl rfl _ (appW_2n HMV.out.ok HY.out HA1.out hn9 _) ?_
                rintro v2 w2 ⟨g2, cap2, rfl, hb2, hg2, hm2⟩
                have KK := Lib.hid (K0.out.keep hg0V hb2)
                have HA2 := Lib.hid hb2
                have KM := Lib.hid hm2
                have KG := Lib.hid hg2
                have k1c : w2.cell? ⟨g0, 1, none⟩ = some (.slice A R.ws.length c) := KK.out.cell 1 _ rfl
                have k1f : w2.frozen? ⟨g0, 1, none⟩ = false := KK.out.2 1 (by rw [rcs_len (R := { R with st := R.st + 1 }) HL.out]; omega)
                clear hb2 hm2 hg2
                refine hK.out _ _ ?_ (fun hS => ?_)
                · exact HRg.out _ HA2.out
                clear hK K
                try simp only [Act.put, List.setIfInBounds_toArray, List.set_cons_zero, List.set_cons_succ, new_size, drew_size]
                refine wpAnyH_ready (rs := [7]) (by kernel_rfl) (by simp) ?_
                refine AllReadyH.cons rfl (fun K hK => ?_) ?_
                · go_simp
                  refine hK.out _ _ ?_ (fun hS => ?_)
                  · exact HRg.out _ HA2.out
                  clear hK K
                  try simp only [Act.put, List.setIfInBounds_toArray, List.set_cons_zero, List.set_cons_succ, new_size, drew_size]
                  refine wpAnyH_ready (rs := [8]) (by kernel_rfl) (by simp) ?_
                  refine AllReadyH.cons rfl (fun K hK => ?_) ?_
                  · go_simp
                    refine hK.out _ _ ?_ (fun hS => ?_)
                    · exact rangeAt_of (HRg.out _ HA2.out) (Below.heap_setCell _ _ _ _ (by have := HZ.out; show gW ≠ g0; omega))
                    clear hK K
                    try simp only [Act.put, List.setIfInBounds_toArray, List.set_cons_zero, List.set_cons_succ, new_size, drew_size]
                    refine wpAnyH_done (by kernel_rfl) ?_ _
                    have K1 := Lib.hid (show HdD (w2.setCell ⟨g0, 1, none⟩ (.slice (some ⟨g2, 0, none⟩) (R.ws.length + 1) cap2)) g0 (rcs { R with ws := R.ws ++ [{ bk := k, b := pad x, ld := 64 }], st := R.st + 1 } (some ⟨g2, 0, none⟩) cap2) by have t := e1 (R := { R with st := R.st + 1 }) (A' := (some ⟨g2, 0, none⟩)) (c' := cap2) (R.ws ++ [{ bk := k, b := pad x, ld := 64 }]) g0 HL.out KK.out; rw [List.length_append] at t; exact t)
                    have K3 := Lib.hid (show HdD (w2.setCell ⟨g0, 1, none⟩ (.slice (some ⟨g2, 0, none⟩) (R.ws.length + 1) cap2)) gR (rcs zR none 0) from (K2.out.keep HBl.out.2.1 HA2.out).apart (b := g0) (q := 1) (by have := HZ.out; omega) _)
                    have KE := Lib.hid (show Below w.heap.size w (w2.setCell ⟨g0, 1, none⟩ (.slice (some ⟨g2, 0, none⟩) (R.ws.length + 1) cap2)) from (KB.out.trans (HA2.out.mono KB.out.size)).setCell (p := ⟨g0, 1, none⟩) (show w.heap.size ≤ g0 by have := HZ.out; omega) _)
                    go_wp2_with (first | ((with_reducible refine at_slot 71 ?_); refine wpList_load_mid rfl 35 _ rfl _ _ rfl (rcs { R with ws := R.ws ++ [{ bk := k, b := pad x, ld := 64 }], st := R.st + 1 } (some ⟨g2, 0, none⟩) cap2) _ K1.out.1 Try.underlying35 rfl ?_ ?_; (rw [size_D, rcs_len (R := { R with ws := R.ws ++ [{ bk := k, b := pad x, ld := 64 }], st := R.st + 1 }) HL.out])) | ((with_reducible refine at_store 35 ?_); refine wpList_storeH rfl 35 _ _ rfl _ _ _ rfl rfl ?_ ?_ (all_oneCell_toArray (rcs_one _ _ _)) ?_; (focus ((have t := K3.out.th; rw [rcs_len (R := zR) rfl] at t; rw [rcs_size (R := { R with ws := R.ws ++ [{ bk := k, b := pad x, ld := 64 }], st := R.st + 1 }) HL.out]; exact t))); (focus (rw [size_D, rcs_size (R := { R with ws := R.ws ++ [{ bk := k, b := pad x, ld := 64 }], st := R.st + 1 }) HL.out])); intro W9 HW9))
                    have hB9 : Below w.heap.size w W9 := by
                      rw [HW9.out]
                      exact below_setCells KE.out (by have := HZ.out; omega) _ _
                    have hM9 : Rm W9 (some ⟨g2, 0, none⟩) cap2 (R.ws ++ [{ bk := k, b := pad x, ld := 64 }]) := KM.out.same (by rw [HW9.out, size_setCells]; simp [World.setCell]) (fun b hb hlt => by
                      have hbg : g2 = b := by injection hb with hb; injection hb
                      subst hbg
                      have h1 := KG.out
                      have h2 := HBl.out
                      rw [HW9.out, heap_setCells _ _ _ _ _ (by omega), Below.heap_setCell _ _ _ _ (show g2 ≠ g0 by omega)])
                    obtain ⟨h1, h2, h3⟩ := ref_end (R' := { R with ws := R.ws ++ [{ bk := k, b := pad x, ld := 64 }], st := R.st + 1 }) (L := rcs zR none 0) K3.out (rcs_len (R := zR) rfl _ _) HL.out HW9.out KE.out (by have := HZ.out; omega) hM9
                    exact ret_cell_tmp _ gR rfl rfl h1 Try.underlying35 rfl (by rw [size_D, rcs_len (R := { R with ws := R.ws ++ [{ bk := k, b := pad x, ld := 64 }], st := R.st + 1 }) HL.out]) rfl ⟨_, rfl, h2, h3⟩
                  exact AllReadyH.nil
                exact AllReadyH.nil
              exact AllReadyH.nil
            exact AllReadyH.nil
          refine AllReadyH.cons rfl (fun K hK => ?_) ?_
          · refine step_slice rfl 30 1 _ rfl #[(0, .agg (wcs { bk := k, b := pad x, ld := 64 }).toArray)] (by first | rfl | (simp [Act.eval]; done) | (go_simp; done) | kernel_rfl) _ _ (slice_W { bk := k, b := pad x, ld := 64 } HPl.out _) ?_
            refine hK.out _ _ ?_ (fun hS => ?_)
            · exact HRg.out _ (((drew_below V).alloc (Nat.le_refl _) _).alloc (by rw [new_size]; exact Nat.le_succ _) _)
            clear hK K
            try simp only [Act.put, List.setIfInBounds_toArray, List.set_cons_zero, List.set_cons_succ, new_size, drew_size]
            refine wpAnyH_ready (rs := [3]) (by kernel_rfl) (by simp) ?_
            refine AllReadyH.cons rfl (fun K hK => ?_) ?_
            · refine step_app rfl (.tmp 63) (.tmp 65) 30 rfl _ _ rfl rfl _ (appW_e2 HMV.out hn10 _) ?_
              intro v1 w1 hA1
              have HA1 := Lib.hid hA1.1
              have HX1 := Lib.hid hA1
              clear hA1
              refine hK.out _ _ ?_ (fun hS => ?_)
              · exact HRg.out _ HA1.out.1.below
              clear hK K
              try simp only [Act.put, List.setIfInBounds_toArray, List.set_cons_zero, List.set_cons_succ, new_size, drew_size]
              refine wpAnyH_ready (rs := [6]) (by kernel_rfl) (by simp) ?_
              refine AllReadyH.cons rfl (fun K hK => ?_) ?_
              · refine step_app rfl (.tmp 66) (.tmp 68) 30 rfl _ _ rfl rfl _ (appW_2 HMV.out.ok HY.out HX1.out hn9 _) ?_
                rintro v2 w2 ⟨g2, cap2, rfl, hb2, hg2, hm2⟩
                have KK := Lib.hid (K0.out.keep hg0V hb2)
                have HA2 := Lib.hid hb2
                have KM := Lib.hid hm2
                have KG := Lib.hid hg2
                have k1c : w2.cell? ⟨g0, 1, none⟩ = some (.slice A R.ws.length c) := KK.out.cell 1 _ rfl
                have k1f : w2.frozen? ⟨g0, 1, none⟩ = false := KK.out.2 1 (by rw [rcs_len (R := { R with st := R.st + 1 }) HL.out]; omega)
                clear hb2 hm2 hg2
                refine hK.out _ _ ?_ (fun hS => ?_)
                · exact HRg.out _ HA2.out
                clear hK K
                try simp only [Act.put, List.setIfInBounds_toArray, List.set_cons_zero, List.set_cons_succ, new_size, drew_size]
                refine wpAnyH_ready (rs := [7]) (by kernel_rfl) (by simp) ?_
                refine AllReadyH.cons rfl (fun K hK => ?_) ?_
                · go_simp
                  refine hK.out _ _ ?_ (fun hS => ?_)
                  · exact HRg.out _ HA2.out
                  clear hK K
                  try simp only [Act.put, List.setIfInBounds_toArray, List.set_cons_zero, List.set_cons_succ, new_size, drew_size]
                  refine wpAnyH_ready (rs := [8]) (by kernel_rfl) (by simp) ?_
                  refine AllReadyH.cons rfl (fun K hK => ?_) ?_
                  · go_simp
                    refine hK.out _ _ ?_ (fun hS => ?_)
                    · exact rangeAt_of (HRg.out _ HA2.out) (Below.heap_setCell _ _ _ _ (by have := HZ.out; show gW ≠ g0; omega))
                    clear hK K
                    try simp only [Act.put, List.setIfInBounds_toArray, List.set_cons_zero, List.set_cons_succ, new_size, drew_size]
                    refine wpAnyH_done (by kernel_rfl) ?_ _
                    have K1 := Lib.hid (show HdD (w2.setCell ⟨g0, 1, none⟩ (.slice (some ⟨g2, 0, none⟩) (R.ws.length + 1) cap2)) g0 (rcs { R with ws := R.ws ++ [{ bk := k, b := pad x, ld := 64 }], st := R.st + 1 } (some ⟨g2, 0, none⟩) cap2) by have t := e1 (R := { R with st := R.st + 1 }) (A' := (some ⟨g2, 0, none⟩)) (c' := cap2) (R.ws ++ [{ bk := k, b := pad x, ld := 64 }]) g0 HL.out KK.out; rw [List.length_append] at t; exact t)
                    have K3 := Lib.hid (show HdD (w2.setCell ⟨g0, 1, none⟩ (.slice (some ⟨g2, 0, none⟩) (R.ws.length + 1) cap2)) gR (rcs zR none 0) from (K2.out.keep HBl.out.2.1 HA2.out).apart (b := g0) (q := 1) (by have := HZ.out; omega) _)
                    have KE := Lib.hid (show Below w.heap.size w (w2.setCell ⟨g0, 1, none⟩ (.slice (some ⟨g2, 0, none⟩) (R.ws.length + 1) cap2)) from (KB.out.trans (HA2.out.mono KB.out.size)).setCell (p := ⟨g0, 1, none⟩) (show w.heap.size ≤ g0 by have := HZ.out; omega) _)
                    go_wp2_with (first | ((with_reducible refine at_slot 71 ?_); refine wpList_load_mid rfl 35 _ rfl _ _ rfl (rcs { R with ws := R.ws ++ [{ bk := k, b := pad x, ld := 64 }], st := R.st + 1 } (some ⟨g2, 0, none⟩) cap2) _ K1.out.1 Try.underlying35 rfl ?_ ?_; (rw [size_D, rcs_len (R := { R with ws := R.ws ++ [{ bk := k, b := pad x, ld := 64 }], st := R.st + 1 }) HL.out])) | ((with_reducible refine at_store 35 ?_); refine wpList_storeH rfl 35 _ _ rfl _ _ _ rfl rfl ?_ ?_ (all_oneCell_toArray (rcs_one _ _ _)) ?_; (focus ((have t := K3.out.th; rw [rcs_len (R := zR) rfl] at t; rw [rcs_size (R := { R with ws := R.ws ++ [{ bk := k, b := pad x, ld := 64 }], st := R.st + 1 }) HL.out]; exact t))); (focus (rw [size_D, rcs_size (R := { R with ws := R.ws ++ [{ bk := k, b := pad x, ld := 64 }], st := R.st + 1 }) HL.out])); intro W9 HW9))
                    have hB9 : Below w.heap.size w W9 := by
                      rw [HW9.out]
                      exact below_setCells KE.out (by have := HZ.out; omega) _ _
                    have hM9 : Rm W9 (some ⟨g2, 0, none⟩) cap2 (R.ws ++ [{ bk := k, b := pad x, ld := 64 }]) := KM.out.same (by rw [HW9.out, size_setCells]; simp [World.setCell]) (fun b hb hlt => by
                      have hbg : g2 = b := by injection hb with hb; injection hb
                      subst hbg
                      have h1 := KG.out
                      have h2 := HBl.out
                      rw [HW9.out, heap_setCells _ _ _ _ _ (by omega), Below.heap_setCell _ _ _ _ (show g2 ≠ g0 by omega)])
                    obtain ⟨h1, h2, h3⟩ := ref_end (R' := { R with ws := R.ws ++ [{ bk := k, b := pad x, ld := 64 }], st := R.st + 1 }) (L := rcs zR none 0) K3.out (rcs_len (R := zR) rfl _ _) HL.out HW9.out KE.out (by have := HZ.out; omega) hM9
                    exact ret_cell_tmp _ gR rfl rfl h1 Try.underlying35 rfl (by rw [size_D, rcs_len (R := { R with ws := R.ws ++ [{ bk := k, b := pad x, ld := 64 }], st := R.st + 1 }) HL.out]) rfl ⟨_, rfl, h2, h3⟩
                  exact AllReadyH.nil
                exact AllReadyH.nil
              exact AllReadyH.nil
            exact AllReadyH.nil
          exact AllReadyH.nil
        refine AllReadyH.cons rfl (fun K hK => ?_) ?_
        · refine step_slice rfl 30 1 _ rfl #[(0, .agg (wcs { bk := k, b := pad x, ld := 64 }).toArray)] (by first | rfl | (simp [Act.eval]; done) | (go_simp; done) | kernel_rfl) _ _ (slice_W { bk := k, b := pad x, ld := 64 } HPl.out _) ?_
          refine hK.out _ _ ?_ (fun hS => ?_)
          · exact HRg.out _ (((drew_below V).alloc (Nat.le_refl _) _).alloc (by rw [new_size]; exact Nat.le_succ _) _)
          clear hK K
          try simp only [Act.put, List.setIfInBounds_toArray, List.set_cons_zero, List.set_cons_succ, new_size, drew_size]
          refine wpAnyH_ready (rs := [2]) (by kernel_rfl) (by simp) ?_
          refine AllReadyH.cons rfl (fun K hK => ?_) ?_
          · go_simp
            refine hK.out _ _ ?_ (fun hS => ?_)
            · exact HRg.out _ (((drew_below V).alloc (Nat.le_refl _) _).alloc (by rw [new_size]; exact Nat.le_succ _) _)
            clear hK K
            try simp only [Act.put, List.setIfInBounds_toArray, List.set_cons_zero, List.set_cons_succ, new_size, drew_size]
            refine wpAnyH_ready (rs := [3]) (by kernel_rfl) (by simp) ?_
            refine AllReadyH.cons rfl (fun K hK => ?_) ?_
            · refine step_app rfl (.tmp 63) (.tmp 65) 30 rfl _ _ rfl rfl _ (appW_e2 HMV.out hn10 _) ?_
              intro v1 w1 hA1
              have HA1 := Lib.hid hA1.1
              have HX1 := Lib.hid hA1
              clear hA1
              refine hK.out _ _ ?_ (fun hS => ?_)
              · exact HRg.out _ HA1.out.1.below
              clear hK K
              try simp only [Act.put, List.setIfInBounds_toArray, List.set_cons_zero, List.set_cons_succ, new_size, drew_size]
              refine wpAnyH_ready (rs := [6]) (by kernel_rfl) (by simp) ?_
              refine AllReadyH.cons rfl (fun K hK => ?_) ?_
              · refine step_app rfl (.tmp 66) (.tmp 68) 30 rfl _ _ rfl rfl _ (appW_2 HMV.out.ok HY.out HX1.out hn9 _) ?_
                rintro v2 w2 ⟨g2, cap2, rfl, hb2, hg2, hm2⟩
                have KK := Lib.hid (K0.out.keep hg0V hb2)
                have HA2 := Lib.hid hb2
                have KM := Lib.hid hm2
                have KG := Lib.hid hg2
                have k1c : w2.cell? ⟨g0, 1, none⟩ = some (.slice A R.ws.length c) := KK.out.cell 1 _ rfl
                have k1f : w2.frozen? ⟨g0, 1, none⟩ = false := KK.out.2 1 (by rw [rcs_len (R := { R with st := R.st + 1 }) HL.out]; omega)
                clear hb2 hm2 hg2
                refine hK.out _ _ ?_ (fun hS => ?_)
                · exact HRg.out _ HA2.out
                clear hK K
                try simp only [Act.put, List.setIfInBounds_toArray, List.set_cons_zero, List.set_cons_succ, new_size, drew_size]
                refine wpAnyH_ready (rs := [7]) (by kernel_rfl) (by simp) ?_
                refine AllReadyH.cons rfl (fun K hK => ?_) ?_
                · go_simp
                  refine hK.out _ _ ?_ (fun hS => ?_)
                  · exact HRg.out _ HA2.out
                  clear hK K
                  try simp only [Act.put, List.setIfInBounds_toArray, List.set_cons_zero, List.set_cons_succ, new_size, drew_size]
                  refine wpAnyH_ready (rs := [8]) (by kernel_rfl) (by simp) ?_
                  refine AllReadyH.cons rfl (fun K hK => ?_) ?_
                  · go_simp
                    refine hK.out _ _ ?_ (fun hS => ?_)
                    · exact rangeAt_of (HRg.out _ HA2.out) (Below.heap_setCell _ _ _ _ (by have := HZ.out; show gW ≠ g0; omega))
                    clear hK K
                    try simp only [Act.put, List.setIfInBounds_toArray, List.set_cons_zero, List.set_cons_succ, new_size, drew_size]
                    refine wpAnyH_done (by kernel_rfl) ?_ _
                    have K1 := Lib.hid (show HdD (w2.setCell ⟨g0, 1, none⟩ (.slice (some ⟨g2, 0, none⟩) (R.ws.length + 1) cap2)) g0 (rcs { R with ws := R.ws ++ [{ bk := k, b := pad x, ld := 64 }], st := R.st + 1 } (some ⟨g2, 0, none⟩) cap2) by have t := e1 (R := { R with st := R.st + 1 }) (A' := (some ⟨g2, 0, none⟩)) (c' := cap2) (R.ws ++ [{ bk := k, b := pad x, ld := 64 }]) g0 HL.out KK.out; rw [List.length_append] at t; exact t)
                    have K3 := Lib.hid (show HdD (w2.setCell ⟨g0, 1, none⟩ (.slice (some ⟨g2, 0, none⟩) (R.ws.length + 1) cap2)) gR (rcs zR none 0) from (K2.out.keep HBl.out.2.1 HA2.out).apart (b := g0) (q := 1) (by have := HZ.out; omega) _)
                    have KE := Lib.hid (show Below w.heap.size w (w2.setCell ⟨g0, 1, none⟩ (.slice (some ⟨g2, 0, none⟩) (R.ws.length + 1) cap2)) from (KB.out.trans (HA2.out.mono KB.out.size)).setCell (p := ⟨g0, 1, none⟩) (show w.heap.size ≤ g0 by have := HZ.out; omega) _)
                    go_wp2_with (first | ((with_reducible refine at_slot 71 ?_); refine wpList_load_mid rfl 35 _ rfl _ _ rfl (rcs { R with ws := R.ws ++ [{ bk := k, b := pad x, ld := 64 }], st := R.st + 1 } (some ⟨g2, 0, none⟩) cap2) _ K1.out.1 Try.underlying35 rfl ?_ ?_; (rw [size_D, rcs_len (R := { R with ws := R.ws ++ [{ bk := k, b := pad x, ld := 64 }], st := R.st + 1 }) HL.out])) | ((with_reducible refine at_store 35 ?_); refine wpList_storeH rfl 35 _ _ rfl _ _ _ rfl rfl ?_ ?_ (all_oneCell_toArray (rcs_one _ _ _)) ?_; (focus ((have t := K3.out.th; rw [rcs_len (R := zR) rfl] at t; rw [rcs_size (R := { R with ws := R.ws ++ [{ bk := k, b := pad x, ld := 64 }], st := R.st + 1 }) HL.out]; exact t))); (focus (rw [size_D, rcs_size (R := { R with ws := R.ws ++ [{ bk := k, b := pad x, ld := 64 }], st := R.st + 1 }) HL.out])); intro W9 HW9))
                    have hB9 : Below w.heap.size w W9 := by
                      rw [HW9.out]
                      exact below_setCells KE.out (by have := HZ.out; omega) _ _
                    have hM9 : Rm W9 (some ⟨g2, 0, none⟩) cap2 (R.ws ++ [{ bk := k, b := pad x, ld := 64 }]) := KM.out.same (by rw [HW9.out, size_setCells]; simp [World.setCell]) (fun b hb hlt => by
                      have hbg : g2 = b := by injection hb with hb; injection hb
                      subst hbg
                      have h1 := KG.out
                      have h2 := HBl.out
                      rw [HW9.out, heap_setCells _ _ _ _ _ (by omega), Below.heap_setCell _ _ _ _ (show g2 ≠ g0 by omega)])
                    obtain ⟨h1, h2, h3⟩ := ref_end (R' := { R with ws := R.ws ++ [{ bk := k, b := pad x, ld := 64 }], st := R.st + 1 }) (L := rcs zR none 0) K3.out (rcs_len (R := zR) rfl _ _) HL.out HW9.out KE.out (by have := HZ.out; omega) hM9
                    exact ret_cell_tmp _ gR rfl rfl h1 Try.underlying35 rfl (by rw [size_D, rcs_len (R := { R with ws := R.ws ++ [{ bk := k, b := pad x, ld := 64 }], st := R.st + 1 }) HL.out]) rfl ⟨_, rfl, h2, h3⟩
                  exact AllReadyH.nil
                exact AllReadyH.nil
              exact AllReadyH.nil
            exact AllReadyH.nil
          exact AllReadyH.nil
        exact AllReadyH.nil
      refine AllReadyH.cons rfl (fun K hK => ?_) ?_
      · go_simp
        refine hK.out _ _ ?_ (fun hS => ?_)
        · exact HRg.out _ (drew_below V)
        clear hK K
        try simp only [Act.put, List.setIfInBounds_toArray, List.set_cons_zero, List.set_cons_succ, new_size, drew_size]
        refine wpAnyH_ready (rs := [0, 5]) (by kernel_rfl) (by simp) ?_
        refine AllReadyH.cons rfl (fun K hK => ?_) ?_
        · go_simp
          refine hK.out _ _ ?_ (fun hS => ?_)
          · exact HRg.out _ ((drew_below V).alloc (Nat.le_refl _) _)
          clear hK K
          try simp only [Act.put, List.setIfInBounds_toArray, List.set_cons_zero, List.set_cons_succ, new_size, drew_size]
          refine wpAnyH_ready (rs := [3, 5]) (by kernel_rfl) (by simp) ?_
          refine AllReadyH.cons rfl (fun K hK => ?_) ?_
          · refine step_app rfl (.tmp 63) (.tmp 65) 30 rfl _ _ rfl rfl _ (appW_e1 HMV.out hn10 _) ?_
            intro v1 w1 hA1
            have HA1 := Lib.hid hA1
            clear hA1
            refine hK.out _ _ ?_ (fun hS => ?_)
            · exact HRg.out _ HA1.out.1.below
            clear hK K
            try simp only [Act.put, List.setIfInBounds_toArray, List.set_cons_zero, List.set_cons_succ, new_size, drew_size]
            refine wpAnyH_ready (rs := [5]) (by kernel_rfl) (by simp) ?_
            refine AllReadyH.cons rfl (fun K hK => ?_) ?_
            · refine step_slice rfl 30 1 _ rfl #[(0, .agg (wcs { bk := k, b := pad x, ld := 64 }).toArray)] (by first | rfl | (simp [Act.eval]; done) | (go_simp; done) | kernel_rfl) _ _ (slice_W { bk := k, b := pad x, ld := 64 } HPl.out _) ?_
              refine hK.out _ _ ?_ (fun hS => ?_)
              · exact HRg.out _ (HA1.out.1.below.alloc HA1.out.1.below.size _)
              clear hK K
              try simp only [Act.put, List.setIfInBounds_toArray, List.set_cons_zero, List.set_cons_succ, new_size, drew_size]
              refine wpAnyH_ready (rs := [6]) (by kernel_rfl) (by simp) ?_
              refine AllReadyH.cons rfl (fun K hK => ?_) ?_
              · refine step_app rfl (.tmp 66) (.tmp 68) 30 rfl _ _ rfl rfl _ (appW_2n HMV.out.ok HY.out HA1.out hn9 _) ?_
                rintro v2 w2 ⟨g2, cap2, rfl, hb2, hg2, hm2⟩
                have KK := Lib.hid (K0.out.keep hg0V hb2)
                have HA2 := Lib.hid hb2
                have KM := Lib.hid hm2
                have KG := Lib.hid hg2
                have k1c : w2.cell? ⟨g0, 1, none⟩ = some (.slice A R.ws.length c) := KK.out.cell 1 _ rfl
                have k1f : w2.frozen? ⟨g0, 1, none⟩ = false := KK.out.2 1 (by rw [rcs_len (R := { R with st := R.st + 1 }) HL.out]; omega)
                clear hb2 hm2 hg2
                refine hK.out _ _ ?_ (fun hS => ?_)
                · exact HRg.out _ HA2.out
                clear hK K
                try simp only [Act.put, List.setIfInBounds_toArray, List.set_cons_zero, List.set_cons_succ, new_size, drew_size]
                refine wpAnyH_ready (rs := [7]) (by kernel_rfl) (by simp) ?_
                refine AllReadyH.cons rfl (fun K hK => ?_) ?_
                · go_simp
                  refine hK.out _ _ ?_ (fun hS => ?_)
                  · exact HRg.out _ HA2.out
                  clear hK K
                  try simp only [Act.put, List.setIfInBounds_toArray, List.set_cons_zero, List.set_cons_succ, new_size, drew_size]
                  refine wpAnyH_ready (rs := [8]) (by kernel_rfl) (by simp) ?_
                  refine AllReadyH.cons rfl (fun K hK => ?_) ?_
                  · go_simp
                    refine hK.out _ _ ?_ (fun hS => ?_)
                    · exact rangeAt_of (HRg.out _ HA2.out) (Below.heap_setCell _ _ _ _ (by have := HZ.out; show gW ≠ g0; omega))
                    clear hK K
                    try simp only [Act.put, List.setIfInBounds_toArray, List.set_cons_zero, List.set_cons_succ, new_size, drew_size]
                    refine wpAnyH_done (by kernel_rfl) ?_ _
                    have K1 := Lib.hid (show HdD (w2.setCell ⟨g0, 1, none⟩ (.slice (some ⟨g2, 0, none⟩) (R.ws.length + 1) cap2)) g0 (rcs { R with ws := R.ws ++ [{ bk := k, b := pad x, ld := 64 }], st := R.st + 1 } (some ⟨g2, 0, none⟩) cap2) by have t := e1 (R := { R with st := R.st + 1 }) (A' := (some ⟨g2, 0, none⟩)) (c' := cap2) (R.ws ++ [{ bk := k, b := pad x, ld := 64 }]) g0 HL.out KK.out; rw [List.length_append] at t; exact t)
                    have K3 := Lib.hid (show HdD (w2.setCell ⟨g0, 1, none⟩ (.slice (some ⟨g2, 0, none⟩) (R.ws.length + 1) cap2)) gR (rcs zR none 0) from (K2.out.keep HBl.out.2.1 HA2.out).apart (b := g0) (q := 1) (by have := HZ.out; omega) _)
                    have KE := Lib.hid (show Below w.heap.size w (w2.setCell ⟨g0, 1, none⟩ (.slice (some ⟨g2, 0, none⟩) (R.ws.length + 1) cap2)) from (KB.out.trans (HA2.out.mono KB.out.size)).setCell (p := ⟨g0, 1, none⟩) (show w.heap.size ≤ g0 by have := HZ.out; omega) _)
                    go_wp2_with (first | ((with_reducible refine at_slot 71 ?_); refine wpList_load_mid rfl 35 _ rfl _ _ rfl (rcs { R with ws := R.ws ++ [{ bk := k, b := pad x, ld := 64 }], st := R.st + 1 } (some ⟨g2, 0, none⟩) cap2) _ K1.out.1 Try.underlying35 rfl ?_ ?_; (rw [size_D, rcs_len (R := { R with ws := R.ws ++ [{ bk := k, b := pad x, ld := 64 }], st := R.st + 1 }) HL.out])) | ((with_reducible refine at_store 35 ?_); refine wpList_storeH rfl 35 _ _ rfl _ _ _ rfl rfl ?_ ?_ (all_oneCell_toArray (rcs_one _ _ _)) ?_; (focus ((have t := K3.out.th; rw [rcs_len (R := zR) rfl] at t; rw [rcs_size (R := { R with ws := R.ws ++ [{ bk := k, b := pad x, ld := 64 }], st := R.st + 1 }) HL.out]; exact t))); (focus (rw [size_D, rcs_size (R := { R with ws := R.ws ++ [{ bk := k, b := pad x, ld := 64 }], st := R.st + 1 }) HL.out])); intro W9 HW9))
                    have hB9 : Below w.heap.size w W9 := by
                      rw [HW9.out]
                      exact below_setCells KE.out (by have := HZ.out; omega) _ _
                    have hM9 : Rm W9 (some ⟨g2, 0, none⟩) cap2 (R.ws ++ [{ bk := k, b := pad x, ld := 64 }]) := KM.out.same (by rw [HW9.out, size_setCells]; simp [World.setCell]) (fun b hb hlt => by
                      have hbg : g2 = b := by injection hb with hb; injection hb
                      subst hbg
                      have h1 := KG.out
                      have h2 := HBl.out
                      rw [HW9.out, heap_setCells _ _ _ _ _ (by omega), Below.heap_setCell _ _ _ _ (show g2 ≠ g0 by omega)])
                    obtain ⟨h1, h2, h3⟩ := ref_end (R' := { R with ws := R.ws ++ [{ bk := k, b := pad x, ld := 64 }], st := R.st + 1 }) (L := rcs zR none 0) K3.out (rcs_len (R := zR) rfl _ _) HL.out HW9.out KE.out (by have := HZ.out; omega) hM9
                    exact ret_cell_tmp _ gR rfl rfl h1 Try.underlying35 rfl (by rw [size_D, rcs_len (R := { R with ws := R.ws ++ [{ bk := k, b := pad x, ld := 64 }], st := R.st + 1 }) HL.out]) rfl ⟨_, rfl, h2, h3⟩
                  exact AllReadyH.nil
                exact AllReadyH.nil
              exact AllReadyH.nil
            exact AllReadyH.nil
          refine AllReadyH.cons rfl (fun K hK => ?_) ?_
          · refine step_slice rfl 30 1 _ rfl #[(0, .agg (wcs { bk := k, b := pad x, ld := 64 }).toArray)] (by first | rfl | (simp [Act.eval]; done) | (go_simp; done) | kernel_rfl) _ _ (slice_W { bk := k, b := pad x, ld := 64 } HPl.out _) ?_
            refine hK.out _ _ ?_ (fun hS => ?_)
            · exact HRg.out _ (((drew_below V).alloc (Nat.le_refl _) _).alloc (by rw [new_size]; exact Nat.le_succ _) _)
            clear hK K
            try simp only [Act.put, List.setIfInBounds_toArray, List.set_cons_zero, List.set_cons_succ, new_size, drew_size]
            refine wpAnyH_ready (rs := [3]) (by kernel_rfl) (by simp) ?_
            refine AllReadyH.cons rfl (fun K hK => ?_) ?_
            · refine step_app rfl (.tmp 63) (.tmp 65) 30 rfl _ _ rfl rfl _ (appW_e2 HMV.out hn10 _) ?_
              intro v1 w1 hA1
              have HA1 := Lib.hid hA1.1
              have HX1 := Lib.hid hA1
              clear hA1
              refine hK.out _ _ ?_ (fun hS => ?_)
              · exact HRg.out _ HA1.out.1.below
              clear hK K
              try simp only [Act.put, List.setIfInBounds_toArray, List.set_cons_zero, List.set_cons_succ, new_size, drew_size]
              refine wpAnyH_ready (rs := [6]) (by kernel_rfl) (by simp) ?_
              refine AllReadyH.cons rfl (fun K hK => ?_) ?_
              · refine step_app rfl (.tmp 66) (.tmp 68) 30 rfl _ _ rfl rfl _ (appW_2 HMV.out.ok HY.out HX1.out hn9 _) ?_
                rintro v2 w2 ⟨g2, cap2, rfl, hb2, hg2, hm2⟩
                have KK := Lib.hid (K0.out.keep hg0V hb2)
                have HA2 := Lib.hid hb2
                have KM := Lib.hid hm2
                have KG := Lib.hid hg2
                have k1c : w2.cell? ⟨g0, 1, none⟩ = some (.slice A R.ws.length c) := KK.out.cell 1 _ rfl
                have k1f : w2.frozen? ⟨g0, 1, none⟩ = false := KK.out.2 1 (by rw [rcs_len (R := { R with st := R.st + 1 }) HL.out]; omega)
                clear hb2 hm2 hg2
                refine hK.out _ _ ?_ (fun hS => ?_)
                · exact HRg.out _ HA2.out
                clear hK K
                try simp only [Act.put, List.setIfInBounds_toArray, List.set_cons_zero, List.set_cons_succ, new_size, drew_size]
                refine wpAnyH_ready (rs := [7]) (by kernel_rfl) (by simp) ?_
                refine AllReadyH.cons rfl (fun K hK => ?_) ?_
                · go_simp
                  refine hK.out _ _ ?_ (fun hS => ?_)
                  · exact HRg.out _ HA2.out
                  clear hK K
                  try simp only [Act.put, List.setIfInBounds_toArray, List.set_cons_zero, List.set_cons_succ, new_size, drew_size]
                  refine wpAnyH_ready (rs := [8]) (by kernel_rfl) (by simp) ?_
                  refine AllReadyH.cons rfl (fun K hK => ?_) ?_
                  · go_simp
                    refine hK.out _ _ ?_ (fun hS => ?_)
                    · exact rangeAt_of (HRg.out _ HA2.out) (Below.heap_setCell _ _ _ _ (by have := HZ.out; show gW ≠ g0; omega))
                    clear hK K
                    try simp only [Act.put, List.setIfInBounds_toArray, List.set_cons_zero, List.set_cons_succ, new_size, drew_size]
                    refine wpAnyH_done (by kernel_rfl) ?_ _
                    have K1 := Lib.hid (show HdD (w2.setCell ⟨g0, 1, none⟩ (.slice (some ⟨g2, 0, none⟩) (R.ws.length + 1) cap2)) g0 (rcs { R with ws := R.ws ++ [{ bk := k, b := pad x, ld := 64 }], st := R.st + 1 } (some ⟨g2, 0, none⟩) cap2) by have t := e1 (R := { R with st := R.st + 1 }) (A' := (some ⟨g2, 0, none⟩)) (c' := cap2) (R.ws ++ [{ bk := k, b := pad x, ld := 64 }]) g0 HL.out KK.out; rw [List.length_append] at t; exact t)
                    have K3 := Lib.hid (show HdD (w2.setCell ⟨g0, 1, none⟩ (.slice (some ⟨g2, 0, none⟩) (R.ws.length + 1) cap2)) gR (rcs zR none 0) from (K2.out.keep HBl.out.2.1 HA2.out).apart (b := g0) (q := 1) (by have := HZ.out; omega) _)
                    have KE := Lib.hid (show Below w.heap.size w (w2.setCell ⟨g0, 1, none⟩ (.slice (some ⟨g2, 0, none⟩) (R.ws.length + 1) cap2)) from (KB.out.trans (HA2.out.mono KB.out.size)).setCell (p := ⟨g0, 1, none⟩) (show w.heap.size ≤ g0 by have := HZ.out; omega) _)
                    go_wp2_with (first | ((with_reducible refine at_slot 71 ?_); refine wpList_load_mid rfl 35 _ rfl _ _ rfl (rcs { R with ws := R.ws ++ [{ bk := k, b := pad x, ld := 64 }], st := R.st + 1 } (some ⟨g2, 0, none⟩) cap2) _ K1.out.1 Try.underlying35 rfl ?_ ?_; (rw [size_D, rcs_len (R := { R with ws := R.ws ++ [{ bk := k, b := pad x, ld := 64 }], st := R.st + 1 }) HL.out])) | ((with_reducible refine at_store 35 ?_); refine wpList_storeH rfl 35 _ _ rfl _ _ _ rfl rfl ?_ ?_ (all_oneCell_toArray (rcs_one _ _ _)) ?_; (focus ((have t := K3.out.th; rw [rcs_len (R := zR) rfl] at t; rw [rcs_size (R := { R with ws := R.ws ++ [{ bk := k, b := pad x, ld := 64 }], st := R.st + 1 }) HL.out]; exact t))); (focus (rw [size_D, rcs_size (R := { R with ws := R.ws ++ [{ bk := k, b := pad x, ld := 64 }], st := R.st + 1 }) HL.out])); intro W9 HW9))
                    have hB9 : Below w.heap.size w W9 := by
                      rw [HW9.out]
                      exact below_setCells KE.out (by have := HZ.out; omega) _ _
                    have hM9 : Rm W9 (some ⟨g2, 0, none⟩) cap2 (R.ws ++ [{ bk := k, b := pad x, ld := 64 }]) := KM.out.same (by rw [HW9.out, size_setCells]; simp [World.setCell]) (fun b hb hlt => by
                      have hbg : g2 = b := by injection hb with hb; injection hb
                      subst hbg
                      have h1 := KG.out
                      have h2 := HBl.out
                      rw [HW9.out, heap_setCells _ _ _ _ _ (by omega), Below.heap_setCell _ _ _ _ (show g2 ≠ g0 by omega)])
                    obtain ⟨h1, h2, h3⟩ := ref_end (R' := { R with ws := R.ws ++ [{ bk := k, b := pad x, ld := 64 }], st := R.st + 1 }) (L := rcs zR none 0) K3.out (rcs_len (R := zR) rfl _ _) HL.out HW9.out KE.out (by have := HZ.out; omega) hM9
                    exact ret_cell_tmp _ gR rfl rfl h1 Try.underlying35 rfl (by rw [size_D, rcs_len (R := { R with ws := R.ws ++ [{ bk := k, b := pad x, ld := 64 }], st := R.st + 1 }) HL.out]) rfl ⟨_, rfl, h2, h3⟩
                  exact AllReadyH.nil
                exact AllReadyH.nil
              exact AllReadyH.nil
            exact AllReadyH.nil
          exact AllReadyH.nil
        refine AllReadyH.cons rfl (fun K hK => ?_) ?_
        · refine step_slice rfl 30 1 _ rfl #[(0, .agg (wcs { bk := k, b := pad x, ld := 64 }).toArray)] (by first | rfl | (simp [Act.eval]; done) | (go_simp; done) | kernel_rfl) _ _ (slice_W { bk := k, b := pad x, ld := 64 } HPl.out _) ?_
          refine hK.out _ _ ?_ (fun hS => ?_)
          · exact HRg.out _ ((drew_below V).alloc (Nat.le_refl _) _)
          clear hK K
          try simp only [Act.put, List.setIfInBounds_toArray, List.set_cons_zero, List.set_cons_succ, new_size, drew_size]
          refine wpAnyH_ready (rs := [0]) (by kernel_rfl) (by simp) ?_
          refine AllReadyH.cons rfl (fun K hK => ?_) ?_
          · go_simp
            refine hK.out _ _ ?_ (fun hS => ?_)
            · exact HRg.out _ (((drew_below V).alloc (Nat.le_refl _) _).alloc (by rw [new_size]; exact Nat.le_succ _) _)
            clear hK K
            try simp only [Act.put, List.setIfInBounds_toArray, List.set_cons_zero, List.set_cons_succ, new_size, drew_size]
            refine wpAnyH_ready (rs := [3]) (by kernel_rfl) (by simp) ?_
            refine AllReadyH.cons rfl (fun K hK => ?_) ?_
            · refine step_app rfl (.tmp 63) (.tmp 65) 30 rfl _ _ rfl rfl _ (appW_e3 HMV.out hn10 _) ?_
              intro v1 w1 hA1
              have HA1 := Lib.hid hA1.1
              have HX1 := Lib.hid hA1
              clear hA1
              refine hK.out _ _ ?_ (fun hS => ?_)
              · exact HRg.out _ HA1.out.1.below
              clear hK K
              try simp only [Act.put, List.setIfInBounds_toArray, List.set_cons_zero, List.set_cons_succ, new_size, drew_size]
              refine wpAnyH_ready (rs := [6]) (by kernel_rfl) (by simp) ?_
              refine AllReadyH.cons rfl (fun K hK => ?_) ?_
              · refine step_app rfl (.tmp 66) (.tmp 68) 30 rfl _ _ rfl rfl _ (appW_2 HMV.out.ok HY.out HX1.out hn9 _) ?_
                rintro v2 w2 ⟨g2, cap2, rfl, hb2, hg2, hm2⟩
                have KK := Lib.hid (K0.out.keep hg0V hb2)
                have HA2 := Lib.hid hb2
                have KM := Lib.hid hm2
                have KG := Lib.hid hg2
                have k1c : w2.cell? ⟨g0, 1, none⟩ = some (.slice A R.ws.length c) := KK.out.cell 1 _ rfl
                have k1f : w2.frozen? ⟨g0, 1, none⟩ = false := KK.out.2 1 (by rw [rcs_len (R := { R with st := R.st + 1 }) HL.out]; omega)
                clear hb2 hm2 hg2
                refine hK.out _ _ ?_ (fun hS => ?_)
                · exact HRg.out _ HA2.out
                clear hK K
                try simp only [Act.put, List.setIfInBounds_toArray, List.set_cons_zero, List.set_cons_succ, new_size, drew_size]
                refine wpAnyH_ready (rs := [7]) (by kernel_rfl) (by simp) ?_
                refine AllReadyH.cons rfl (fun K hK => ?_) ?_
                · go_simp
                  refine hK.out _ _ ?_ (fun hS => ?_)
                  · exact HRg.out _ HA2.out
                  clear hK K
                  try simp only [Act.put, List.setIfInBounds_toArray, List.set_cons_zero, List.set_cons_succ, new_size, drew_size]
                  refine wpAnyH_ready (rs := [8]) (by kernel_rfl) (by simp) ?_
                  refine AllReadyH.cons rfl (fun K hK => ?_) ?_
                  · go_simp
                    refine hK.out _ _ ?_ (fun hS => ?_)
                    · exact rangeAt_of (HRg.out _ HA2.out) (Below.heap_setCell _ _ _ _ (by have := HZ.out; show gW ≠ g0; omega))
                    clear hK K
                    try simp only [Act.put, List.setIfInBounds_toArray, List.set_cons_zero, List.set_cons_succ, new_size, drew_size]
                    refine wpAnyH_done (by kernel_rfl) ?_ _
                    have K1 := Lib.hid (show HdD (w2.setCell ⟨g0, 1, none⟩ (.slice (some ⟨g2, 0, none⟩) (R.ws.length + 1) cap2)) g0 (rcs { R with ws := R.ws ++ [{ bk := k, b := pad x, ld := 64 }], st := R.st + 1 } (some ⟨g2, 0, none⟩) cap2) by have t := e1 (R := { R with st := R.st + 1 }) (A' := (some ⟨g2, 0, none⟩)) (c' := cap2) (R.ws ++ [{ bk := k, b := pad x, ld := 64 }]) g0 HL.out KK.out; rw [List.length_append] at t; exact t)
                    have K3 := Lib.hid (show HdD (w2.setCell ⟨g0, 1, none⟩ (.slice (some ⟨g2, 0, none⟩) (R.ws.length + 1) cap2)) gR (rcs zR none 0) from (K2.out.keep HBl.out.2.1 HA2.out).apart (b := g0) (q := 1) (by have := HZ.out; omega) _)
                    have KE := Lib.hid (show Below w.heap.size w (w2.setCell ⟨g0, 1, none⟩ (.slice (some ⟨g2, 0, none⟩) (R.ws.length + 1) cap2)) from (KB.out.trans (HA2.out.mono KB.out.size)).setCell (p := ⟨g0, 1, none⟩) (show w.heap.size ≤ g0 by have := HZ.out; omega) _)
                    go_wp2_with (first | ((with_reducible refine at_slot 71 ?_); refine wpList_load_mid rfl 35 _ rfl _ _ rfl (rcs { R with ws := R.ws ++ [{ bk := k, b := pad x, ld := 64 }], st := R.st + 1 } (some ⟨g2, 0, none⟩) cap2) _ K1.out.1 Try.underlying35 rfl ?_ ?_; (rw [size_D, rcs_len (R := { R with ws := R.ws ++ [{ bk := k, b := pad x, ld := 64 }], st := R.st + 1 }) HL.out])) | ((with_reducible refine at_store 35 ?_); refine wpList_storeH rfl 35 _ _ rfl _ _ _ rfl rfl ?_ ?_ (all_oneCell_toArray (rcs_one _ _ _)) ?_; (focus ((have t := K3.out.th; rw [rcs_len (R := zR) rfl] at t; rw [rcs_size (R := { R with ws := R.ws ++ [{ bk := k, b := pad x, ld := 64 }], st := R.st + 1 }) HL.out]; exact t))); (focus (rw [size_D, rcs_size (R := { R with ws := R.ws ++ [{ bk := k, b := pad x, ld := 64 }], st := R.st + 1 }) HL.out])); intro W9 HW9))
                    have hB9 : Below w.heap.size w W9 := by
                      rw [HW9.out]
                      exact below_setCells KE.out (by have := HZ.out; omega) _ _
                    have hM9 : Rm W9 (some ⟨g2, 0, none⟩) cap2 (R.ws ++ [{ bk := k, b := pad x, ld := 64 }]) := KM.out.same (by rw [HW9.out, size_setCells]; simp [World.setCell]) (fun b hb hlt => by
                      have hbg : g2 = b := by injection hb with hb; injection hb
                      subst hbg
                      have h1 := KG.out
                      have h2 := HBl.out
                      rw [HW9.out, heap_setCells _ _ _ _ _ (by omega), Below.heap_setCell _ _ _ _ (show g2 ≠ g0 by omega)])
                    obtain ⟨h1, h2, h3⟩ := ref_end (R' := { R with ws := R.ws ++ [{ bk := k, b := pad x, ld := 64 }], st := R.st + 1 }) (L := rcs zR none 0) K3.out (rcs_len (R := zR) rfl _ _) HL.out HW9.out KE.out (by have := HZ.out; omega) hM9
                    exact ret_cell_tmp _ gR rfl rfl h1 Try.underlying35 rfl (by rw [size_D, rcs_len (R := { R with ws := R.ws ++ [{ bk := k, b := pad x, ld := 64 }], st := R.st + 1 }) HL.out]) rfl ⟨_, rfl, h2, h3⟩
                  exact AllReadyH.nil
                exact AllReadyH.nil
              exact AllReadyH.nil
            exact AllReadyH.nil
          exact AllReadyH.nil
        exact AllReadyH.nil
      refine AllReadyH.cons rfl (fun K hK => ?_) ?_
      · refine step_slice rfl 30 1 _ rfl #[(0, .agg (wcs { bk := k, b := pad x, ld := 64 }).toArray)] (by first | rfl | (simp [Act.eval]; done) | (go_simp; done) | kernel_rfl) _ _ (slice_W { bk := k, b := pad x, ld := 64 } HPl.out _) ?_
        refine hK.out _ _ ?_ (fun hS => ?_)
        · exact HRg.out _ ((drew_below V).alloc (Nat.le_refl _) _)
        clear hK K
        try simp only [Act.put, List.setIfInBounds_toArray, List.set_cons_zero, List.set_cons_succ, new_size, drew_size]
        refine wpAnyH_ready (rs := [0, 2]) (by kernel_rfl) (by simp) ?_
        refine AllReadyH.cons rfl (fun K hK => ?_) ?_
        · go_simp
          refine hK.out _ _ ?_ (fun hS => ?_)
          · exact HRg.out _ (((drew_below V).alloc (Nat.le_refl _) _).alloc (by rw [new_size]; exact Nat.le_succ _) _)
          clear hK K
          try simp only [Act.put, List.setIfInBounds_toArray, List.set_cons_zero, List.set_cons_succ, new_size, drew_size]
          refine wpAnyH_ready (rs := [2]) (by kernel_rfl) (by simp) ?_
          refine AllReadyH.cons rfl (fun K hK => ?_) ?_
          · go_simp
            refine hK.out _ _ ?_ (fun hS => ?_)
            · exact HRg.out _ (((drew_below V).alloc (Nat.le_refl _) _).alloc (by rw [new_size]; exact Nat.le_succ _) _)
            clear hK K
            try simp only [Act.put, List.setIfInBounds_toArray, List.set_cons_zero, List.set_cons_succ, new_size, drew_size]
            refine wpAnyH_ready (rs := [3]) (by kernel_rfl) (by simp) ?_
            refine AllReadyH.cons rfl (fun K hK => ?_) ?_
            · refine step_app rfl (.tmp 63) (.tmp 65) 30 rfl _ _ rfl rfl _ (appW_e3 HMV.out hn10 _) ?_
              intro v1 w1 hA1
              have HA1 := Lib.hid hA1.1
              have HX1 := Lib.hid hA1
              clear hA1
              refine hK.out _ _ ?_ (fun hS => ?_)
              · exact HRg.out _ HA1.out.1.below
              clear hK K
              try simp only [Act.put, List.setIfInBounds_toArray, List.set_cons_zero, List.set_cons_succ, new_size, drew_size]
              refine wpAnyH_ready (rs := [6]) (by kernel_rfl) (by simp) ?_
              refine AllReadyH.cons rfl (fun K hK => ?_) ?_
              · refine step_app rfl (.tmp 66) (.tmp 68) 30 rfl _ _ rfl rfl _ (appW_2 HMV.out.ok HY.out HX1.out hn9 _) ?_
                rintro v2 w2 ⟨g2, cap2, rfl, hb2, hg2, hm2⟩
                have KK := Lib.hid (K0.out.keep hg0V hb2)
                have HA2 := Lib.hid hb2
                have KM := Lib.hid hm2
                have KG := Lib.hid hg2
                have k1c : w2.cell? ⟨g0, 1, none⟩ = some (.slice A R.ws.length c) := KK.out.cell 1 _ rfl
                have k1f : w2.frozen? ⟨g0, 1, none⟩ = false := KK.out.2 1 (by rw [rcs_len (R := { R with st := R.st + 1 }) HL.out]; omega)
                clear hb2 hm2 hg2
                refine hK.out _ _ ?_ (fun hS => ?_)
                · exact HRg.out _ HA2.out
                clear hK K
                try simp only [Act.put, List.setIfInBounds_toArray, List.set_cons_zero, List.set_cons_succ, new_size, drew_size]
                refine wpAnyH_ready (rs := [7]) (by kernel_rfl) (by simp) ?_
                refine AllReadyH.cons rfl (fun K hK => ?_) ?_
                · go_simp
                  refine hK.out _ _ ?_ (fun hS => ?_)
                  · exact HRg.out _ HA2.out
                  clear hK K
                  try simp only [Act.put, List.setIfInBounds_toArray, List.set_cons_zero, List.set_cons_succ, new_size, drew_size]
                  refine wpAnyH_ready (rs := [8]) (by kernel_rfl) (by simp) ?_
                  refine AllReadyH.cons rfl (fun K hK => ?_) ?_
                  · go_simp
                    refine hK.out _ _ ?_ (fun hS => ?_)
                    · exact rangeAt_of (HRg.out _ HA2.out) (Below.heap_setCell _ _ _ _ (by have := HZ.out; show gW ≠ g0; omega))
                    clear hK K
                    try simp only [Act.put, List.setIfInBounds_toArray, List.set_cons_zero, List.set_cons_succ, new_size, drew_size]
                    refine wpAnyH_done (by kernel_rfl) ?_ _
                    have K1 := Lib.hid (show HdD (w2.setCell ⟨g0, 1, none⟩ (.slice (some ⟨g2, 0, none⟩) (R.ws.length + 1) cap2)) g0 (rcs { R with ws := R.ws ++ [{ bk := k, b := pad x, ld := 64 }], st := R.st + 1 } (some ⟨g2, 0, none⟩) cap2) by have t := e1 (R := { R with st := R.st + 1 }) (A' := (some ⟨g2, 0, none⟩)) (c' := cap2) (R.ws ++ [{ bk := k, b := pad x, ld := 64 }]) g0 HL.out KK.out; rw [List.length_append] at t; exact t)
                    have K3 := Lib.hid (show HdD (w2.setCell ⟨g0, 1, none⟩ (.slice (some ⟨g2, 0, none⟩) (R.ws.length + 1) cap2)) gR (rcs zR none 0) from (K2.out.keep HBl.out.2.1 HA2.out).apart (b := g0) (q := 1) (by have := HZ.out; omega) _)
                    have KE := Lib.hid (show Below w.heap.size w (w2.setCell ⟨g0, 1, none⟩ (.slice (some ⟨g2, 0, none⟩) (R.ws.length + 1) cap2)) from (KB.out.trans (HA2.out.mono KB.out.size)).setCell (p := ⟨g0, 1, none⟩) (show w.heap.size ≤ g0 by have := HZ.out; omega) _)
                    go_wp2_with (first | ((with_reducible refine at_slot 71 ?_); refine wpList_load_mid rfl 35 _ rfl _ _ rfl (rcs { R with ws := R.ws ++ [{ bk := k, b := pad x, ld := 64 }], st := R.st + 1 } (some ⟨g2, 0, none⟩) cap2) _ K1.out.1 Try.underlying35 rfl ?_ ?_; (rw [size_D, rcs_len (R := { R with ws := R.ws ++ [{ bk := k, b := pad x, ld := 64 }], st := R.st + 1 }) HL.out])) | ((with_reducible refine at_store 35 ?_); refine wpList_storeH rfl 35 _ _ rfl _ _ _ rfl rfl ?_ ?_ (all_oneCell_toArray (rcs_one _ _ _)) ?_; (focus ((have t := K3.out.th; rw [rcs_len (R := zR) rfl] at t; rw [rcs_size (R := { R with ws := R.ws ++ [{ bk := k, b := pad x, ld := 64 }], st := R.st + 1 }) HL.out]; exact t))); (focus (rw [size_D, rcs_size (R := { R with ws := R.ws ++ [{ bk := k, b := pad x, ld := 64 }], st := R.st + 1 }) HL.out])); intro W9 HW9))
                    have hB9 : Below w.heap.size w W9 := by
                      rw [HW9.out]
                      exact below_setCells KE.out (by have := HZ.out; omega) _ _
                    have hM9 : Rm W9 (some ⟨g2, 0, none⟩) cap2 (R.ws ++ [{ bk := k, b := pad x, ld := 64 }]) := KM.out.same (by rw [HW9.out, size_setCells]; simp [World.setCell]) (fun b hb hlt => by
                      have hbg : g2 = b := by injection hb with hb; injection hb
                      subst hbg
                      have h1 := KG.out
                      have h2 := HBl.out
                      rw [HW9.out, heap_setCells _ _ _ _ _ (by omega), Below.heap_setCell _ _ _ _ (show g2 ≠ g0 by omega)])
                    obtain ⟨h1, h2, h3⟩ := ref_end (R' := { R with ws := R.ws ++ [{ bk := k, b := pad x, ld := 64 }], st := R.st + 1 }) (L := rcs zR none 0) K3.out (rcs_len (R := zR) rfl _ _) HL.out HW9.out KE.out (by have := HZ.out; omega) hM9
                    exact ret_cell_tmp _ gR rfl rfl h1 Try.underlying35 rfl (by rw [size_D, rcs_len (R := { R with ws := R.ws ++ [{ bk := k, b := pad x, ld := 64 }], st := R.st + 1 }) HL.out]) rfl ⟨_, rfl, h2, h3⟩
                  exact AllReadyH.nil
                exact AllReadyH.nil
              exact AllReadyH.nil
            exact AllReadyH.nil
          exact AllReadyH.nil
        refine AllReadyH.cons rfl (fun K hK => ?_) ?_
        · go_simp
          refine hK.out _ _ ?_ (fun hS => ?_)
          · exact HRg.out _ ((drew_below V).alloc (Nat.le_refl _) _)
          clear hK K
          try simp only [Act.put, List.setIfInBounds_toArray, List.set_cons_zero, List.set_cons_succ, new_size, drew_size]
          refine wpAnyH_ready (rs := [0]) (by kernel_rfl) (by simp) ?_
          refine AllReadyH.cons rfl (fun K hK => ?_) ?_
          · go_simp
            refine hK.out _ _ ?_ (fun hS => ?_)
            · exact HRg.out _ (((drew_below V).alloc (Nat.le_refl _) _).alloc (by rw [new_size]; exact Nat.le_succ _) _)
            clear hK K
            try simp only [Act.put, List.setIfInBounds_toArray, List.set_cons_zero, List.set_cons_succ, new_size, drew_size]
            refine wpAnyH_ready (rs := [3]) (by kernel_rfl) (by simp) ?_
            refine AllReadyH.cons rfl (fun K hK => ?_) ?_
            · refine step_app rfl (.tmp 63) (.tmp 65) 30 rfl _ _ rfl rfl _ (appW_e3 HMV.out hn10 _) ?_
              intro v1 w1 hA1
              have HA1 := Lib.hid hA1.1
              have HX1 := Lib.hid hA1
              clear hA1
              refine hK.out _ _ ?_ (fun hS => ?_)
              · exact HRg.out _ HA1.out.1.below
              clear hK K
              try simp only [Act.put, List.setIfInBounds_toArray, List.set_cons_zero, List.set_cons_succ, new_size, drew_size]
              refine wpAnyH_ready (rs := [6]) (by kernel_rfl) (by simp) ?_
              refine AllReadyH.cons rfl (fun K hK => ?_) ?_
              · refine step_app rfl (.tmp 66) (.tmp 68) 30 rfl _ _ rfl rfl _ (appW_2 HMV.out.ok HY.out HX1.out hn9 _) ?_
                rintro v2 w2 ⟨g2, cap2, rfl, hb2, hg2, hm2⟩
                have KK := Lib.hid (K0.out.keep hg0V hb2)
                have HA2 := Lib.hid hb2
                have KM := Lib.hid hm2
                have KG := Lib.hid hg2
                have k1c : w2.cell? ⟨g0, 1, none⟩ = some (.slice A R.ws.length c) := KK.out.cell 1 _ rfl
                have k1f : w2.frozen? ⟨g0, 1, none⟩ = false := KK.out.2 1 (by rw [rcs_len (R := { R with st := R.st + 1 }) HL.out]; omega)
                clear hb2 hm2 hg2
                refine hK.out _ _ ?_ (fun hS => ?_)
                · exact HRg.out _ HA2.out
                clear hK K
                try simp only [Act.put, List.setIfInBounds_toArray, List.set_cons_zero, List.set_cons_succ, new_size, drew_size]
                refine wpAnyH_ready (rs := [7]) (by kernel_rfl) (by simp) ?_
                refine AllReadyH.cons rfl (fun K hK => ?_) ?_
                · go_simp
                  refine hK.out _ _ ?_ (fun hS => ?_)
                  · exact HRg.out _ HA2.out
                  clear hK K
                  try simp only [Act.put, List.setIfInBounds_toArray, List.set_cons_zero, List.set_cons_succ, new_size, drew_size]
                  refine wpAnyH_ready (rs := [8]) (by kernel_rfl) (by simp) ?_
                  refine AllReadyH.cons rfl (fun K hK => ?_) ?_
                  · go_simp
                    refine hK.out _ _ ?_ (fun hS => ?_)
                    · exact rangeAt_of (HRg.out _ HA2.out) (Below.heap_setCell _ _ _ _ (by have := HZ.out; show gW ≠ g0; omega))
                    clear hK K
                    try simp only [Act.put, List.setIfInBounds_toArray, List.set_cons_zero, List.set_cons_succ, new_size, drew_size]
                    refine wpAnyH_done (by kernel_rfl) ?_ _
                    have K1 := Lib.hid (show HdD (w2.setCell ⟨g0, 1, none⟩ (.slice (some ⟨g2, 0, none⟩) (R.ws.length + 1) cap2)) g0 (rcs { R with ws := R.ws ++ [{ bk := k, b := pad x, ld := 64 }], st := R.st + 1 } (some ⟨g2, 0, none⟩) cap2) by have t := e1 (R := { R with st := R.st + 1 }) (A' := (some ⟨g2, 0, none⟩)) (c' := cap2) (R.ws ++ [{ bk := k, b := pad x, ld := 64 }]) g0 HL.out KK.out; rw [List.length_append] at t; exact t)
                    have K3 := Lib.hid (show HdD (w2.setCell ⟨g0, 1, none⟩ (.slice (some ⟨g2, 0, none⟩) (R.ws.length + 1) cap2)) gR (rcs zR none 0) from (K2.out.keep HBl.out.2.1 HA2.out).apart (b := g0) (q := 1) (by have := HZ.out; omega) _)
                    have KE := Lib.hid (show Below w.heap.size w (w2.setCell ⟨g0, 1, none⟩ (.slice (some ⟨g2, 0, none⟩) (R.ws.length + 1) cap2)) from (KB.out.trans (HA2.out.mono KB.out.size)).setCell (p := ⟨g0, 1, none⟩) (show w.heap.size ≤ g0 by have := HZ.out; omega) _)
                    go_wp2_with (first | ((with_reducible refine at_slot 71 ?_); refine wpList_load_mid rfl 35 _ rfl _ _ rfl (rcs { R with ws := R.ws ++ [{ bk := k, b := pad x, ld := 64 }], st := R.st + 1 } (some ⟨g2, 0, none⟩) cap2) _ K1.out.1 Try.underlying35 rfl ?_ ?_; (rw [size_D, rcs_len (R := { R with ws := R.ws ++ [{ bk := k, b := pad x, ld := 64 }], st := R.st + 1 }) HL.out])) | ((with_reducible refine at_store 35 ?_); refine wpList_storeH rfl 35 _ _ rfl _ _ _ rfl rfl ?_ ?_ (all_oneCell_toArray (rcs_one _ _ _)) ?_; (focus ((have t := K3.out.th; rw [rcs_len (R := zR) rfl] at t; rw [rcs_size (R := { R with ws := R.ws ++ [{ bk := k, b := pad x, ld := 64 }], st := R.st + 1 }) HL.out]; exact t))); (focus (rw [size_D, rcs_size (R := { R with ws := R.ws ++ [{ bk := k, b := pad x, ld := 64 }], st := R.st + 1 }) HL.out])); intro W9 HW9))
                    have hB9 : Below w.heap.size w W9 := by
                      rw [HW9.out]
                      exact below_setCells KE.out (by have := HZ.out; omega) _ _
                    have hM9 : Rm W9 (some ⟨g2, 0, none⟩) cap2 (R.ws ++ [{ bk := k, b := pad x, ld := 64 }]) := KM.out.same (by rw [HW9.out, size_setCells]; simp [World.setCell]) (fun b hb hlt => by
                      have hbg : g2 = b := by injection hb with hb; injection hb
                      subst hbg
                      have h1 := KG.out
                      have h2 := HBl.out
                      rw [HW9.out, heap_setCells _ _ _ _ _ (by omega), Below.heap_setCell _ _ _ _ (show g2 ≠ g0 by omega)])
                    obtain ⟨h1, h2, h3⟩ := ref_end (R' := { R with ws := R.ws ++ [{ bk := k, b := pad x, ld := 64 }], st := R.st + 1 }) (L := rcs zR none 0) K3.out (rcs_len (R := zR) rfl _ _) HL.out HW9.out KE.out (by have := HZ.out; omega) hM9
                    exact ret_cell_tmp _ gR rfl rfl h1 Try.underlying35 rfl (by rw [size_D, rcs_len (R := { R with ws := R.ws ++ [{ bk := k, b := pad x, ld := 64 }], st := R.st + 1 }) HL.out]) rfl ⟨_, rfl, h2, h3⟩
                  exact AllReadyH.nil
                exact AllReadyH.nil
              exact AllReadyH.nil
            exact AllReadyH.nil
          exact AllReadyH.nil
        exact AllReadyH.nil
      exact AllReadyH.nil
theorem refWrite_any (w : World) (v : Value) (R : RD) (h : RV w v R) (k : Int) (A' : Option Addr) (x : List UInt8) (l c' : Nat) (hl : l = x.length) (hB : Bt w A' x) (hfb : -1 ≤ R.fu ∧ R.fu ≤ 9223372036854775807) (hst : R.st + 1 ≤ 1000000000) (hws : R.ws.length ≤ 900000) :
    Calls Try.prog 13 #[v, .int .i64 k, .slice A' l c'] w (RAns w (wrR R k x)) := by
  subst hl
  obtain ⟨A, c, rfl, hm, hr⟩ := h
  unfold wrR
  by_cases hk : k < 0
  · rw [if_pos (by simp [hasB]; omega)]
    exact refWrite_neg w R A c k A' _ c' hm hr hk
  · by_cases hk2 : (R.n : Int) ≤ k
    · rw [if_pos (by simp [hasB]; omega)]
      exact refWrite_far w R A c k A' _ c' hm hr hk hk2
    · rw [if_neg (by simp [hasB]; omega)]
      by_cases h64 : 64 < x.length
      · rw [if_pos h64]
        exact refWrite_long w R A c k A' _ c' hm hr hk hk2 (by omega)
      · rw [if_neg h64]
        cases hd : R.de with
        | true =>
          rw [if_pos rfl]
          have := refWrite_dead w R A c k A' x c' hm hr hk hk2 (by omega) hB hd
          have e : ({ R with de := true } : RD) = R := by cases R; simp at hd; simp [hd]
          rw [e] at this
          exact this
        | false =>
          rw [if_neg (by simp)]
          by_cases hf : R.fu = 0
          · rw [if_pos hf]
            exact refWrite_fuse w R A c k A' x c' hm hr hk hk2 (by omega) hB hd hf
          · rw [if_neg hf]
            by_cases hp : 0 < R.fu
            · rw [if_pos hp]
              have := refWrite_pos w R A c k A' x c' hm hr hk hk2 (by omega) hB hd hp hfb hst hws
              rw [hd] at this
              exact this
            · rw [if_neg hp]
              have := refWrite_none w R A c k A' x c' hm hr hk hk2 (by omega) hB hd (by omega) hfb hst hws
              rw [hd] at this
              exact this
end Go.Proofs.Ytnbagklgagomfaa
