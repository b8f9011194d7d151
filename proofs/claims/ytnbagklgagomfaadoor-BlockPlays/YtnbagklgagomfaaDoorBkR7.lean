/-
  The document's disks: Crash, walked.
-/
import Derived.Test.YtnbagklgagomfaaDoorBkR6
namespace Go.Proofs.YtnbagklgagomfaaDoor
open Go.RowKit Go.Lib
set_option linter.unusedVariables false
set_option linter.unusedSimpArgs false

/-- What comes of a crash, by the document. -/
def baseR (R : RD) : RD := { newR R.n with ws := R.ws }
def crashR (R : RD) (torn : Int) : RD := if 0 ≤ R.rf.bk ∧ 0 < torn then { newR R.n with ws := R.ws ++ [{ R.rf with ld := (min torn 64).toNat }] } else baseR R
theorem baseR_len (R : RD) : (baseR R).rf.b.length = 64 := List.length_replicate
theorem build_D3 (n : Int) (A : Option Addr) (l c : Nat) (w : World) : (Instr.build 35 #[(0, .int .i64 n), (1, .slice A l c), (2, .agg (wcs (newR 0).rf).toArray), (4, .int .i64 (-1))]).run Tryd.prog w = .ok (.agg (([.int .i64 n, .slice A l c] : List Value) ++ wcs (newR 0).rf ++ ([.bool false, .int .i64 (-1), .int .i64 0] : List Value)).toArray) w := by kernel_rfl
section
variable {P : Program} {ops : Array Oper} {o : Oper} {a : Act} {w : World} {K : Act → World → Prop} {Q : Exit → Act → World → Prop} {E : Prop} {S : World → Prop}
theorem step_allocH (hgd : o.guard = none) (ty : TypeId) (ho : o.op = .alloc ty) (z : Value) (hz : (P.info? ty).map (·.zero) = some (some z)) (h : K (a.put o.dst (.pointer (some ⟨w.heap.size, 0, none⟩))) (w.alloc (.cells z.cells ty))) : if Region.wanted o (yielded ops a.tmps) = true then Oper.wp P o a w K Q else E := by
  have hw : Region.wanted o (yielded ops a.tmps) = true := by simp [Region.wanted, hgd]
  rw [if_pos hw]
  have hr : (execOp a.eval o).run P w = .ok (.value (.pointer (some ⟨w.heap.size, 0, none⟩))) (w.alloc (.cells z.cells ty)) := by
    cases hq : P.info? ty with
    | none => simp [hq] at hz
    | some i =>
      have hi : i.zero = some z := by simpa [hq] using hz
      simp [execOp, ho, Instr.alloc, zeroValue, typeInfo, hq, hi, newVar, newRow]
  unfold Oper.wp
  rw [hr]
  exact h
theorem step_storeH (hgd : o.guard = none) (ty : TypeId) (x y : Operand) (ho : o.op = .store ty x y) (b q : Nat) (cells : Array Value) (hx : a.eval x = .pointer (some ⟨b, q, none⟩)) (hy : a.eval y = .agg cells) (ht : w.there b q cells.size) (hi : (P.info? ty).map (·.size) = some cells.size) (h1 : cells.all (·.oneCell') = true)
    (h : ∀ w', Hid (w' = w.setCells b q cells.toList) → K (a.put o.dst undef) w') : if Region.wanted o (yielded ops a.tmps) = true then Oper.wp P o a w K Q else E := by
  have hw : Region.wanted o (yielded ops a.tmps) = true := by simp [Region.wanted, hgd]
  rw [if_pos hw]
  exact wp_store_mid ty x y ho b q cells hx hy ht hi h1 (h _ rfl)
theorem yields_build (hw : Region.wanted o (yielded ops a.tmps) = true) (ty : TypeId) (parts : Array (Nat × Operand)) (ho : o.op = .build ty parts) (ps : Array (Nat × Value)) (hp : (parts.map fun (i, x) => (i, a.eval x)) = ps) (v : Value) (hr : ∀ w, (Instr.build ty ps).run P w = .ok v w) : YieldsIf P ops S o v a := by
  refine .inl ⟨hw, fun w _ => ?_⟩
  subst hp
  simp only [execOp, ho, Sem.run_bind, hr, Result.andThen_ok, Sem.run_pure]
end
theorem own_same {w w' : World} {base : Nat} {e : TypeId} {size : Nat} {v : Value} {n : Nat} {xs : List Value} (h : w.ownsRow base e size v n xs) (hb : ∀ g, v.ownBlock = some g → w'.heap[g]? = w.heap[g]?) : w'.ownsRow base e size v n xs := by
  refine ⟨h.1, ?_⟩
  rcases h.2 with h0 | ⟨g, cap, cur, rfl, hg, hh, hr⟩
  · exact .inl h0
  · exact .inr ⟨g, cap, cur, rfl, hg, (hb g rfl).trans hh, hr⟩
/-- The copy of the writes, in whatever world that has grown. -/
def Cpy (V W : World) (n : Nat) (xs : List Value) (g : Nat) (v : Value) (w : World) : Prop := ∃ g1 cap, v = .slice (some ⟨g1, 0, none⟩) n cap ∧ V.heap.size ≤ g1 ∧ NewW V w v n xs ∧ W.heap.size ≤ w.heap.size ∧ (∀ q, q < W.heap.size → q ≠ g → w.heap[q]? = W.heap[q]?) ∧ (g1 = g ∨ g1 = W.heap.size)
theorem cpy_any {V W : World} {A : Option Addr} {c : Nat} {ws : List RW} (hs : Rm V A c ws) (hn : ws.length ≤ 1000000) (g : Nat) (hb : Below V.heap.size V W) (ho : W.ownsRow V.heap.size 33 66 (.slice (some ⟨g, 0, none⟩) 0 0) 0 []) (ty : TypeId) :
    ∃ v' w', (Builtin.append_ #[30, 30] ty #[.slice (some ⟨g, 0, none⟩) 0 0, .slice A ws.length c]).run Tryd.prog W = .ok v' w' ∧ Cpy V W ws.length (ws.flatMap wcs) g v' w' := by
  obtain ⟨i, hi, hz0, hz1, hz2⟩ := info_parts info_W
  obtain ⟨v', w', hr, h2, hg, ha⟩ := app_gen (P := Tryd.prog) V.heap.size 30 ty 33 i _ 66 80 Tryd.underlying30 hi hz0 hz1 hz2 (wcs_size List.length_replicate) (by decide) _ 0 [] ho A ws.length c _ (hs.keep hb).srcs (flat_one ws) (by simp only [maxLen]; omega) (by omega) hb.size
  rw [Nat.zero_add, List.nil_append] at h2
  have hg0 : V.heap.size ≤ g := (ho.lt g rfl).1
  have hv : ∃ q, v'.ownBlock = some q ∧ (q = g ∨ q = W.heap.size) := by
    rcases ha with h | h
    · exact ⟨g, by rw [h]; rfl, .inl rfl⟩
    · exact ⟨_, h, .inr rfl⟩
  obtain ⟨q, hq, hqq⟩ := hv
  obtain ⟨g1, cap, rfl, h4, h5, h6, -, -, -⟩ := own_out h2 ⟨q, hq⟩
  have hq1 : g1 = q := by simpa [Value.ownBlock] using hq
  exact ⟨_, w', hr, g1, cap, rfl, h4, ⟨hb.grown hg hb.size (fun k hk => by simp [Value.ownBlock] at hk; omega), h2⟩, hg.size, fun q hq hne => hg.block q hq (fun e => by simp [Value.ownBlock] at e; omega), by rw [hq1]; exact hqq⟩
abbrev ZD : Obj := .cells (Value.agg (rcs zR none 0).toArray).cells 35
theorem wcs_set65 {x : RW} (h : x.b.length = 64) (m : Nat) : (wcs x).set 65 (.int .i64 (m : Int)) = wcs { x with ld := m } := by
  unfold wcs
  rw [List.set_cons_succ, List.set_append_right _ _ (by rw [bcs_len]; omega), bcs_len, h]
  rfl
theorem rf_range {W : World} {g : Nat} {R : RD} {A : Option Addr} {c : Nat} (h : W.rangeAt g 0 (rcs R A c)) : W.rangeAt g 2 (wcs R.rf) := by
  have h1 := (range_part (xs := [.int .i64 (R.n : Int), .slice A R.ws.length c] ++ wcs R.rf) (ys := [.bool R.de, .int .i64 R.fu, .int .i64 (R.st : Int)]) h).1
  exact (range_part (xs := [.int .i64 (R.n : Int), .slice A R.ws.length c]) (ys := wcs R.rf) h1).2
theorem rm_of_own {w : World} {base : Nat} {ws : List RW} {g cap : Nat} (ho : ∀ x ∈ ws, x.b.length = 64 ∧ x.ld ≤ 64) (h : w.ownsRow base 33 66 (.slice (some ⟨g, 0, none⟩) ws.length cap) ws.length (ws.flatMap wcs)) : Rm w (some ⟨g, 0, none⟩) cap ws := by
  obtain ⟨g', c', e, -, hlt, hc, -, hr, -⟩ := own_out h ⟨g, rfl⟩
  injection e with e1 e2 e3
  injection e1 with e1
  injection e1 with e1
  subst e1 e3
  exact ⟨ho, hc, fun _ => ⟨g, rfl, hr, hlt⟩⟩
theorem minN {t : Int} (h : 0 < t) : ∃ m : Nat, (min t 64).toNat = m ∧ min t 64 = (m : Int) ∧ m ≤ 64 := ⟨(min t 64).toNat, rfl, by omega, by omega⟩
/-- The crash's own append: the torn write, behind the copy. -/
theorem app3 {V X7 X8 : World} {ws : List RW} {y : RW} {g1 cap1 : Nat} (h8 : X8 = X7.alloc (.cells (wcs y).toArray 33)) (hy : y.b.length = 64) (hy2 : y.ld ≤ 64) (ho : X7.ownsRow V.heap.size 33 66 (.slice (some ⟨g1, 0, none⟩) ws.length cap1) ws.length (ws.flatMap wcs)) (hok : ∀ x ∈ ws, x.b.length = 64 ∧ x.ld ≤ 64) (hb : Below V.heap.size V X7) (hws : ws.length ≤ 900000) (ty : TypeId) :
    ∃ v' w', (Builtin.append_ #[30, 30] ty #[.slice (some ⟨g1, 0, none⟩) ws.length cap1, .slice (some ⟨X7.heap.size, 0, none⟩) 1 1]).run Tryd.prog X8 = .ok v' w' ∧ ∃ g2 cap2, v' = .slice (some ⟨g2, 0, none⟩) (ws.length + 1) cap2 ∧ (V.heap.size ≤ g2 ∧ (g2 = g1 ∨ g2 = X8.heap.size)) ∧ NewW V w' (.slice (some ⟨g2, 0, none⟩) (ws.length + 1) cap2) (ws.length + 1) (ws.flatMap wcs ++ wcs y) ∧ X8.heap.size ≤ w'.heap.size ∧ (∀ q, q < X7.heap.size → q ≠ g1 → w'.heap[q]? = X7.heap[q]?) := by
  obtain ⟨i, hi, hz0, hz1, hz2⟩ := info_parts info_W
  have b8 : Below X7.heap.size X7 X8 := by rw [h8]; exact new_below _ _
  have hb8 : Below V.heap.size V X8 := hb.trans (b8.mono hb.size)
  have hx := new_range X7 (wcs y).toArray 33
  rw [← h8, List.toList_toArray] at hx
  have ho8 : X8.ownsRow V.heap.size 33 66 (.slice (some ⟨g1, 0, none⟩) ws.length cap1) ws.length (ws.flatMap wcs) := by rw [h8]; exact ho.alloc _
  obtain ⟨v', w', hr, h2, hg, ha⟩ := app_gen (P := Tryd.prog) V.heap.size 30 ty 33 i _ 66 80 Tryd.underlying30 hi hz0 hz1 hz2 (wcs_size List.length_replicate) (by decide) _ ws.length _ ho8 (some ⟨X7.heap.size, 0, none⟩) 1 1 (wcs y) ⟨by rw [wcs_len hy], fun _ => ⟨_, rfl, fun j u hu => by rw [Addr.add_mid]; exact hx j u hu⟩⟩ (wcs_one y) (by simp only [maxLen]; omega) (by omega) hb8.size
  have hg1 : V.heap.size ≤ g1 := (ho.lt g1 rfl).1
  have hv : ∃ q, v'.ownBlock = some q ∧ (q = g1 ∨ q = X8.heap.size) := by
    rcases ha with h | h
    · exact ⟨g1, by rw [h]; rfl, .inl rfl⟩
    · exact ⟨_, h, .inr rfl⟩
  obtain ⟨q, hq, hqq⟩ := hv
  obtain ⟨g2, cap, rfl, h4, -, -, -, -, -⟩ := own_out h2 ⟨q, hq⟩
  have hq1 : g2 = q := by simpa [Value.ownBlock] using hq
  exact ⟨_, w', hr, g2, cap, rfl, ⟨h4, by rw [hq1]; exact hqq⟩, ⟨hb8.grown hg hb8.size (fun k hk => by simp [Value.ownBlock] at hk; omega), h2⟩, hg.size, fun q hq hne => (hg.block q (Nat.lt_of_lt_of_le hq b8.size) (fun e => by simp [Value.ownBlock] at e; omega)).trans (b8.block q hq)⟩
set_option maxRecDepth 100000 in
set_option maxHeartbeats 8000000 in
theorem refCrash_no (w : World) (R : RD) (A : Option Addr) (c : Nat) (torn : Int) (hm : Rm w A c R.ws) (hl : R.rf.b.length = 64) (hws : R.ws.length ≤ 900000) (hno : ¬ (0 ≤ R.rf.bk ∧ 0 < torn)) :
    Calls Tryd.prog 16 #[.agg (rcs R A c).toArray, .int .i64 torn] w (fun e w' => ∃ v, e = .returned v ∧ RV w' v (baseR R) ∧ Below w.heap.size w w') := by
  have HM := Lib.hid hm
  have HL := Lib.hid hl
  clear hm hl
  go_enter Tryd.func16, Tryd.ntmps16
  go_wp2_with (first | ((with_reducible refine at_slot 2 ?_); refine wpList_boxH rfl 35 _ rfl _ rfl ?_; intro W1 HW1; have DW1 := Lib.hid (show HdD W1 w.heap.size (rcs R A c) by rw [HW1.out]; exact hd_new w _ _); have BW1 := Lib.hid (show Below w.heap.size w W1 by rw [HW1.out]; exact new_below w _); have zW1 := Lib.hid (show W1.heap.size = w.heap.size + 1 by rw [HW1.out, new_size])) | ((with_reducible refine at_slot 4 ?_); refine wpList_allocH rfl 35 rfl _ zero_D ?_; intro V HV; have DV := Lib.hid (show HdD V W1.heap.size (rcs zR none 0) by rw [HV.out]; exact hd_new W1 _ _); have BV := Lib.hid (show Below W1.heap.size W1 V by rw [HV.out]; exact new_below W1 _); have zV := Lib.hid (show V.heap.size = W1.heap.size + 1 by rw [HV.out, new_size])))
  have hzs := And.intro zW1.out zV.out
  have E0 := Lib.hid (show HdD V w.heap.size (rcs R A c) from DW1.out.keep (by omega) BV.out)
  have B2 := Lib.hid (show Below w.heap.size w V from BW1.out.trans (BV.out.mono (by omega)))
  have HMV := Lib.hid (HM.out.keep B2.out)
  obtain ⟨gR, hgR⟩ : ∃ g, W1.heap.size = g := ⟨_, rfl⟩
  obtain ⟨g0, hg0⟩ : ∃ g, w.heap.size = g := ⟨_, rfl⟩
  rw [hgR] at DV ⊢
  rw [hg0] at E0 ⊢
  have HZ := Lib.hid (show g0 + 1 = gR ∧ gR + 1 = V.heap.size ∧ w.heap.size = g0 by omega)
  have hg0V : g0 < V.heap.size := by omega
  have hcell : ∀ W, Below V.heap.size V W → W.cell? ⟨g0, 0, none⟩ = some (.int .i64 (R.n : Int)) ∧ W.cell? ⟨g0, 1, none⟩ = some (.slice A R.ws.length c) := fun W hW => ⟨(hW.cell (p := ⟨g0, 0, none⟩) hg0V).trans (E0.out.cell 0 _ (rcs_0 A c)), (hW.cell (p := ⟨g0, 1, none⟩) hg0V).trans (E0.out.cell 1 _ (rcs_1 A c))⟩
  have hn10 : R.ws.length ≤ 1000000 := by omega
  clear hzs hgR hg0 zW1 zV BW1 BV DW1 HW1 HV
  simp only [Act.put, List.setIfInBounds_toArray, List.set_cons_zero, List.set_cons_succ]
  refine wp_region_held_drew (S := fun W' => W'.cell? ⟨g0, 0, none⟩ = some (.int .i64 (R.n : Int)) ∧ W'.cell? ⟨g0, 1, none⟩ = some (.slice A R.ws.length c)) (by kernel_rfl) (hcell _ (drew_below V)) (fun hS => ?_)
  refine wpAnyH_take (i := 0) (v := .pointer (some ⟨g0, 0, none⟩)) rfl (by kernel_rfl) (by kernel_rfl) (by kernel_rfl) (fun _ _ _ h => h) (Or.inl ⟨by rfl, ?_⟩) hS ?_
  · intro w hSw
    go_simp
  simp only [Act.put, List.setIfInBounds_toArray, List.set_cons_zero, List.set_cons_succ]
  refine wpAnyH_take (i := 1) (v := .int .i64 (R.n : Int)) rfl (by kernel_rfl) (by kernel_rfl) (by kernel_rfl) (fun _ _ _ h => h) (Or.inl ⟨by rfl, ?_⟩) hS ?_
  · intro w hSw
    have h1 := hSw.1
    clear hSw hcell
    go_simp
  simp only [Act.put, List.setIfInBounds_toArray, List.set_cons_zero, List.set_cons_succ]
  refine wpAnyH_take (i := 3) (v := .pointer (some ⟨g0, 1, none⟩)) rfl (by kernel_rfl) (by kernel_rfl) (by kernel_rfl) (fun _ _ _ h => h) (Or.inl ⟨by rfl, ?_⟩) hS ?_
  · intro w hSw
    go_simp
  simp only [Act.put, List.setIfInBounds_toArray, List.set_cons_zero, List.set_cons_succ]
  refine wpAnyH_take (i := 4) (v := .slice A R.ws.length c) rfl (by kernel_rfl) (by kernel_rfl) (by kernel_rfl) (fun _ _ _ h => h) (Or.inl ⟨by rfl, ?_⟩) hS ?_
  · intro w hSw
    have h1 := hSw.2
    clear hSw hcell
    go_simp
  simp only [Act.put, List.setIfInBounds_toArray, List.set_cons_zero, List.set_cons_succ]
  refine wpAnyH_take (i := 6) (v := .agg (wcs (newR 0).rf).toArray) rfl (by kernel_rfl) (by kernel_rfl) (by kernel_rfl) (fun _ _ _ h => h) (yields_build (by rfl) 33 _ rfl #[(0, .int .i64 (-1))] (by first | rfl | (simp [Act.eval]; done) | (go_simp; done) | kernel_rfl) _ (fun w => build_W w)) hS ?_
  simp only [Act.put, List.setIfInBounds_toArray, List.set_cons_zero, List.set_cons_succ]
  refine wpAnyH_ready (rs := [2, 8]) (by kernel_rfl) (by simp) ?_
  refine AllReadyH.cons rfl (fun K hK => ?_) ?_
  · go_simp
    refine hK.out _ _ ?_ (fun hS => ?_)
    · exact hcell _ ((drew_below V).alloc (Nat.le_refl _) _)
    clear hK K
    try simp only [Act.put, List.setIfInBounds_toArray, List.set_cons_zero, List.set_cons_succ, new_size, drew_size]
    refine wpAnyH_ready (rs := [5, 8]) (by kernel_rfl) (by simp) ?_
    refine AllReadyH.cons rfl (fun K hK => ?_) ?_
    · refine step_app rfl (.tmp 9) (.tmp 11) 30 rfl _ _ rfl rfl _ (cpy_any (W := (V.drew.alloc EW)) HMV.out hn10 V.heap.size ((drew_below V).alloc (Nat.le_refl _) _) (own_empty V.drew V.heap.size _ 66 (Nat.le_refl _)) _) ?_
      rintro v1 w1 ⟨g1, cap1, rfl, hC⟩
      have HC := Lib.hid hC.2
      have HCg := Lib.hid hC.1
      clear hC
      refine hK.out _ _ ?_ (fun hS => ?_)
      · exact hcell _ HC.out.1.below
      clear hK K
      try simp only [Act.put, List.setIfInBounds_toArray, List.set_cons_zero, List.set_cons_succ, new_size, drew_size]
      refine wpAnyH_take (i := 7) (v := .agg (rcs (baseR R) (some ⟨g1, 0, none⟩) cap1).toArray) rfl (by kernel_rfl) (by kernel_rfl) (by kernel_rfl) (fun _ _ _ h => h) (yields_build (by rfl) 35 _ rfl #[(0, .int .i64 (R.n : Int)), (1, .slice (some ⟨g1, 0, none⟩) R.ws.length cap1), (2, .agg (wcs (newR 0).rf).toArray), (4, .int .i64 (-1))] (by first | rfl | (simp [Act.eval]; done) | (go_simp; done) | kernel_rfl) _ (fun w => build_D3 _ _ _ _ w)) hS ?_
      try simp only [Act.put, List.setIfInBounds_toArray, List.set_cons_zero, List.set_cons_succ, new_size, drew_size]
      refine wpAnyH_ready (rs := [8]) (by kernel_rfl) (by simp) ?_
      refine AllReadyH.cons rfl (fun K hK => ?_) ?_
      · refine step_allocH rfl 35 rfl _ zero_D ?_
        refine hK.out _ _ ?_ (fun hS => ?_)
        · exact hcell _ (HC.out.1.below.alloc HC.out.1.below.size _)
        clear hK K
        try simp only [Act.put, List.setIfInBounds_toArray, List.set_cons_zero, List.set_cons_succ, new_size, drew_size]
        refine wpAnyH_ready (rs := [9]) (by kernel_rfl) (by simp) ?_
        refine AllReadyH.cons rfl (fun K hK => ?_) ?_
        · have HD0 := Lib.hid (show HdD (w1.alloc ZD) w1.heap.size (rcs zR none 0) from hd_new w1 _ _)
          have HOw := Lib.hid (show ((w1.alloc ZD)).ownsRow V.heap.size 33 66 (.slice (some ⟨g1, 0, none⟩) R.ws.length cap1) R.ws.length (R.ws.flatMap wcs) from HC.out.1.own.alloc _)
          have HBw := Lib.hid (show Below V.heap.size V ((w1.alloc ZD)) from HC.out.1.below.alloc HC.out.1.below.size _)
          have HNe := Lib.hid (show g1 ≠ w1.heap.size from (by have h1 := (HC.out.1.own.lt g1 rfl).2; omega))
          have HVl := Lib.hid (show V.heap.size ≤ w1.heap.size from HC.out.1.below.size)
          have HgO := Lib.hid (show w1.heap.size < ((w1.alloc ZD)).heap.size from (by rw [new_size]; exact Nat.lt_succ_self _))
          refine step_storeH rfl 35 _ _ rfl w1.heap.size 0 (rcs (baseR R) (some ⟨g1, 0, none⟩) cap1).toArray rfl rfl (by have t := HD0.out.th; rw [rcs_len (R := zR) rfl] at t; rw [rcs_size (baseR_len R)]; exact t) (by rw [size_D, rcs_size (baseR_len R)]) (all_oneCell_toArray (rcs_one _ _ _)) ?_
          intro W5 HW5
          have HD5 := Lib.hid (show HdD W5 w1.heap.size (rcs (baseR R) (some ⟨g1, 0, none⟩) cap1) by have e := HW5.out; rw [List.toList_toArray] at e; rw [e]; exact HD0.out.all (by rw [rcs_len (baseR_len R), rcs_len (R := zR) rfl]))
          have HB5 := Lib.hid (show Below V.heap.size V W5 by rw [HW5.out]; exact below_setCells HBw.out HVl.out _ _)
          have HO5 := Lib.hid (show W5.ownsRow V.heap.size 33 66 (.slice (some ⟨g1, 0, none⟩) R.ws.length cap1) R.ws.length (R.ws.flatMap wcs) from own_same HOw.out (fun g hg => by have hg' : g1 = g := (by simpa [Value.ownBlock] using hg); subst hg'; rw [HW5.out]; exact heap_setCells _ _ _ _ _ HNe.out))
          have HG5 := Lib.hid (show w1.heap.size < W5.heap.size by rw [HW5.out, size_setCells]; exact HgO.out)
          refine hK.out _ _ ?_ (fun hS => ?_)
          · exact hcell _ HB5.out
          clear hK K
          try simp only [Act.put, List.setIfInBounds_toArray, List.set_cons_zero, List.set_cons_succ, new_size, drew_size]
          refine wpAnyH_done (by kernel_rfl) ?_ _
          have hA1 := HCg.out
          obtain ⟨gO, hgO⟩ : ∃ g, g = w1.heap.size := ⟨_, rfl⟩
          rw [← hgO] at HD5 HG5 HNe ⊢
          have HVm := Lib.hid (show V.heap.size ≤ gO by rw [hgO]; exact HVl.out)
          clear hgO HC HVl
          have E5 := Lib.hid (show HdD W5 g0 (rcs R A c) from E0.out.keep hg0V HB5.out)
          have R5 := Lib.hid (show HdD W5 gR (rcs zR none 0) from DV.out.keep (by have := HZ.out; omega) HB5.out)
          have BB5 := Lib.hid (show Below w.heap.size w W5 from B2.out.trans (HB5.out.mono B2.out.size))
          have c2 : W5.cell? ⟨g0, 2, none⟩ = some (.int .i64 R.rf.bk) := E5.out.cell 2 _ (rcs_2 A c)
          have HG1 := Lib.hid hA1
          clear hA1 HW5 hcell
          by_cases hbk : 0 ≤ R.rf.bk
          · have htn : ¬ 0 < torn := fun h => hno ⟨hbk, h⟩
            go_wp2_with (first | ((with_reducible refine at_slot 34 ?_); refine wpList_load_mid rfl 35 _ rfl _ _ rfl (rcs (baseR R) (some ⟨g1, 0, none⟩) cap1) _ HD5.out.1 Tryd.underlying35 rfl ?_ ?_; (rw [size_D, rcs_len (baseR_len R)])) | ((with_reducible refine at_store 35 ?_); refine wpList_storeH rfl 35 _ _ rfl _ _ _ rfl rfl ?_ ?_ (all_oneCell_toArray (rcs_one _ _ _)) ?_; (focus ((have t := R5.out.th; rw [rcs_len (R := zR) rfl] at t; rw [rcs_size (baseR_len R)]; exact t))); (focus (rw [size_D, rcs_size (baseR_len R)])); intro W9 HW9))
            have hM9 : Rm W9 (some ⟨g1, 0, none⟩) cap1 (baseR R).ws := rm_of_own HMV.out.ok (own_same HO5.out (fun g hg => by
              have hg' : g1 = g := by simpa [Value.ownBlock] using hg
              subst hg'
              rw [HW9.out]
              exact heap_setCells _ _ _ _ _ (by have := HZ.out; have := HG1.out; omega)))
            obtain ⟨h1, h2, h3⟩ := ref_end (R' := baseR R) (L := rcs zR none 0) R5.out (rcs_len (R := zR) rfl _ _) (baseR_len R) HW9.out BB5.out (by have := HZ.out; omega) hM9
            exact ret_cell _ gR rfl rfl h1 Tryd.underlying35 rfl (by rw [size_D, rcs_len (baseR_len R)]) rfl ⟨_, rfl, h2, h3⟩
          · go_wp2_with (first | ((with_reducible refine at_slot 34 ?_); refine wpList_load_mid rfl 35 _ rfl _ _ rfl (rcs (baseR R) (some ⟨g1, 0, none⟩) cap1) _ HD5.out.1 Tryd.underlying35 rfl ?_ ?_; (rw [size_D, rcs_len (baseR_len R)])) | ((with_reducible refine at_store 35 ?_); refine wpList_storeH rfl 35 _ _ rfl _ _ _ rfl rfl ?_ ?_ (all_oneCell_toArray (rcs_one _ _ _)) ?_; (focus ((have t := R5.out.th; rw [rcs_len (R := zR) rfl] at t; rw [rcs_size (baseR_len R)]; exact t))); (focus (rw [size_D, rcs_size (baseR_len R)])); intro W9 HW9))
            have hM9 : Rm W9 (some ⟨g1, 0, none⟩) cap1 (baseR R).ws := rm_of_own HMV.out.ok (own_same HO5.out (fun g hg => by
              have hg' : g1 = g := by simpa [Value.ownBlock] using hg
              subst hg'
              rw [HW9.out]
              exact heap_setCells _ _ _ _ _ (by have := HZ.out; have := HG1.out; omega)))
            obtain ⟨h1, h2, h3⟩ := ref_end (R' := baseR R) (L := rcs zR none 0) R5.out (rcs_len (R := zR) rfl _ _) (baseR_len R) HW9.out BB5.out (by have := HZ.out; omega) hM9
            exact ret_cell _ gR rfl rfl h1 Tryd.underlying35 rfl (by rw [size_D, rcs_len (baseR_len R)]) rfl ⟨_, rfl, h2, h3⟩
        exact AllReadyH.nil
      exact AllReadyH.nil
    refine AllReadyH.cons rfl (fun K hK => ?_) ?_
    · refine step_allocH rfl 35 rfl _ zero_D ?_
      refine hK.out _ _ ?_ (fun hS => ?_)
      · exact hcell _ (((drew_below V).alloc (Nat.le_refl _) _).alloc (by rw [new_size]; exact Nat.le_succ _) _)
      clear hK K
      try simp only [Act.put, List.setIfInBounds_toArray, List.set_cons_zero, List.set_cons_succ, new_size, drew_size]
      refine wpAnyH_ready (rs := [5]) (by kernel_rfl) (by simp) ?_
      refine AllReadyH.cons rfl (fun K hK => ?_) ?_
      · refine step_app rfl (.tmp 9) (.tmp 11) 30 rfl _ _ rfl rfl _ (cpy_any (W := ((V.drew.alloc EW).alloc ZD)) HMV.out hn10 V.heap.size (((drew_below V).alloc (Nat.le_refl _) _).alloc (by rw [new_size]; exact Nat.le_succ _) _) ((own_empty V.drew V.heap.size _ 66 (Nat.le_refl _)).alloc _) _) ?_
        rintro v1 w1 ⟨g1, cap1, rfl, hC⟩
        have HC := Lib.hid hC.2
        have HCg := Lib.hid hC.1
        clear hC
        refine hK.out _ _ ?_ (fun hS => ?_)
        · exact hcell _ HC.out.1.below
        clear hK K
        try simp only [Act.put, List.setIfInBounds_toArray, List.set_cons_zero, List.set_cons_succ, new_size, drew_size]
        refine wpAnyH_take (i := 7) (v := .agg (rcs (baseR R) (some ⟨g1, 0, none⟩) cap1).toArray) rfl (by kernel_rfl) (by kernel_rfl) (by kernel_rfl) (fun _ _ _ h => h) (yields_build (by rfl) 35 _ rfl #[(0, .int .i64 (R.n : Int)), (1, .slice (some ⟨g1, 0, none⟩) R.ws.length cap1), (2, .agg (wcs (newR 0).rf).toArray), (4, .int .i64 (-1))] (by first | rfl | (simp [Act.eval]; done) | (go_simp; done) | kernel_rfl) _ (fun w => build_D3 _ _ _ _ w)) hS ?_
        try simp only [Act.put, List.setIfInBounds_toArray, List.set_cons_zero, List.set_cons_succ, new_size, drew_size]
        refine wpAnyH_ready (rs := [9]) (by kernel_rfl) (by simp) ?_
        refine AllReadyH.cons rfl (fun K hK => ?_) ?_
        · have HD0 := Lib.hid (show HdD w1 (V.heap.size + 1) (rcs zR none 0) from (show HdD ((V.drew.alloc EW).alloc ZD) (V.heap.size + 1) (rcs zR none 0) from (by have t := hd_new (V.drew.alloc EW) (rcs zR none 0) 35; rw [new_size] at t; exact t)).same (HC.out.2.2.1 (V.heap.size + 1) (by rw [new_size, new_size]; exact Nat.lt_succ_self _) (by omega)))
          have HOw := Lib.hid (show (w1).ownsRow V.heap.size 33 66 (.slice (some ⟨g1, 0, none⟩) R.ws.length cap1) R.ws.length (R.ws.flatMap wcs) from HC.out.1.own)
          have HBw := Lib.hid (show Below V.heap.size V (w1) from HC.out.1.below)
          have HNe := Lib.hid (show g1 ≠ (V.heap.size + 1) from (by have h1 := HC.out.2.2.2; have h2 := HC.out.2.1; rw [new_size, new_size] at h1 h2; have h3 := drew_size V; rcases h1 with h | h <;> omega))
          have HVl := Lib.hid (show V.heap.size ≤ (V.heap.size + 1) from Nat.le_succ _)
          have HgO := Lib.hid (show (V.heap.size + 1) < (w1).heap.size from (by have h2 := HC.out.2.1; rw [new_size, new_size] at h2; have h3 := drew_size V; omega))
          refine step_storeH rfl 35 _ _ rfl (V.heap.size + 1) 0 (rcs (baseR R) (some ⟨g1, 0, none⟩) cap1).toArray rfl rfl (by have t := HD0.out.th; rw [rcs_len (R := zR) rfl] at t; rw [rcs_size (baseR_len R)]; exact t) (by rw [size_D, rcs_size (baseR_len R)]) (all_oneCell_toArray (rcs_one _ _ _)) ?_
          intro W5 HW5
          have HD5 := Lib.hid (show HdD W5 (V.heap.size + 1) (rcs (baseR R) (some ⟨g1, 0, none⟩) cap1) by have e := HW5.out; rw [List.toList_toArray] at e; rw [e]; exact HD0.out.all (by rw [rcs_len (baseR_len R), rcs_len (R := zR) rfl]))
          have HB5 := Lib.hid (show Below V.heap.size V W5 by rw [HW5.out]; exact below_setCells HBw.out HVl.out _ _)
          have HO5 := Lib.hid (show W5.ownsRow V.heap.size 33 66 (.slice (some ⟨g1, 0, none⟩) R.ws.length cap1) R.ws.length (R.ws.flatMap wcs) from own_same HOw.out (fun g hg => by have hg' : g1 = g := (by simpa [Value.ownBlock] using hg); subst hg'; rw [HW5.out]; exact heap_setCells _ _ _ _ _ HNe.out))
          have HG5 := Lib.hid (show (V.heap.size + 1) < W5.heap.size by rw [HW5.out, size_setCells]; exact HgO.out)
          refine hK.out _ _ ?_ (fun hS => ?_)
          · exact hcell _ HB5.out
          clear hK K
          try simp only [Act.put, List.setIfInBounds_toArray, List.set_cons_zero, List.set_cons_succ, new_size, drew_size]
          refine wpAnyH_done (by kernel_rfl) ?_ _
          have hA1 := HCg.out
          obtain ⟨gO, hgO⟩ : ∃ g, g = (V.heap.size + 1) := ⟨_, rfl⟩
          rw [← hgO] at HD5 HG5 HNe ⊢
          have HVm := Lib.hid (show V.heap.size ≤ gO by rw [hgO]; exact HVl.out)
          clear hgO HC HVl
          have E5 := Lib.hid (show HdD W5 g0 (rcs R A c) from E0.out.keep hg0V HB5.out)
          have R5 := Lib.hid (show HdD W5 gR (rcs zR none 0) from DV.out.keep (by have := HZ.out; omega) HB5.out)
          have BB5 := Lib.hid (show Below w.heap.size w W5 from B2.out.trans (HB5.out.mono B2.out.size))
          have c2 : W5.cell? ⟨g0, 2, none⟩ = some (.int .i64 R.rf.bk) := E5.out.cell 2 _ (rcs_2 A c)
          have HG1 := Lib.hid hA1
          clear hA1 HW5 hcell
          by_cases hbk : 0 ≤ R.rf.bk
          · have htn : ¬ 0 < torn := fun h => hno ⟨hbk, h⟩
            go_wp2_with (first | ((with_reducible refine at_slot 34 ?_); refine wpList_load_mid rfl 35 _ rfl _ _ rfl (rcs (baseR R) (some ⟨g1, 0, none⟩) cap1) _ HD5.out.1 Tryd.underlying35 rfl ?_ ?_; (rw [size_D, rcs_len (baseR_len R)])) | ((with_reducible refine at_store 35 ?_); refine wpList_storeH rfl 35 _ _ rfl _ _ _ rfl rfl ?_ ?_ (all_oneCell_toArray (rcs_one _ _ _)) ?_; (focus ((have t := R5.out.th; rw [rcs_len (R := zR) rfl] at t; rw [rcs_size (baseR_len R)]; exact t))); (focus (rw [size_D, rcs_size (baseR_len R)])); intro W9 HW9))
            have hM9 : Rm W9 (some ⟨g1, 0, none⟩) cap1 (baseR R).ws := rm_of_own HMV.out.ok (own_same HO5.out (fun g hg => by
              have hg' : g1 = g := by simpa [Value.ownBlock] using hg
              subst hg'
              rw [HW9.out]
              exact heap_setCells _ _ _ _ _ (by have := HZ.out; have := HG1.out; omega)))
            obtain ⟨h1, h2, h3⟩ := ref_end (R' := baseR R) (L := rcs zR none 0) R5.out (rcs_len (R := zR) rfl _ _) (baseR_len R) HW9.out BB5.out (by have := HZ.out; omega) hM9
            exact ret_cell _ gR rfl rfl h1 Tryd.underlying35 rfl (by rw [size_D, rcs_len (baseR_len R)]) rfl ⟨_, rfl, h2, h3⟩
          · go_wp2_with (first | ((with_reducible refine at_slot 34 ?_); refine wpList_load_mid rfl 35 _ rfl _ _ rfl (rcs (baseR R) (some ⟨g1, 0, none⟩) cap1) _ HD5.out.1 Tryd.underlying35 rfl ?_ ?_; (rw [size_D, rcs_len (baseR_len R)])) | ((with_reducible refine at_store 35 ?_); refine wpList_storeH rfl 35 _ _ rfl _ _ _ rfl rfl ?_ ?_ (all_oneCell_toArray (rcs_one _ _ _)) ?_; (focus ((have t := R5.out.th; rw [rcs_len (R := zR) rfl] at t; rw [rcs_size (baseR_len R)]; exact t))); (focus (rw [size_D, rcs_size (baseR_len R)])); intro W9 HW9))
            have hM9 : Rm W9 (some ⟨g1, 0, none⟩) cap1 (baseR R).ws := rm_of_own HMV.out.ok (own_same HO5.out (fun g hg => by
              have hg' : g1 = g := by simpa [Value.ownBlock] using hg
              subst hg'
              rw [HW9.out]
              exact heap_setCells _ _ _ _ _ (by have := HZ.out; have := HG1.out; omega)))
            obtain ⟨h1, h2, h3⟩ := ref_end (R' := baseR R) (L := rcs zR none 0) R5.out (rcs_len (R := zR) rfl _ _) (baseR_len R) HW9.out BB5.out (by have := HZ.out; omega) hM9
            exact ret_cell _ gR rfl rfl h1 Tryd.underlying35 rfl (by rw [size_D, rcs_len (baseR_len R)]) rfl ⟨_, rfl, h2, h3⟩
        exact AllReadyH.nil
      exact AllReadyH.nil
    exact AllReadyH.nil
  refine AllReadyH.cons rfl (fun K hK => ?_) ?_
  · refine step_allocH rfl 35 rfl _ zero_D ?_
    refine hK.out _ _ ?_ (fun hS => ?_)
    · exact hcell _ ((drew_below V).alloc (Nat.le_refl _) _)
    clear hK K
    try simp only [Act.put, List.setIfInBounds_toArray, List.set_cons_zero, List.set_cons_succ, new_size, drew_size]
    refine wpAnyH_ready (rs := [2]) (by kernel_rfl) (by simp) ?_
    refine AllReadyH.cons rfl (fun K hK => ?_) ?_
    · go_simp
      refine hK.out _ _ ?_ (fun hS => ?_)
      · exact hcell _ (((drew_below V).alloc (Nat.le_refl _) _).alloc (by rw [new_size]; exact Nat.le_succ _) _)
      clear hK K
      try simp only [Act.put, List.setIfInBounds_toArray, List.set_cons_zero, List.set_cons_succ, new_size, drew_size]
      refine wpAnyH_ready (rs := [5]) (by kernel_rfl) (by simp) ?_
      refine AllReadyH.cons rfl (fun K hK => ?_) ?_
      · refine step_app rfl (.tmp 9) (.tmp 11) 30 rfl _ _ rfl rfl _ (cpy_any (W := ((V.drew.alloc ZD).alloc EW)) HMV.out hn10 (V.heap.size + 1) (((drew_below V).alloc (Nat.le_refl _) _).alloc (by rw [new_size]; exact Nat.le_succ _) _) (by have t := own_empty (V.drew.alloc ZD) V.heap.size 33 66 (by rw [new_size]; exact Nat.le_succ _); rw [new_size] at t; exact t) _) ?_
        rintro v1 w1 ⟨g1, cap1, rfl, hC⟩
        have HC := Lib.hid hC.2
        have HCg := Lib.hid hC.1
        clear hC
        refine hK.out _ _ ?_ (fun hS => ?_)
        · exact hcell _ HC.out.1.below
        clear hK K
        try simp only [Act.put, List.setIfInBounds_toArray, List.set_cons_zero, List.set_cons_succ, new_size, drew_size]
        refine wpAnyH_take (i := 7) (v := .agg (rcs (baseR R) (some ⟨g1, 0, none⟩) cap1).toArray) rfl (by kernel_rfl) (by kernel_rfl) (by kernel_rfl) (fun _ _ _ h => h) (yields_build (by rfl) 35 _ rfl #[(0, .int .i64 (R.n : Int)), (1, .slice (some ⟨g1, 0, none⟩) R.ws.length cap1), (2, .agg (wcs (newR 0).rf).toArray), (4, .int .i64 (-1))] (by first | rfl | (simp [Act.eval]; done) | (go_simp; done) | kernel_rfl) _ (fun w => build_D3 _ _ _ _ w)) hS ?_
        try simp only [Act.put, List.setIfInBounds_toArray, List.set_cons_zero, List.set_cons_succ, new_size, drew_size]
        refine wpAnyH_ready (rs := [9]) (by kernel_rfl) (by simp) ?_
        refine AllReadyH.cons rfl (fun K hK => ?_) ?_
        · have HD0 := Lib.hid (show HdD w1 V.heap.size (rcs zR none 0) from (hd_new V.drew _ _).same ((HC.out.2.2.1 V.heap.size (by rw [new_size, new_size]; exact Nat.lt_succ_of_lt (Nat.lt_succ_self _)) (by omega)).trans (Below.heap_alloc _ _ _ (by rw [new_size]; exact Nat.lt_succ_self _))))
          have HOw := Lib.hid (show (w1).ownsRow V.heap.size 33 66 (.slice (some ⟨g1, 0, none⟩) R.ws.length cap1) R.ws.length (R.ws.flatMap wcs) from HC.out.1.own)
          have HBw := Lib.hid (show Below V.heap.size V (w1) from HC.out.1.below)
          have HNe := Lib.hid (show g1 ≠ V.heap.size from (by have h1 := HC.out.2.2.2; have h2 := HC.out.2.1; rw [new_size, new_size] at h1 h2; have h3 := drew_size V; rcases h1 with h | h <;> omega))
          have HVl := Lib.hid (show V.heap.size ≤ V.heap.size from Nat.le_refl _)
          have HgO := Lib.hid (show V.heap.size < (w1).heap.size from (by have h2 := HC.out.2.1; rw [new_size, new_size] at h2; have h3 := drew_size V; omega))
          refine step_storeH rfl 35 _ _ rfl V.heap.size 0 (rcs (baseR R) (some ⟨g1, 0, none⟩) cap1).toArray rfl rfl (by have t := HD0.out.th; rw [rcs_len (R := zR) rfl] at t; rw [rcs_size (baseR_len R)]; exact t) (by rw [size_D, rcs_size (baseR_len R)]) (all_oneCell_toArray (rcs_one _ _ _)) ?_
          intro W5 HW5
          have HD5 := Lib.hid (show HdD W5 V.heap.size (rcs (baseR R) (some ⟨g1, 0, none⟩) cap1) by have e := HW5.out; rw [List.toList_toArray] at e; rw [e]; exact HD0.out.all (by rw [rcs_len (baseR_len R), rcs_len (R := zR) rfl]))
          have HB5 := Lib.hid (show Below V.heap.size V W5 by rw [HW5.out]; exact below_setCells HBw.out HVl.out _ _)
          have HO5 := Lib.hid (show W5.ownsRow V.heap.size 33 66 (.slice (some ⟨g1, 0, none⟩) R.ws.length cap1) R.ws.length (R.ws.flatMap wcs) from own_same HOw.out (fun g hg => by have hg' : g1 = g := (by simpa [Value.ownBlock] using hg); subst hg'; rw [HW5.out]; exact heap_setCells _ _ _ _ _ HNe.out))
          have HG5 := Lib.hid (show V.heap.size < W5.heap.size by rw [HW5.out, size_setCells]; exact HgO.out)
          refine hK.out _ _ ?_ (fun hS => ?_)
          · exact hcell _ HB5.out
          clear hK K
          try simp only [Act.put, List.setIfInBounds_toArray, List.set_cons_zero, List.set_cons_succ, new_size, drew_size]
          refine wpAnyH_done (by kernel_rfl) ?_ _
          have hA1 := HCg.out
          obtain ⟨gO, hgO⟩ : ∃ g, g = V.heap.size := ⟨_, rfl⟩
          rw [← hgO] at HD5 HG5 HNe ⊢
          have HVm := Lib.hid (show V.heap.size ≤ gO by rw [hgO]; exact HVl.out)
          clear hgO HC HVl
          have E5 := Lib.hid (show HdD W5 g0 (rcs R A c) from E0.out.keep hg0V HB5.out)
          have R5 := Lib.hid (show HdD W5 gR (rcs zR none 0) from DV.out.keep (by have := HZ.out; omega) HB5.out)
          have BB5 := Lib.hid (show Below w.heap.size w W5 from B2.out.trans (HB5.out.mono B2.out.size))
          have c2 : W5.cell? ⟨g0, 2, none⟩ = some (.int .i64 R.rf.bk) := E5.out.cell 2 _ (rcs_2 A c)
          have HG1 := Lib.hid hA1
          clear hA1 HW5 hcell
          by_cases hbk : 0 ≤ R.rf.bk
          · have htn : ¬ 0 < torn := fun h => hno ⟨hbk, h⟩
            go_wp2_with (first | ((with_reducible refine at_slot 34 ?_); refine wpList_load_mid rfl 35 _ rfl _ _ rfl (rcs (baseR R) (some ⟨g1, 0, none⟩) cap1) _ HD5.out.1 Tryd.underlying35 rfl ?_ ?_; (rw [size_D, rcs_len (baseR_len R)])) | ((with_reducible refine at_store 35 ?_); refine wpList_storeH rfl 35 _ _ rfl _ _ _ rfl rfl ?_ ?_ (all_oneCell_toArray (rcs_one _ _ _)) ?_; (focus ((have t := R5.out.th; rw [rcs_len (R := zR) rfl] at t; rw [rcs_size (baseR_len R)]; exact t))); (focus (rw [size_D, rcs_size (baseR_len R)])); intro W9 HW9))
            have hM9 : Rm W9 (some ⟨g1, 0, none⟩) cap1 (baseR R).ws := rm_of_own HMV.out.ok (own_same HO5.out (fun g hg => by
              have hg' : g1 = g := by simpa [Value.ownBlock] using hg
              subst hg'
              rw [HW9.out]
              exact heap_setCells _ _ _ _ _ (by have := HZ.out; have := HG1.out; omega)))
            obtain ⟨h1, h2, h3⟩ := ref_end (R' := baseR R) (L := rcs zR none 0) R5.out (rcs_len (R := zR) rfl _ _) (baseR_len R) HW9.out BB5.out (by have := HZ.out; omega) hM9
            exact ret_cell _ gR rfl rfl h1 Tryd.underlying35 rfl (by rw [size_D, rcs_len (baseR_len R)]) rfl ⟨_, rfl, h2, h3⟩
          · go_wp2_with (first | ((with_reducible refine at_slot 34 ?_); refine wpList_load_mid rfl 35 _ rfl _ _ rfl (rcs (baseR R) (some ⟨g1, 0, none⟩) cap1) _ HD5.out.1 Tryd.underlying35 rfl ?_ ?_; (rw [size_D, rcs_len (baseR_len R)])) | ((with_reducible refine at_store 35 ?_); refine wpList_storeH rfl 35 _ _ rfl _ _ _ rfl rfl ?_ ?_ (all_oneCell_toArray (rcs_one _ _ _)) ?_; (focus ((have t := R5.out.th; rw [rcs_len (R := zR) rfl] at t; rw [rcs_size (baseR_len R)]; exact t))); (focus (rw [size_D, rcs_size (baseR_len R)])); intro W9 HW9))
            have hM9 : Rm W9 (some ⟨g1, 0, none⟩) cap1 (baseR R).ws := rm_of_own HMV.out.ok (own_same HO5.out (fun g hg => by
              have hg' : g1 = g := by simpa [Value.ownBlock] using hg
              subst hg'
              rw [HW9.out]
              exact heap_setCells _ _ _ _ _ (by have := HZ.out; have := HG1.out; omega)))
            obtain ⟨h1, h2, h3⟩ := ref_end (R' := baseR R) (L := rcs zR none 0) R5.out (rcs_len (R := zR) rfl _ _) (baseR_len R) HW9.out BB5.out (by have := HZ.out; omega) hM9
            exact ret_cell _ gR rfl rfl h1 Tryd.underlying35 rfl (by rw [size_D, rcs_len (baseR_len R)]) rfl ⟨_, rfl, h2, h3⟩
        exact AllReadyH.nil
      exact AllReadyH.nil
    exact AllReadyH.nil
  exact AllReadyH.nil
set_option maxRecDepth 100000 in
set_option maxHeartbeats 8000000 in
theorem refCrash_yes (w : World) (R : RD) (A : Option Addr) (c : Nat) (torn : Int) (hm : Rm w A c R.ws) (hl : R.rf.b.length = 64) (hws : R.ws.length ≤ 900000) (hyes : 0 ≤ R.rf.bk ∧ 0 < torn) :
    Calls Tryd.prog 16 #[.agg (rcs R A c).toArray, .int .i64 torn] w (fun e w' => ∃ v, e = .returned v ∧ RV w' v ({ newR R.n with ws := R.ws ++ [{ R.rf with ld := (min torn 64).toNat }] }) ∧ Below w.heap.size w w') := by
  have HM := Lib.hid hm
  have HL := Lib.hid hl
  clear hm hl
  go_enter Tryd.func16, Tryd.ntmps16
  go_wp2_with (first | ((with_reducible refine at_slot 2 ?_); refine wpList_boxH rfl 35 _ rfl _ rfl ?_; intro W1 HW1; have DW1 := Lib.hid (show HdD W1 w.heap.size (rcs R A c) by rw [HW1.out]; exact hd_new w _ _); have BW1 := Lib.hid (show Below w.heap.size w W1 by rw [HW1.out]; exact new_below w _); have zW1 := Lib.hid (show W1.heap.size = w.heap.size + 1 by rw [HW1.out, new_size])) | ((with_reducible refine at_slot 4 ?_); refine wpList_allocH rfl 35 rfl _ zero_D ?_; intro V HV; have DV := Lib.hid (show HdD V W1.heap.size (rcs zR none 0) by rw [HV.out]; exact hd_new W1 _ _); have BV := Lib.hid (show Below W1.heap.size W1 V by rw [HV.out]; exact new_below W1 _); have zV := Lib.hid (show V.heap.size = W1.heap.size + 1 by rw [HV.out, new_size])))
  have hzs := And.intro zW1.out zV.out
  have E0 := Lib.hid (show HdD V w.heap.size (rcs R A c) from DW1.out.keep (by omega) BV.out)
  have B2 := Lib.hid (show Below w.heap.size w V from BW1.out.trans (BV.out.mono (by omega)))
  have HMV := Lib.hid (HM.out.keep B2.out)
  obtain ⟨gR, hgR⟩ : ∃ g, W1.heap.size = g := ⟨_, rfl⟩
  obtain ⟨g0, hg0⟩ : ∃ g, w.heap.size = g := ⟨_, rfl⟩
  rw [hgR] at DV ⊢
  rw [hg0] at E0 ⊢
  have HZ := Lib.hid (show g0 + 1 = gR ∧ gR + 1 = V.heap.size ∧ w.heap.size = g0 by omega)
  have hg0V : g0 < V.heap.size := by omega
  have hcell : ∀ W, Below V.heap.size V W → W.cell? ⟨g0, 0, none⟩ = some (.int .i64 (R.n : Int)) ∧ W.cell? ⟨g0, 1, none⟩ = some (.slice A R.ws.length c) := fun W hW => ⟨(hW.cell (p := ⟨g0, 0, none⟩) hg0V).trans (E0.out.cell 0 _ (rcs_0 A c)), (hW.cell (p := ⟨g0, 1, none⟩) hg0V).trans (E0.out.cell 1 _ (rcs_1 A c))⟩
  have hn10 : R.ws.length ≤ 1000000 := by omega
  clear hzs hgR hg0 zW1 zV BW1 BV DW1 HW1 HV
  simp only [Act.put, List.setIfInBounds_toArray, List.set_cons_zero, List.set_cons_succ]
  refine wp_region_held_drew (S := fun W' => W'.cell? ⟨g0, 0, none⟩ = some (.int .i64 (R.n : Int)) ∧ W'.cell? ⟨g0, 1, none⟩ = some (.slice A R.ws.length c)) (by kernel_rfl) (hcell _ (drew_below V)) (fun hS => ?_)
  refine wpAnyH_take (i := 0) (v := .pointer (some ⟨g0, 0, none⟩)) rfl (by kernel_rfl) (by kernel_rfl) (by kernel_rfl) (fun _ _ _ h => h) (Or.inl ⟨by rfl, ?_⟩) hS ?_
  · intro w hSw
    go_simp
  simp only [Act.put, List.setIfInBounds_toArray, List.set_cons_zero, List.set_cons_succ]
  refine wpAnyH_take (i := 1) (v := .int .i64 (R.n : Int)) rfl (by kernel_rfl) (by kernel_rfl) (by kernel_rfl) (fun _ _ _ h => h) (Or.inl ⟨by rfl, ?_⟩) hS ?_
  · intro w hSw
    have h1 := hSw.1
    clear hSw hcell
    go_simp
  simp only [Act.put, List.setIfInBounds_toArray, List.set_cons_zero, List.set_cons_succ]
  refine wpAnyH_take (i := 3) (v := .pointer (some ⟨g0, 1, none⟩)) rfl (by kernel_rfl) (by kernel_rfl) (by kernel_rfl) (fun _ _ _ h => h) (Or.inl ⟨by rfl, ?_⟩) hS ?_
  · intro w hSw
    go_simp
  simp only [Act.put, List.setIfInBounds_toArray, List.set_cons_zero, List.set_cons_succ]
  refine wpAnyH_take (i := 4) (v := .slice A R.ws.length c) rfl (by kernel_rfl) (by kernel_rfl) (by kernel_rfl) (fun _ _ _ h => h) (Or.inl ⟨by rfl, ?_⟩) hS ?_
  · intro w hSw
    have h1 := hSw.2
    clear hSw hcell
    go_simp
  simp only [Act.put, List.setIfInBounds_toArray, List.set_cons_zero, List.set_cons_succ]
  refine wpAnyH_take (i := 6) (v := .agg (wcs (newR 0).rf).toArray) rfl (by kernel_rfl) (by kernel_rfl) (by kernel_rfl) (fun _ _ _ h => h) (yields_build (by rfl) 33 _ rfl #[(0, .int .i64 (-1))] (by first | rfl | (simp [Act.eval]; done) | (go_simp; done) | kernel_rfl) _ (fun w => build_W w)) hS ?_
  simp only [Act.put, List.setIfInBounds_toArray, List.set_cons_zero, List.set_cons_succ]
  refine wpAnyH_ready (rs := [2, 8]) (by kernel_rfl) (by simp) ?_
  refine AllReadyH.cons rfl (fun K hK => ?_) ?_
  · go_simp
    refine hK.out _ _ ?_ (fun hS => ?_)
    · exact hcell _ ((drew_below V).alloc (Nat.le_refl _) _)
    clear hK K
    try simp only [Act.put, List.setIfInBounds_toArray, List.set_cons_zero, List.set_cons_succ, new_size, drew_size]
    refine wpAnyH_ready (rs := [5, 8]) (by kernel_rfl) (by simp) ?_
    refine AllReadyH.cons rfl (fun K hK => ?_) ?_
    · refine step_app rfl (.tmp 9) (.tmp 11) 30 rfl _ _ rfl rfl _ (cpy_any (W := (V.drew.alloc EW)) HMV.out hn10 V.heap.size ((drew_below V).alloc (Nat.le_refl _) _) (own_empty V.drew V.heap.size _ 66 (Nat.le_refl _)) _) ?_
      rintro v1 w1 ⟨g1, cap1, rfl, hC⟩
      have HC := Lib.hid hC.2
      have HCg := Lib.hid hC.1
      clear hC
      refine hK.out _ _ ?_ (fun hS => ?_)
      · exact hcell _ HC.out.1.below
      clear hK K
      try simp only [Act.put, List.setIfInBounds_toArray, List.set_cons_zero, List.set_cons_succ, new_size, drew_size]
      refine wpAnyH_take (i := 7) (v := .agg (rcs (baseR R) (some ⟨g1, 0, none⟩) cap1).toArray) rfl (by kernel_rfl) (by kernel_rfl) (by kernel_rfl) (fun _ _ _ h => h) (yields_build (by rfl) 35 _ rfl #[(0, .int .i64 (R.n : Int)), (1, .slice (some ⟨g1, 0, none⟩) R.ws.length cap1), (2, .agg (wcs (newR 0).rf).toArray), (4, .int .i64 (-1))] (by first | rfl | (simp [Act.eval]; done) | (go_simp; done) | kernel_rfl) _ (fun w => build_D3 _ _ _ _ w)) hS ?_
      try simp only [Act.put, List.setIfInBounds_toArray, List.set_cons_zero, List.set_cons_succ, new_size, drew_size]
      refine wpAnyH_ready (rs := [8]) (by kernel_rfl) (by simp) ?_
      refine AllReadyH.cons rfl (fun K hK => ?_) ?_
      · refine step_allocH rfl 35 rfl _ zero_D ?_
        refine hK.out _ _ ?_ (fun hS => ?_)
        · exact hcell _ (HC.out.1.below.alloc HC.out.1.below.size _)
        clear hK K
        try simp only [Act.put, List.setIfInBounds_toArray, List.set_cons_zero, List.set_cons_succ, new_size, drew_size]
        refine wpAnyH_ready (rs := [9]) (by kernel_rfl) (by simp) ?_
        refine AllReadyH.cons rfl (fun K hK => ?_) ?_
        · have HD0 := Lib.hid (show HdD (w1.alloc ZD) w1.heap.size (rcs zR none 0) from hd_new w1 _ _)
          have HOw := Lib.hid (show ((w1.alloc ZD)).ownsRow V.heap.size 33 66 (.slice (some ⟨g1, 0, none⟩) R.ws.length cap1) R.ws.length (R.ws.flatMap wcs) from HC.out.1.own.alloc _)
          have HBw := Lib.hid (show Below V.heap.size V ((w1.alloc ZD)) from HC.out.1.below.alloc HC.out.1.below.size _)
          have HNe := Lib.hid (show g1 ≠ w1.heap.size from (by have h1 := (HC.out.1.own.lt g1 rfl).2; omega))
          have HVl := Lib.hid (show V.heap.size ≤ w1.heap.size from HC.out.1.below.size)
          have HgO := Lib.hid (show w1.heap.size < ((w1.alloc ZD)).heap.size from (by rw [new_size]; exact Nat.lt_succ_self _))
          refine step_storeH rfl 35 _ _ rfl w1.heap.size 0 (rcs (baseR R) (some ⟨g1, 0, none⟩) cap1).toArray rfl rfl (by have t := HD0.out.th; rw [rcs_len (R := zR) rfl] at t; rw [rcs_size (baseR_len R)]; exact t) (by rw [size_D, rcs_size (baseR_len R)]) (all_oneCell_toArray (rcs_one _ _ _)) ?_
          intro W5 HW5
          have HD5 := Lib.hid (show HdD W5 w1.heap.size (rcs (baseR R) (some ⟨g1, 0, none⟩) cap1) by have e := HW5.out; rw [List.toList_toArray] at e; rw [e]; exact HD0.out.all (by rw [rcs_len (baseR_len R), rcs_len (R := zR) rfl]))
          have HB5 := Lib.hid (show Below V.heap.size V W5 by rw [HW5.out]; exact below_setCells HBw.out HVl.out _ _)
          have HO5 := Lib.hid (show W5.ownsRow V.heap.size 33 66 (.slice (some ⟨g1, 0, none⟩) R.ws.length cap1) R.ws.length (R.ws.flatMap wcs) from own_same HOw.out (fun g hg => by have hg' : g1 = g := (by simpa [Value.ownBlock] using hg); subst hg'; rw [HW5.out]; exact heap_setCells _ _ _ _ _ HNe.out))
          have HG5 := Lib.hid (show w1.heap.size < W5.heap.size by rw [HW5.out, size_setCells]; exact HgO.out)
          refine hK.out _ _ ?_ (fun hS => ?_)
          · exact hcell _ HB5.out
          clear hK K
          try simp only [Act.put, List.setIfInBounds_toArray, List.set_cons_zero, List.set_cons_succ, new_size, drew_size]
          refine wpAnyH_done (by kernel_rfl) ?_ _
          have hA1 := HCg.out
          obtain ⟨gO, hgO⟩ : ∃ g, g = w1.heap.size := ⟨_, rfl⟩
          rw [← hgO] at HD5 HG5 HNe ⊢
          have HVm := Lib.hid (show V.heap.size ≤ gO by rw [hgO]; exact HVl.out)
          clear hgO HC HVl
          have E5 := Lib.hid (show HdD W5 g0 (rcs R A c) from E0.out.keep hg0V HB5.out)
          have R5 := Lib.hid (show HdD W5 gR (rcs zR none 0) from DV.out.keep (by have := HZ.out; omega) HB5.out)
          have BB5 := Lib.hid (show Below w.heap.size w W5 from B2.out.trans (HB5.out.mono B2.out.size))
          have c2 : W5.cell? ⟨g0, 2, none⟩ = some (.int .i64 R.rf.bk) := E5.out.cell 2 _ (rcs_2 A c)
          have HG1 := Lib.hid hA1
          clear hA1 HW5 hcell
          obtain ⟨m, hm1, hmin, hm64⟩ := minN hyes.2
          have hbk := hyes.1
          have htn := hyes.2
          have HM1 := Lib.hid hm1
          clear hm1
          go_wp2_with (first | ((with_reducible refine at_slot 24 ?_); refine wpList_load_mid rfl 33 _ rfl _ _ rfl (wcs R.rf) _ (rf_range E5.out.1) Tryd.underlying33 rfl ?_ ?_; (rw [size_W, wcs_len HL.out])) | ((with_reducible refine at_slot 6 ?_); refine wpList_allocH rfl 33 rfl _ zero_W ?_; intro W6 HW6; have DW6 := Lib.hid (show HdD W6 W5.heap.size (wcs { bk := 0, b := List.replicate 64 0, ld := 0 }) by rw [HW6.out]; exact hd_new W5 _ _); have BW6 := Lib.hid (show Below W5.heap.size W5 W6 by rw [HW6.out]; exact new_below W5 _); have zW6 := Lib.hid (show W6.heap.size = W5.heap.size + 1 by rw [HW6.out, new_size])) | ((with_reducible refine at_store 33 ?_); refine wpList_storeH rfl 33 _ _ rfl _ _ _ rfl rfl ?_ ?_ (all_oneCell_toArray (wcs_one _)) ?_; (focus ((have t := DW6.out.th; rw [wcs_len List.length_replicate] at t; rw [wcs_size HL.out]; exact t))); (focus (rw [size_W, wcs_size HL.out])); intro W7 HW7; have e7 := HW7.out; (try rw [List.toList_toArray] at e7); have D7 := Lib.hid (show HdD W7 W5.heap.size (wcs R.rf) by rw [e7]; exact DW6.out.all (by rw [wcs_len HL.out, wcs_len List.length_replicate])); have B7 := Lib.hid (show Below W5.heap.size W5 W7 by rw [e7]; exact below_setCells BW6.out (Nat.le_refl _) _ _); have Z7 := Lib.hid (show W7.heap.size = W5.heap.size + 1 by rw [e7, size_setCells, zW6.out]); clear e7; have k65 : W7.cell? ⟨W5.heap.size, 65, none⟩ = some (.int .i64 (R.rf.ld : Int)) := D7.out.cell 65 _ (wcs_65 HL.out); have f65 : W7.frozen? ⟨W5.heap.size, 65, none⟩ = false := D7.out.2 65 (by rw [wcs_len HL.out]; omega); have D8 := Lib.hid (show HdD (W7.setCell ⟨W5.heap.size, 65, none⟩ (.int .i64 (m : Int))) W5.heap.size (wcs ({ R.rf with ld := m } : RW)) by have t := D7.out.put 65 (by rw [wcs_len HL.out]; omega) (.int .i64 (m : Int)); rwa [wcs_set65 HL.out] at t); have B8 := Lib.hid (show Below W5.heap.size W5 (W7.setCell ⟨W5.heap.size, 65, none⟩ (.int .i64 (m : Int))) from B7.out.setCell (p := ⟨W5.heap.size, 65, none⟩) (Nat.le_refl _) _); have hgo5 : gO < W5.heap.size := HG5.out; have hne5 : gO ≠ W5.heap.size := (by omega); have kO1 : W7.cell? ⟨gO, 1, none⟩ = some (.slice (some ⟨g1, 0, none⟩) R.ws.length cap1) := (B7.out.cell (p := ⟨gO, 1, none⟩) hgo5).trans (HD5.out.cell 1 _ rfl); have k2 : W7.cell? ⟨g0, 2, none⟩ = some (.int .i64 R.rf.bk) := (B7.out.cell (p := ⟨g0, 2, none⟩) (show g0 < W5.heap.size by have := HB5.out.size; omega)).trans c2) | ((with_reducible refine at_slot 30 ?_); refine wpList_load_mid rfl 33 _ rfl _ _ rfl (wcs ({ R.rf with ld := m } : RW)) _ D8.out.1 Tryd.underlying33 rfl ?_ ?_; (rw [size_W, wcs_len (x := ({ R.rf with ld := m } : RW)) HL.out])) | ((with_reducible refine at_slot 31 ?_); refine wpList_buildSliceH rfl 30 1 _ rfl #[(0, .agg (wcs ({ R.rf with ld := m } : RW)).toArray)] (by first | rfl | (simp [Act.eval]; done) | (go_simp; done) | kernel_rfl) _ _ (slice_W ({ R.rf with ld := m } : RW) HL.out _) ?_; intro X8 HX8) | ((with_reducible refine at_slot 32 ?_); obtain ⟨v2, w2, hr2, g2, cap2, rfl, hg2, hN2, hsz2, hot2⟩ := app3 HX8.out HL.out hm64 (own_same HO5.out (fun g hg => (B8.out.block g (by have t := (HO5.out.lt g hg).2; exact t)))) HMV.out.ok (HB5.out.trans (B8.out.mono HB5.out.size)) hws 30; refine Lib.wpList_append_run _ rfl (.tmp 29) (.tmp 31) _ _ rfl _ _ rfl rfl _ w2 hr2 ?_; have hb5o : w2.heap[gO]? = W5.heap[gO]? := (hot2 gO (by have := B8.out.size; omega) (by have := HNe.out; omega)).trans (B8.out.block gO hgo5); have hb5r : w2.heap[gR]? = W5.heap[gR]? := (hot2 gR (by have := B8.out.size; have := HB5.out.size; have := HZ.out; omega) (by have := HG1.out; have := HZ.out; omega)).trans (B8.out.block gR (by have := HB5.out.size; have := HZ.out; omega)); have DO := Lib.hid (HD5.out.same hb5o); have DR := Lib.hid (R5.out.same hb5r); have ko1 : w2.cell? ⟨gO, 1, none⟩ = some (.slice (some ⟨g1, 0, none⟩) R.ws.length cap1) := DO.out.cell 1 _ rfl; have fo1 : w2.frozen? ⟨gO, 1, none⟩ = false := DO.out.2 1 (by rw [rcs_len (baseR_len R)]; omega); have K1 := Lib.hid (show HdD (w2.setCell ⟨gO, 1, none⟩ (.slice (some ⟨g2, 0, none⟩) (R.ws.length + 1) cap2)) gO (rcs { newR R.n with ws := R.ws ++ [({ R.rf with ld := m } : RW)] } (some ⟨g2, 0, none⟩) cap2) by have t := e1 (R := baseR R) (A' := (some ⟨g2, 0, none⟩)) (c' := cap2) (R.ws ++ [({ R.rf with ld := m } : RW)]) gO (baseR_len R) DO.out; rw [List.length_append] at t; exact t); have K3 := Lib.hid (show HdD (w2.setCell ⟨gO, 1, none⟩ (.slice (some ⟨g2, 0, none⟩) (R.ws.length + 1) cap2)) gR (rcs zR none 0) from DR.out.apart (b := gO) (q := 1) (by have := HVm.out; have := HZ.out; omega) _); have KE := Lib.hid (show Below w.heap.size w (w2.setCell ⟨gO, 1, none⟩ (.slice (some ⟨g2, 0, none⟩) (R.ws.length + 1) cap2)) from (B2.out.trans (hN2.below.mono B2.out.size)).setCell (p := ⟨gO, 1, none⟩) (show w.heap.size ≤ gO by have := HVm.out; have := HZ.out; omega) _); have KN := Lib.hid hN2; have KG := Lib.hid (show V.heap.size ≤ g2 ∧ g2 ≠ gO from ⟨hg2.1, (by have h1 := hg2.2; have h2 := B8.out.size; have h3 := congrArg (fun W => W.heap.size) HX8.out; simp only [new_size] at h3; have h4 := HNe.out; rcases h1 with h | h <;> omega)⟩); clear hN2 hg2 hsz2 hot2 hr2) | ((with_reducible refine at_slot 34 ?_); refine wpList_load_mid rfl 35 _ rfl _ _ rfl (rcs { newR R.n with ws := R.ws ++ [({ R.rf with ld := m } : RW)] } (some ⟨g2, 0, none⟩) cap2) _ K1.out.1 Tryd.underlying35 rfl ?_ ?_; (rw [size_D, rcs_len (R := { newR R.n with ws := R.ws ++ [({ R.rf with ld := m } : RW)] }) (newR_len R.n)])) | ((with_reducible refine at_store 35 ?_); refine wpList_storeH rfl 35 _ _ rfl _ _ _ rfl rfl ?_ ?_ (all_oneCell_toArray (rcs_one _ _ _)) ?_; (focus ((have t := K3.out.th; rw [rcs_len (R := zR) rfl] at t; rw [rcs_size (R := { newR R.n with ws := R.ws ++ [({ R.rf with ld := m } : RW)] }) (newR_len R.n)]; exact t))); (focus (rw [size_D, rcs_size (R := { newR R.n with ws := R.ws ++ [({ R.rf with ld := m } : RW)] }) (newR_len R.n)])); intro W9 HW9))
          have hM9 : Rm W9 (some ⟨g2, 0, none⟩) cap2 (R.ws ++ [({ R.rf with ld := m } : RW)]) := rm_of_own (fun x hx => by
            rcases List.mem_append.1 hx with h | h
            · exact HMV.out.ok x h
            · obtain rfl := List.mem_singleton.1 h
              exact ⟨HL.out, hm64⟩) (own_same (by have t := KN.out.own; rw [show (R.ws ++ [({ R.rf with ld := m } : RW)]).flatMap wcs = R.ws.flatMap wcs ++ wcs ({ R.rf with ld := m } : RW) by simp, List.length_append]; exact t) (fun g hg => by
            have hg' : g2 = g := by simpa [Value.ownBlock] using hg
            subst hg'
            have h1 := KG.out
            rw [HW9.out, heap_setCells _ _ _ _ _ (by have := HZ.out; omega), Below.heap_setCell _ _ _ _ (show g2 ≠ gO from h1.2)]))
          obtain ⟨h1, h2, h3⟩ := ref_end (R' := { newR R.n with ws := R.ws ++ [({ R.rf with ld := m } : RW)] }) (L := rcs zR none 0) K3.out (rcs_len (R := zR) rfl _ _) (newR_len R.n) HW9.out KE.out (by have := HZ.out; omega) hM9
          try rw [HM1.out]
          exact ret_cell _ gR rfl rfl h1 Tryd.underlying35 rfl (by rw [size_D, rcs_len (R := { newR R.n with ws := R.ws ++ [({ R.rf with ld := m } : RW)] }) (newR_len R.n)]) rfl ⟨_, rfl, h2, h3⟩
        exact AllReadyH.nil
      exact AllReadyH.nil
    refine AllReadyH.cons rfl (fun K hK => ?_) ?_
    · refine step_allocH rfl 35 rfl _ zero_D ?_
      refine hK.out _ _ ?_ (fun hS => ?_)
      · exact hcell _ (((drew_below V).alloc (Nat.le_refl _) _).alloc (by rw [new_size]; exact Nat.le_succ _) _)
      clear hK K
      try simp only [Act.put, List.setIfInBounds_toArray, List.set_cons_zero, List.set_cons_succ, new_size, drew_size]
      refine wpAnyH_ready (rs := [5]) (by kernel_rfl) (by simp) ?_
      refine AllReadyH.cons rfl (fun K hK => ?_) ?_
      · refine step_app rfl (.tmp 9) (.tmp 11) 30 rfl _ _ rfl rfl _ (cpy_any (W := ((V.drew.alloc EW).alloc ZD)) HMV.out hn10 V.heap.size (((drew_below V).alloc (Nat.le_refl _) _).alloc (by rw [new_size]; exact Nat.le_succ _) _) ((own_empty V.drew V.heap.size _ 66 (Nat.le_refl _)).alloc _) _) ?_
        rintro v1 w1 ⟨g1, cap1, rfl, hC⟩
        have HC := Lib.hid hC.2
        have HCg := Lib.hid hC.1
        clear hC
        refine hK.out _ _ ?_ (fun hS => ?_)
        · exact hcell _ HC.out.1.below
        clear hK K
        try simp only [Act.put, List.setIfInBounds_toArray, List.set_cons_zero, List.set_cons_succ, new_size, drew_size]
        refine wpAnyH_take (i := 7) (v := .agg (rcs (baseR R) (some ⟨g1, 0, none⟩) cap1).toArray) rfl (by kernel_rfl) (by kernel_rfl) (by kernel_rfl) (fun _ _ _ h => h) (yields_build (by rfl) 35 _ rfl #[(0, .int .i64 (R.n : Int)), (1, .slice (some ⟨g1, 0, none⟩) R.ws.length cap1), (2, .agg (wcs (newR 0).rf).toArray), (4, .int .i64 (-1))] (by first | rfl | (simp [Act.eval]; done) | (go_simp; done) | kernel_rfl) _ (fun w => build_D3 _ _ _ _ w)) hS ?_
        try simp only [Act.put, List.setIfInBounds_toArray, List.set_cons_zero, List.set_cons_succ, new_size, drew_size]
        refine wpAnyH_ready (rs := [9]) (by kernel_rfl) (by simp) ?_
        refine AllReadyH.cons rfl (fun K hK => ?_) ?_
        · have HD0 := Lib.hid (show HdD w1 (V.heap.size + 1) (rcs zR none 0) from (show HdD ((V.drew.alloc EW).alloc ZD) (V.heap.size + 1) (rcs zR none 0) from (by have t := hd_new (V.drew.alloc EW) (rcs zR none 0) 35; rw [new_size] at t; exact t)).same (HC.out.2.2.1 (V.heap.size + 1) (by rw [new_size, new_size]; exact Nat.lt_succ_self _) (by omega)))
          have HOw := Lib.hid (show (w1).ownsRow V.heap.size 33 66 (.slice (some ⟨g1, 0, none⟩) R.ws.length cap1) R.ws.length (R.ws.flatMap wcs) from HC.out.1.own)
          have HBw := Lib.hid (show Below V.heap.size V (w1) from HC.out.1.below)
          have HNe := Lib.hid (show g1 ≠ (V.heap.size + 1) from (by have h1 := HC.out.2.2.2; have h2 := HC.out.2.1; rw [new_size, new_size] at h1 h2; have h3 := drew_size V; rcases h1 with h | h <;> omega))
          have HVl := Lib.hid (show V.heap.size ≤ (V.heap.size + 1) from Nat.le_succ _)
          have HgO := Lib.hid (show (V.heap.size + 1) < (w1).heap.size from (by have h2 := HC.out.2.1; rw [new_size, new_size] at h2; have h3 := drew_size V; omega))
          refine step_storeH rfl 35 _ _ rfl (V.heap.size + 1) 0 (rcs (baseR R) (some ⟨g1, 0, none⟩) cap1).toArray rfl rfl (by have t := HD0.out.th; rw [rcs_len (R := zR) rfl] at t; rw [rcs_size (baseR_len R)]; exact t) (by rw [size_D, rcs_size (baseR_len R)]) (all_oneCell_toArray (rcs_one _ _ _)) ?_
          intro W5 HW5
          have HD5 := Lib.hid (show HdD W5 (V.heap.size + 1) (rcs (baseR R) (some ⟨g1, 0, none⟩) cap1) by have e := HW5.out; rw [List.toList_toArray] at e; rw [e]; exact HD0.out.all (by rw [rcs_len (baseR_len R), rcs_len (R := zR) rfl]))
          have HB5 := Lib.hid (show Below V.heap.size V W5 by rw [HW5.out]; exact below_setCells HBw.out HVl.out _ _)
          have HO5 := Lib.hid (show W5.ownsRow V.heap.size 33 66 (.slice (some ⟨g1, 0, none⟩) R.ws.length cap1) R.ws.length (R.ws.flatMap wcs) from own_same HOw.out (fun g hg => by have hg' : g1 = g := (by simpa [Value.ownBlock] using hg); subst hg'; rw [HW5.out]; exact heap_setCells _ _ _ _ _ HNe.out))
          have HG5 := Lib.hid (show (V.heap.size + 1) < W5.heap.size by rw [HW5.out, size_setCells]; exact HgO.out)
          refine hK.out _ _ ?_ (fun hS => ?_)
          · exact hcell _ HB5.out
          clear hK K
          try simp only [Act.put, List.setIfInBounds_toArray, List.set_cons_zero, List.set_cons_succ, new_size, drew_size]
          refine wpAnyH_done (by kernel_rfl) ?_ _
          have hA1 := HCg.out
          obtain ⟨gO, hgO⟩ : ∃ g, g = (V.heap.size + 1) := ⟨_, rfl⟩
          rw [← hgO] at HD5 HG5 HNe ⊢
          have HVm := Lib.hid (show V.heap.size ≤ gO by rw [hgO]; exact HVl.out)
          clear hgO HC HVl
          have E5 := Lib.hid (show HdD W5 g0 (rcs R A c) from E0.out.keep hg0V HB5.out)
          have R5 := Lib.hid (show HdD W5 gR (rcs zR none 0) from DV.out.keep (by have := HZ.out; omega) HB5.out)
          have BB5 := Lib.hid (show Below w.heap.size w W5 from B2.out.trans (HB5.out.mono B2.out.size))
          have c2 : W5.cell? ⟨g0, 2, none⟩ = some (.int .i64 R.rf.bk) := E5.out.cell 2 _ (rcs_2 A c)
          have HG1 := Lib.hid hA1
          clear hA1 HW5 hcell
          obtain ⟨m, hm1, hmin, hm64⟩ := minN hyes.2
          have hbk := hyes.1
          have htn := hyes.2
          have HM1 := Lib.hid hm1
          clear hm1
          go_wp2_with (first | ((with_reducible refine at_slot 24 ?_); refine wpList_load_mid rfl 33 _ rfl _ _ rfl (wcs R.rf) _ (rf_range E5.out.1) Tryd.underlying33 rfl ?_ ?_; (rw [size_W, wcs_len HL.out])) | ((with_reducible refine at_slot 6 ?_); refine wpList_allocH rfl 33 rfl _ zero_W ?_; intro W6 HW6; have DW6 := Lib.hid (show HdD W6 W5.heap.size (wcs { bk := 0, b := List.replicate 64 0, ld := 0 }) by rw [HW6.out]; exact hd_new W5 _ _); have BW6 := Lib.hid (show Below W5.heap.size W5 W6 by rw [HW6.out]; exact new_below W5 _); have zW6 := Lib.hid (show W6.heap.size = W5.heap.size + 1 by rw [HW6.out, new_size])) | ((with_reducible refine at_store 33 ?_); refine wpList_storeH rfl 33 _ _ rfl _ _ _ rfl rfl ?_ ?_ (all_oneCell_toArray (wcs_one _)) ?_; (focus ((have t := DW6.out.th; rw [wcs_len List.length_replicate] at t; rw [wcs_size HL.out]; exact t))); (focus (rw [size_W, wcs_size HL.out])); intro W7 HW7; have e7 := HW7.out; (try rw [List.toList_toArray] at e7); have D7 := Lib.hid (show HdD W7 W5.heap.size (wcs R.rf) by rw [e7]; exact DW6.out.all (by rw [wcs_len HL.out, wcs_len List.length_replicate])); have B7 := Lib.hid (show Below W5.heap.size W5 W7 by rw [e7]; exact below_setCells BW6.out (Nat.le_refl _) _ _); have Z7 := Lib.hid (show W7.heap.size = W5.heap.size + 1 by rw [e7, size_setCells, zW6.out]); clear e7; have k65 : W7.cell? ⟨W5.heap.size, 65, none⟩ = some (.int .i64 (R.rf.ld : Int)) := D7.out.cell 65 _ (wcs_65 HL.out); have f65 : W7.frozen? ⟨W5.heap.size, 65, none⟩ = false := D7.out.2 65 (by rw [wcs_len HL.out]; omega); have D8 := Lib.hid (show HdD (W7.setCell ⟨W5.heap.size, 65, none⟩ (.int .i64 (m : Int))) W5.heap.size (wcs ({ R.rf with ld := m } : RW)) by have t := D7.out.put 65 (by rw [wcs_len HL.out]; omega) (.int .i64 (m : Int)); rwa [wcs_set65 HL.out] at t); have B8 := Lib.hid (show Below W5.heap.size W5 (W7.setCell ⟨W5.heap.size, 65, none⟩ (.int .i64 (m : Int))) from B7.out.setCell (p := ⟨W5.heap.size, 65, none⟩) (Nat.le_refl _) _); have hgo5 : gO < W5.heap.size := HG5.out; have hne5 : gO ≠ W5.heap.size := (by omega); have kO1 : W7.cell? ⟨gO, 1, none⟩ = some (.slice (some ⟨g1, 0, none⟩) R.ws.length cap1) := (B7.out.cell (p := ⟨gO, 1, none⟩) hgo5).trans (HD5.out.cell 1 _ rfl); have k2 : W7.cell? ⟨g0, 2, none⟩ = some (.int .i64 R.rf.bk) := (B7.out.cell (p := ⟨g0, 2, none⟩) (show g0 < W5.heap.size by have := HB5.out.size; omega)).trans c2) | ((with_reducible refine at_slot 30 ?_); refine wpList_load_mid rfl 33 _ rfl _ _ rfl (wcs ({ R.rf with ld := m } : RW)) _ D8.out.1 Tryd.underlying33 rfl ?_ ?_; (rw [size_W, wcs_len (x := ({ R.rf with ld := m } : RW)) HL.out])) | ((with_reducible refine at_slot 31 ?_); refine wpList_buildSliceH rfl 30 1 _ rfl #[(0, .agg (wcs ({ R.rf with ld := m } : RW)).toArray)] (by first | rfl | (simp [Act.eval]; done) | (go_simp; done) | kernel_rfl) _ _ (slice_W ({ R.rf with ld := m } : RW) HL.out _) ?_; intro X8 HX8) | ((with_reducible refine at_slot 32 ?_); obtain ⟨v2, w2, hr2, g2, cap2, rfl, hg2, hN2, hsz2, hot2⟩ := app3 HX8.out HL.out hm64 (own_same HO5.out (fun g hg => (B8.out.block g (by have t := (HO5.out.lt g hg).2; exact t)))) HMV.out.ok (HB5.out.trans (B8.out.mono HB5.out.size)) hws 30; refine Lib.wpList_append_run _ rfl (.tmp 29) (.tmp 31) _ _ rfl _ _ rfl rfl _ w2 hr2 ?_; have hb5o : w2.heap[gO]? = W5.heap[gO]? := (hot2 gO (by have := B8.out.size; omega) (by have := HNe.out; omega)).trans (B8.out.block gO hgo5); have hb5r : w2.heap[gR]? = W5.heap[gR]? := (hot2 gR (by have := B8.out.size; have := HB5.out.size; have := HZ.out; omega) (by have := HG1.out; have := HZ.out; omega)).trans (B8.out.block gR (by have := HB5.out.size; have := HZ.out; omega)); have DO := Lib.hid (HD5.out.same hb5o); have DR := Lib.hid (R5.out.same hb5r); have ko1 : w2.cell? ⟨gO, 1, none⟩ = some (.slice (some ⟨g1, 0, none⟩) R.ws.length cap1) := DO.out.cell 1 _ rfl; have fo1 : w2.frozen? ⟨gO, 1, none⟩ = false := DO.out.2 1 (by rw [rcs_len (baseR_len R)]; omega); have K1 := Lib.hid (show HdD (w2.setCell ⟨gO, 1, none⟩ (.slice (some ⟨g2, 0, none⟩) (R.ws.length + 1) cap2)) gO (rcs { newR R.n with ws := R.ws ++ [({ R.rf with ld := m } : RW)] } (some ⟨g2, 0, none⟩) cap2) by have t := e1 (R := baseR R) (A' := (some ⟨g2, 0, none⟩)) (c' := cap2) (R.ws ++ [({ R.rf with ld := m } : RW)]) gO (baseR_len R) DO.out; rw [List.length_append] at t; exact t); have K3 := Lib.hid (show HdD (w2.setCell ⟨gO, 1, none⟩ (.slice (some ⟨g2, 0, none⟩) (R.ws.length + 1) cap2)) gR (rcs zR none 0) from DR.out.apart (b := gO) (q := 1) (by have := HVm.out; have := HZ.out; omega) _); have KE := Lib.hid (show Below w.heap.size w (w2.setCell ⟨gO, 1, none⟩ (.slice (some ⟨g2, 0, none⟩) (R.ws.length + 1) cap2)) from (B2.out.trans (hN2.below.mono B2.out.size)).setCell (p := ⟨gO, 1, none⟩) (show w.heap.size ≤ gO by have := HVm.out; have := HZ.out; omega) _); have KN := Lib.hid hN2; have KG := Lib.hid (show V.heap.size ≤ g2 ∧ g2 ≠ gO from ⟨hg2.1, (by have h1 := hg2.2; have h2 := B8.out.size; have h3 := congrArg (fun W => W.heap.size) HX8.out; simp only [new_size] at h3; have h4 := HNe.out; rcases h1 with h | h <;> omega)⟩); clear hN2 hg2 hsz2 hot2 hr2) | ((with_reducible refine at_slot 34 ?_); refine wpList_load_mid rfl 35 _ rfl _ _ rfl (rcs { newR R.n with ws := R.ws ++ [({ R.rf with ld := m } : RW)] } (some ⟨g2, 0, none⟩) cap2) _ K1.out.1 Tryd.underlying35 rfl ?_ ?_; (rw [size_D, rcs_len (R := { newR R.n with ws := R.ws ++ [({ R.rf with ld := m } : RW)] }) (newR_len R.n)])) | ((with_reducible refine at_store 35 ?_); refine wpList_storeH rfl 35 _ _ rfl _ _ _ rfl rfl ?_ ?_ (all_oneCell_toArray (rcs_one _ _ _)) ?_; (focus ((have t := K3.out.th; rw [rcs_len (R := zR) rfl] at t; rw [rcs_size (R := { newR R.n with ws := R.ws ++ [({ R.rf with ld := m } : RW)] }) (newR_len R.n)]; exact t))); (focus (rw [size_D, rcs_size (R := { newR R.n with ws := R.ws ++ [({ R.rf with ld := m } : RW)] }) (newR_len R.n)])); intro W9 HW9))
          have hM9 : Rm W9 (some ⟨g2, 0, none⟩) cap2 (R.ws ++ [({ R.rf with ld := m } : RW)]) := rm_of_own (fun x hx => by
            rcases List.mem_append.1 hx with h | h
            · exact HMV.out.ok x h
            · obtain rfl := List.mem_singleton.1 h
              exact ⟨HL.out, hm64⟩) (own_same (by have t := KN.out.own; rw [show (R.ws ++ [({ R.rf with ld := m } : RW)]).flatMap wcs = R.ws.flatMap wcs ++ wcs ({ R.rf with ld := m } : RW) by simp, List.length_append]; exact t) (fun g hg => by
            have hg' : g2 = g := by simpa [Value.ownBlock] using hg
            subst hg'
            have h1 := KG.out
            rw [HW9.out, heap_setCells _ _ _ _ _ (by have := HZ.out; omega), Below.heap_setCell _ _ _ _ (show g2 ≠ gO from h1.2)]))
          obtain ⟨h1, h2, h3⟩ := ref_end (R' := { newR R.n with ws := R.ws ++ [({ R.rf with ld := m } : RW)] }) (L := rcs zR none 0) K3.out (rcs_len (R := zR) rfl _ _) (newR_len R.n) HW9.out KE.out (by have := HZ.out; omega) hM9
          try rw [HM1.out]
          exact ret_cell _ gR rfl rfl h1 Tryd.underlying35 rfl (by rw [size_D, rcs_len (R := { newR R.n with ws := R.ws ++ [({ R.rf with ld := m } : RW)] }) (newR_len R.n)]) rfl ⟨_, rfl, h2, h3⟩
        exact AllReadyH.nil
      exact AllReadyH.nil
    exact AllReadyH.nil
  refine AllReadyH.cons rfl (fun K hK => ?_) ?_
  · refine step_allocH rfl 35 rfl _ zero_D ?_
    refine hK.out _ _ ?_ (fun hS => ?_)
    · exact hcell _ ((drew_below V).alloc (Nat.le_refl _) _)
    clear hK K
    try simp only [Act.put, List.setIfInBounds_toArray, List.set_cons_zero, List.set_cons_succ, new_size, drew_size]
    refine wpAnyH_ready (rs := [2]) (by kernel_rfl) (by simp) ?_
    refine AllReadyH.cons rfl (fun K hK => ?_) ?_
    · go_simp
      refine hK.out _ _ ?_ (fun hS => ?_)
      · exact hcell _ (((drew_below V).alloc (Nat.le_refl _) _).alloc (by rw [new_size]; exact Nat.le_succ _) _)
      clear hK K
      try simp only [Act.put, List.setIfInBounds_toArray, List.set_cons_zero, List.set_cons_succ, new_size, drew_size]
      refine wpAnyH_ready (rs := [5]) (by kernel_rfl) (by simp) ?_
      refine AllReadyH.cons rfl (fun K hK => ?_) ?_
      · refine step_app rfl (.tmp 9) (.tmp 11) 30 rfl _ _ rfl rfl _ (cpy_any (W := ((V.drew.alloc ZD).alloc EW)) HMV.out hn10 (V.heap.size + 1) (((drew_below V).alloc (Nat.le_refl _) _).alloc (by rw [new_size]; exact Nat.le_succ _) _) (by have t := own_empty (V.drew.alloc ZD) V.heap.size 33 66 (by rw [new_size]; exact Nat.le_succ _); rw [new_size] at t; exact t) _) ?_
        rintro v1 w1 ⟨g1, cap1, rfl, hC⟩
        have HC := Lib.hid hC.2
        have HCg := Lib.hid hC.1
        clear hC
        refine hK.out _ _ ?_ (fun hS => ?_)
        · exact hcell _ HC.out.1.below
        clear hK K
        try simp only [Act.put, List.setIfInBounds_toArray, List.set_cons_zero, List.set_cons_succ, new_size, drew_size]
        refine wpAnyH_take (i := 7) (v := .agg (rcs (baseR R) (some ⟨g1, 0, none⟩) cap1).toArray) rfl (by kernel_rfl) (by kernel_rfl) (by kernel_rfl) (fun _ _ _ h => h) (yields_build (by rfl) 35 _ rfl #[(0, .int .i64 (R.n : Int)), (1, .slice (some ⟨g1, 0, none⟩) R.ws.length cap1), (2, .agg (wcs (newR 0).rf).toArray), (4, .int .i64 (-1))] (by first | rfl | (simp [Act.eval]; done) | (go_simp; done) | kernel_rfl) _ (fun w => build_D3 _ _ _ _ w)) hS ?_
        try simp only [Act.put, List.setIfInBounds_toArray, List.set_cons_zero, List.set_cons_succ, new_size, drew_size]
        refine wpAnyH_ready (rs := [9]) (by kernel_rfl) (by simp) ?_
        refine AllReadyH.cons rfl (fun K hK => ?_) ?_
        · have HD0 := Lib.hid (show HdD w1 V.heap.size (rcs zR none 0) from (hd_new V.drew _ _).same ((HC.out.2.2.1 V.heap.size (by rw [new_size, new_size]; exact Nat.lt_succ_of_lt (Nat.lt_succ_self _)) (by omega)).trans (Below.heap_alloc _ _ _ (by rw [new_size]; exact Nat.lt_succ_self _))))
          have HOw := Lib.hid (show (w1).ownsRow V.heap.size 33 66 (.slice (some ⟨g1, 0, none⟩) R.ws.length cap1) R.ws.length (R.ws.flatMap wcs) from HC.out.1.own)
          have HBw := Lib.hid (show Below V.heap.size V (w1) from HC.out.1.below)
          have HNe := Lib.hid (show g1 ≠ V.heap.size from (by have h1 := HC.out.2.2.2; have h2 := HC.out.2.1; rw [new_size, new_size] at h1 h2; have h3 := drew_size V; rcases h1 with h | h <;> omega))
          have HVl := Lib.hid (show V.heap.size ≤ V.heap.size from Nat.le_refl _)
          have HgO := Lib.hid (show V.heap.size < (w1).heap.size from (by have h2 := HC.out.2.1; rw [new_size, new_size] at h2; have h3 := drew_size V; omega))
          refine step_storeH rfl 35 _ _ rfl V.heap.size 0 (rcs (baseR R) (some ⟨g1, 0, none⟩) cap1).toArray rfl rfl (by have t := HD0.out.th; rw [rcs_len (R := zR) rfl] at t; rw [rcs_size (baseR_len R)]; exact t) (by rw [size_D, rcs_size (baseR_len R)]) (all_oneCell_toArray (rcs_one _ _ _)) ?_
          intro W5 HW5
          have HD5 := Lib.hid (show HdD W5 V.heap.size (rcs (baseR R) (some ⟨g1, 0, none⟩) cap1) by have e := HW5.out; rw [List.toList_toArray] at e; rw [e]; exact HD0.out.all (by rw [rcs_len (baseR_len R), rcs_len (R := zR) rfl]))
          have HB5 := Lib.hid (show Below V.heap.size V W5 by rw [HW5.out]; exact below_setCells HBw.out HVl.out _ _)
          have HO5 := Lib.hid (show W5.ownsRow V.heap.size 33 66 (.slice (some ⟨g1, 0, none⟩) R.ws.length cap1) R.ws.length (R.ws.flatMap wcs) from own_same HOw.out (fun g hg => by have hg' : g1 = g := (by simpa [Value.ownBlock] using hg); subst hg'; rw [HW5.out]; exact heap_setCells _ _ _ _ _ HNe.out))
          have HG5 := Lib.hid (show V.heap.size < W5.heap.size by rw [HW5.out, size_setCells]; exact HgO.out)
          refine hK.out _ _ ?_ (fun hS => ?_)
          · exact hcell _ HB5.out
          clear hK K
          try simp only [Act.put, List.setIfInBounds_toArray, List.set_cons_zero, List.set_cons_succ, new_size, drew_size]
          refine wpAnyH_done (by kernel_rfl) ?_ _
          have hA1 := HCg.out
          obtain ⟨gO, hgO⟩ : ∃ g, g = V.heap.size := ⟨_, rfl⟩
          rw [← hgO] at HD5 HG5 HNe ⊢
          have HVm := Lib.hid (show V.heap.size ≤ gO by rw [hgO]; exact HVl.out)
          clear hgO HC HVl
          have E5 := Lib.hid (show HdD W5 g0 (rcs R A c) from E0.out.keep hg0V HB5.out)
          have R5 := Lib.hid (show HdD W5 gR (rcs zR none 0) from DV.out.keep (by have := HZ.out; omega) HB5.out)
          have BB5 := Lib.hid (show Below w.heap.size w W5 from B2.out.trans (HB5.out.mono B2.out.size))
          have c2 : W5.cell? ⟨g0, 2, none⟩ = some (.int .i64 R.rf.bk) := E5.out.cell 2 _ (rcs_2 A c)
          have HG1 := Lib.hid hA1
          clear hA1 HW5 hcell
          obtain ⟨m, hm1, hmin, hm64⟩ := minN hyes.2
          have hbk := hyes.1
          have htn := hyes.2
          have HM1 := Lib.hid hm1
          clear hm1
          go_wp2_with (first | ((with_reducible refine at_slot 24 ?_); refine wpList_load_mid rfl 33 _ rfl _ _ rfl (wcs R.rf) _ (rf_range E5.out.1) Tryd.underlying33 rfl ?_ ?_; (rw [size_W, wcs_len HL.out])) | ((with_reducible refine at_slot 6 ?_); refine wpList_allocH rfl 33 rfl _ zero_W ?_; intro W6 HW6; have DW6 := Lib.hid (show HdD W6 W5.heap.size (wcs { bk := 0, b := List.replicate 64 0, ld := 0 }) by rw [HW6.out]; exact hd_new W5 _ _); have BW6 := Lib.hid (show Below W5.heap.size W5 W6 by rw [HW6.out]; exact new_below W5 _); have zW6 := Lib.hid (show W6.heap.size = W5.heap.size + 1 by rw [HW6.out, new_size])) | ((with_reducible refine at_store 33 ?_); refine wpList_storeH rfl 33 _ _ rfl _ _ _ rfl rfl ?_ ?_ (all_oneCell_toArray (wcs_one _)) ?_; (focus ((have t := DW6.out.th; rw [wcs_len List.length_replicate] at t; rw [wcs_size HL.out]; exact t))); (focus (rw [size_W, wcs_size HL.out])); intro W7 HW7; have e7 := HW7.out; (try rw [List.toList_toArray] at e7); have D7 := Lib.hid (show HdD W7 W5.heap.size (wcs R.rf) by rw [e7]; exact DW6.out.all (by rw [wcs_len HL.out, wcs_len List.length_replicate])); have B7 := Lib.hid (show Below W5.heap.size W5 W7 by rw [e7]; exact below_setCells BW6.out (Nat.le_refl _) _ _); have Z7 := Lib.hid (show W7.heap.size = W5.heap.size + 1 by rw [e7, size_setCells, zW6.out]); clear e7; have k65 : W7.cell? ⟨W5.heap.size, 65, none⟩ = some (.int .i64 (R.rf.ld : Int)) := D7.out.cell 65 _ (wcs_65 HL.out); have f65 : W7.frozen? ⟨W5.heap.size, 65, none⟩ = false := D7.out.2 65 (by rw [wcs_len HL.out]; omega); have D8 := Lib.hid (show HdD (W7.setCell ⟨W5.heap.size, 65, none⟩ (.int .i64 (m : Int))) W5.heap.size (wcs ({ R.rf with ld := m } : RW)) by have t := D7.out.put 65 (by rw [wcs_len HL.out]; omega) (.int .i64 (m : Int)); rwa [wcs_set65 HL.out] at t); have B8 := Lib.hid (show Below W5.heap.size W5 (W7.setCell ⟨W5.heap.size, 65, none⟩ (.int .i64 (m : Int))) from B7.out.setCell (p := ⟨W5.heap.size, 65, none⟩) (Nat.le_refl _) _); have hgo5 : gO < W5.heap.size := HG5.out; have hne5 : gO ≠ W5.heap.size := (by omega); have kO1 : W7.cell? ⟨gO, 1, none⟩ = some (.slice (some ⟨g1, 0, none⟩) R.ws.length cap1) := (B7.out.cell (p := ⟨gO, 1, none⟩) hgo5).trans (HD5.out.cell 1 _ rfl); have k2 : W7.cell? ⟨g0, 2, none⟩ = some (.int .i64 R.rf.bk) := (B7.out.cell (p := ⟨g0, 2, none⟩) (show g0 < W5.heap.size by have := HB5.out.size; omega)).trans c2) | ((with_reducible refine at_slot 30 ?_); refine wpList_load_mid rfl 33 _ rfl _ _ rfl (wcs ({ R.rf with ld := m } : RW)) _ D8.out.1 Tryd.underlying33 rfl ?_ ?_; (rw [size_W, wcs_len (x := ({ R.rf with ld := m } : RW)) HL.out])) | ((with_reducible refine at_slot 31 ?_); refine wpList_buildSliceH rfl 30 1 _ rfl #[(0, .agg (wcs ({ R.rf with ld := m } : RW)).toArray)] (by first | rfl | (simp [Act.eval]; done) | (go_simp; done) | kernel_rfl) _ _ (slice_W ({ R.rf with ld := m } : RW) HL.out _) ?_; intro X8 HX8) | ((with_reducible refine at_slot 32 ?_); obtain ⟨v2, w2, hr2, g2, cap2, rfl, hg2, hN2, hsz2, hot2⟩ := app3 HX8.out HL.out hm64 (own_same HO5.out (fun g hg => (B8.out.block g (by have t := (HO5.out.lt g hg).2; exact t)))) HMV.out.ok (HB5.out.trans (B8.out.mono HB5.out.size)) hws 30; refine Lib.wpList_append_run _ rfl (.tmp 29) (.tmp 31) _ _ rfl _ _ rfl rfl _ w2 hr2 ?_; have hb5o : w2.heap[gO]? = W5.heap[gO]? := (hot2 gO (by have := B8.out.size; omega) (by have := HNe.out; omega)).trans (B8.out.block gO hgo5); have hb5r : w2.heap[gR]? = W5.heap[gR]? := (hot2 gR (by have := B8.out.size; have := HB5.out.size; have := HZ.out; omega) (by have := HG1.out; have := HZ.out; omega)).trans (B8.out.block gR (by have := HB5.out.size; have := HZ.out; omega)); have DO := Lib.hid (HD5.out.same hb5o); have DR := Lib.hid (R5.out.same hb5r); have ko1 : w2.cell? ⟨gO, 1, none⟩ = some (.slice (some ⟨g1, 0, none⟩) R.ws.length cap1) := DO.out.cell 1 _ rfl; have fo1 : w2.frozen? ⟨gO, 1, none⟩ = false := DO.out.2 1 (by rw [rcs_len (baseR_len R)]; omega); have K1 := Lib.hid (show HdD (w2.setCell ⟨gO, 1, none⟩ (.slice (some ⟨g2, 0, none⟩) (R.ws.length + 1) cap2)) gO (rcs { newR R.n with ws := R.ws ++ [({ R.rf with ld := m } : RW)] } (some ⟨g2, 0, none⟩) cap2) by have t := e1 (R := baseR R) (A' := (some ⟨g2, 0, none⟩)) (c' := cap2) (R.ws ++ [({ R.rf with ld := m } : RW)]) gO (baseR_len R) DO.out; rw [List.length_append] at t; exact t); have K3 := Lib.hid (show HdD (w2.setCell ⟨gO, 1, none⟩ (.slice (some ⟨g2, 0, none⟩) (R.ws.length + 1) cap2)) gR (rcs zR none 0) from DR.out.apart (b := gO) (q := 1) (by have := HVm.out; have := HZ.out; omega) _); have KE := Lib.hid (show Below w.heap.size w (w2.setCell ⟨gO, 1, none⟩ (.slice (some ⟨g2, 0, none⟩) (R.ws.length + 1) cap2)) from (B2.out.trans (hN2.below.mono B2.out.size)).setCell (p := ⟨gO, 1, none⟩) (show w.heap.size ≤ gO by have := HVm.out; have := HZ.out; omega) _); have KN := Lib.hid hN2; have KG := Lib.hid (show V.heap.size ≤ g2 ∧ g2 ≠ gO from ⟨hg2.1, (by have h1 := hg2.2; have h2 := B8.out.size; have h3 := congrArg (fun W => W.heap.size) HX8.out; simp only [new_size] at h3; have h4 := HNe.out; rcases h1 with h | h <;> omega)⟩); clear hN2 hg2 hsz2 hot2 hr2) | ((with_reducible refine at_slot 34 ?_); refine wpList_load_mid rfl 35 _ rfl _ _ rfl (rcs { newR R.n with ws := R.ws ++ [({ R.rf with ld := m } : RW)] } (some ⟨g2, 0, none⟩) cap2) _ K1.out.1 Tryd.underlying35 rfl ?_ ?_; (rw [size_D, rcs_len (R := { newR R.n with ws := R.ws ++ [({ R.rf with ld := m } : RW)] }) (newR_len R.n)])) | ((with_reducible refine at_store 35 ?_); refine wpList_storeH rfl 35 _ _ rfl _ _ _ rfl rfl ?_ ?_ (all_oneCell_toArray (rcs_one _ _ _)) ?_; (focus ((have t := K3.out.th; rw [rcs_len (R := zR) rfl] at t; rw [rcs_size (R := { newR R.n with ws := R.ws ++ [({ R.rf with ld := m } : RW)] }) (newR_len R.n)]; exact t))); (focus (rw [size_D, rcs_size (R := { newR R.n with ws := R.ws ++ [({ R.rf with ld := m } : RW)] }) (newR_len R.n)])); intro W9 HW9))
          have hM9 : Rm W9 (some ⟨g2, 0, none⟩) cap2 (R.ws ++ [({ R.rf with ld := m } : RW)]) := rm_of_own (fun x hx => by
            rcases List.mem_append.1 hx with h | h
            · exact HMV.out.ok x h
            · obtain rfl := List.mem_singleton.1 h
              exact ⟨HL.out, hm64⟩) (own_same (by have t := KN.out.own; rw [show (R.ws ++ [({ R.rf with ld := m } : RW)]).flatMap wcs = R.ws.flatMap wcs ++ wcs ({ R.rf with ld := m } : RW) by simp, List.length_append]; exact t) (fun g hg => by
            have hg' : g2 = g := by simpa [Value.ownBlock] using hg
            subst hg'
            have h1 := KG.out
            rw [HW9.out, heap_setCells _ _ _ _ _ (by have := HZ.out; omega), Below.heap_setCell _ _ _ _ (show g2 ≠ gO from h1.2)]))
          obtain ⟨h1, h2, h3⟩ := ref_end (R' := { newR R.n with ws := R.ws ++ [({ R.rf with ld := m } : RW)] }) (L := rcs zR none 0) K3.out (rcs_len (R := zR) rfl _ _) (newR_len R.n) HW9.out KE.out (by have := HZ.out; omega) hM9
          try rw [HM1.out]
          exact ret_cell _ gR rfl rfl h1 Tryd.underlying35 rfl (by rw [size_D, rcs_len (R := { newR R.n with ws := R.ws ++ [({ R.rf with ld := m } : RW)] }) (newR_len R.n)]) rfl ⟨_, rfl, h2, h3⟩
        exact AllReadyH.nil
      exact AllReadyH.nil
    exact AllReadyH.nil
  exact AllReadyH.nil
theorem refCrash_any (w : World) (v : Value) (R : RD) (h : RV w v R) (torn : Int) (hws : R.ws.length ≤ 900000) :
    Calls Tryd.prog 16 #[v, .int .i64 torn] w (fun e w' => ∃ v, e = .returned v ∧ RV w' v (crashR R torn) ∧ Below w.heap.size w w') := by
  obtain ⟨A, c, rfl, hm, hr⟩ := h
  unfold crashR
  by_cases hy : 0 ≤ R.rf.bk ∧ 0 < torn
  · rw [if_pos hy]
    exact refCrash_yes w R A c torn hm hr hws hy
  · rw [if_neg hy]
    exact refCrash_no w R A c torn hm hr hws hy
end Go.Proofs.YtnbagklgagomfaaDoor
