/-
  Rows of writes that a call makes: what append gives; steps of a region that draws its order.
-/
import Derived.Test.YtnbagklgagomfaaDoorBkR4
import Derived.Great.BuildSlice
namespace Go.Proofs.YtnbagklgagomfaaDoor
open Go.RowKit Go.Lib
set_option linter.unusedVariables false
set_option linter.unusedSimpArgs false

theorem info_W : (Tryd.prog.info? 33).map (fun i => (i.zero, i.size, i.bytes)) = some (some (.agg (wcs { bk := 0, b := List.replicate 64 0, ld := 0 }).toArray), 66, 80) := by kernel_rfl
theorem slice_W (y : RW) (hy : y.b.length = 64) (w : World) : (Instr.buildSlice 30 1 #[(0, .agg (wcs y).toArray)]).run Tryd.prog w = .ok (.slice (some ⟨w.heap.size, 0, none⟩) 1 1) (w.alloc (.cells (wcs y).toArray 33)) := by
  obtain ⟨i, hi, hz0, hz1, hz2⟩ := info_parts info_W
  have hf := Go.Great.fill_whole (s := 66) (by decide) [.agg (wcs y).toArray] ((Array.range (1 * i.size)).map (fun k => (wcs { bk := 0, b := List.replicate 64 0, ld := 0 }).toArray[k % (wcs { bk := 0, b := List.replicate 64 0, ld := 0 }).toArray.size]!)) (fun v hv => by obtain rfl := List.mem_singleton.1 hv; exact wcs_size hy) (by simp [hz1])
  refine run_buildSlice w _ 33 1 _ _ i _ Tryd.underlying30 hi hz0 (by rw [hz1]; decide) (by rw [hz1]; decide) ?_
  rw [hz1] at hf ⊢
  have e : ([Value.agg (wcs y).toArray].flatMap fun v => v.cells.toList).toArray = (wcs y).toArray := by simp [Value.cells]
  rw [e] at hf
  exact hf
section
variable {P : Program} {ops : Array Oper} {o : Oper} {a : Act} {w : World} {K : Act → World → Prop} {Q : Exit → Act → World → Prop} {E : Prop}
/-- A step of a region, by its slot. -/
theorem at_step (n : Nat) {op : Op} {t : TypeId} {ps : String} {af : Array Edge} {g : Option (Nat × Bool)} (h : if Region.wanted ⟨some n, op, t, ps, af, g⟩ (yielded ops a.tmps) = true then Oper.wp P ⟨some n, op, t, ps, af, g⟩ a w K Q else E) : if Region.wanted ⟨some n, op, t, ps, af, g⟩ (yielded ops a.tmps) = true then Oper.wp P ⟨some n, op, t, ps, af, g⟩ a w K Q else E := h
/-- A step whose run is known. -/
theorem step_any (hgd : o.guard = none) (v : Value) (w1 : World) (hr : (execOp a.eval o).run P w = .ok (.value v) w1) (h : ∀ w', Hid (w' = w1) → K (a.put o.dst v) w') : if Region.wanted o (yielded ops a.tmps) = true then Oper.wp P o a w K Q else E := by
  have hw : Region.wanted o (yielded ops a.tmps) = true := by simp [Region.wanted, hgd]
  rw [if_pos hw]
  unfold Oper.wp
  rw [hr]
  exact h _ rfl
theorem step_app (hgd : o.guard = none) (s x : Operand) (t : TypeId) (ho : o.op = .call { callee := .builtin .append, args := #[s, x], argTypes := #[t, t] })
    (v u : Value) (hs : a.eval s = v) (hx : a.eval x = u) (R : Value → World → Prop) (hr : ∃ v' w', (Builtin.append_ #[t, t] o.type #[v, u]).run P w = .ok v' w' ∧ R v' w') (h : ∀ v' w', R v' w' → K (a.put o.dst v') w') :
    if Region.wanted o (yielded ops a.tmps) = true then Oper.wp P o a w K Q else E := by
  have hw : Region.wanted o (yielded ops a.tmps) = true := by simp [Region.wanted, hgd]
  rw [if_pos hw]
  obtain ⟨v', w', hr, hR⟩ := hr
  unfold Oper.wp execOp
  simp only [ho, resolve, invoke, builtin, Sem.run_bind, Sem.run_pure, Result.andThen_ok, List.map_toArray, List.map_cons, List.map_nil, hs, hx, hr]
  exact h v' w' hR
theorem step_loadH (hgd : o.guard = none) (ty : TypeId) (x : Operand) (ho : o.op = .load ty x) (b q : Nat) (hx : a.eval x = .pointer (some ⟨b, q, none⟩)) (cs : List Value) (d : TypeDesc) (hc : w.rangeAt b q cs)
    (hu : P.underlying ty = some d) (hd : d.isRow = true) (hi : (P.info? ty).map (·.size) = some cs.length) (h : K (a.put o.dst (.agg cs.toArray)) w) : if Region.wanted o (yielded ops a.tmps) = true then Oper.wp P o a w K Q else E := by
  have hw : Region.wanted o (yielded ops a.tmps) = true := by simp [Region.wanted, hgd]
  rw [if_pos hw]
  unfold Oper.wp execOp
  simp only [ho, hx, Instr.loadAt, Instr.sureAddr, Sem.run_bind, Sem.run_pure, Result.andThen_ok, run_loadVar_mid w b q ty cs d hc hu hd hi]
  exact h
end
/-- A new row so far. -/
structure NewW (W0 w : World) (v : Value) (n : Nat) (xs : List Value) : Prop where
  below : Below W0.heap.size W0 w
  own : w.ownsRow W0.heap.size 33 66 v n xs
theorem flat_one (ws : List RW) : ∀ u ∈ ws.flatMap wcs, u.oneCell' = true := fun u hu => by
  obtain ⟨x, _, h⟩ := List.mem_flatMap.1 hu
  exact wcs_one x u h
theorem appW_more {W0 w : World} {v : Value} {n : Nat} {xs : List Value} (h : NewW W0 w v n xs) {A : Option Addr} {m : Nat} (c : Nat) {news : List Value} (hs : Srcs w 66 A m news) (h1 : ∀ u ∈ news, u.oneCell' = true) (hm : n + m ≤ 1000000) (ty : TypeId) :
    ∃ v' w', (Builtin.append_ #[30, 30] ty #[v, .slice A m c]).run Tryd.prog w = .ok v' w' ∧ NewW W0 w' v' (n + m) (xs ++ news) ∧ ((∃ g, v.ownBlock = some g) → ∃ g, v'.ownBlock = some g) ∧ w.heap.size ≤ w'.heap.size ∧ (∀ g, g < w.heap.size → v.ownBlock ≠ some g → w'.heap[g]? = w.heap[g]?) := by
  obtain ⟨i, hi, hz0, hz1, hz2⟩ := info_parts info_W
  obtain ⟨v', w', hr, ho, hg, ha⟩ := app_gen (P := Tryd.prog) W0.heap.size 30 ty 33 i _ 66 80 Tryd.underlying30 hi hz0 hz1 hz2 (wcs_size List.length_replicate) (by decide) v n xs h.own A m c news hs h1 (by simp only [maxLen]; omega) (by omega) h.below.size
  refine ⟨v', w', hr, ⟨h.below.grown hg h.below.size (fun k hk => (h.own.lt k hk).1), ho⟩, fun ⟨g, e⟩ => ?_, hg.size, fun g hlt hne => hg.block g hlt (fun e => hne e.symm)⟩
  rcases ha with h | h
  · exact ⟨g, by rw [h, e]⟩
  · exact ⟨_, h⟩
section
variable {V : World} {A : Option Addr} {c : Nat} {ws : List RW} {y : RW}
theorem drew_below (W0 : World) : Below W0.heap.size W0 W0.drew := (Below.refl _ _).drew
theorem drew_size (w : World) : w.drew.heap.size = w.heap.size := rfl
theorem Rm.srcs {w : World} (h : Rm w A c ws) : Srcs w 66 A ws.length (ws.flatMap wcs) := ⟨flat_wcs h.ok, fun h0 => by
  obtain ⟨b, e, hr, -⟩ := h.at_ h0
  exact ⟨_, e, fun j u hu => by rw [Addr.add_mid]; exact hr j u hu⟩⟩
abbrev EW : Obj := .cells #[] 33
abbrev XW (y : RW) : Obj := .cells (wcs y).toArray 33
theorem newW_e {W0 W : World} (hb : Below W0.heap.size W0 W) : NewW W0 (W.alloc EW) (.slice (some ⟨W.heap.size, 0, none⟩) 0 0) 0 [] :=
  ⟨hb.alloc hb.size _, own_empty W W0.heap.size _ 66 hb.size⟩
/-- What stands behind the first append; behind it and the new write's own row. -/
def App1 (V : World) (n : Nat) (xs : List Value) (v : Value) (w : World) : Prop := NewW V w v n xs ∧ ∃ g, v.ownBlock = some g
def App1x (V : World) (n : Nat) (xs : List Value) (gx : Nat) (y : RW) (v : Value) (w : World) : Prop := App1 V n xs v w ∧ w.rangeAt gx 0 (wcs y) ∧ gx < w.heap.size
theorem appW_e1 (hs : Rm V A c ws) (hn : ws.length ≤ 1000000) (ty : TypeId) :
    ∃ v' w', (Builtin.append_ #[30, 30] ty #[.slice (some ⟨V.heap.size, 0, none⟩) 0 0, .slice A ws.length c]).run Tryd.prog (V.drew.alloc EW) = .ok v' w' ∧ App1 V ws.length (ws.flatMap wcs) v' w' := by
  have h0 : NewW V (V.drew.alloc EW) (.slice (some ⟨V.heap.size, 0, none⟩) 0 0) 0 [] := newW_e (drew_below V)
  obtain ⟨v', w', hr, h1, h2, -, -⟩ := appW_more h0 c (hs.keep h0.below).srcs (flat_one ws) (by omega) ty
  rw [Nat.zero_add, List.nil_append] at h1
  exact ⟨v', w', hr, h1, h2 ⟨_, rfl⟩⟩
theorem appW_e2 (hs : Rm V A c ws) (hn : ws.length ≤ 1000000) (ty : TypeId) :
    ∃ v' w', (Builtin.append_ #[30, 30] ty #[.slice (some ⟨V.heap.size, 0, none⟩) 0 0, .slice A ws.length c]).run Tryd.prog ((V.drew.alloc EW).alloc (XW y)) = .ok v' w' ∧ App1x V ws.length (ws.flatMap wcs) (V.heap.size + 1) y v' w' := by
  have h00 : NewW V (V.drew.alloc EW) (.slice (some ⟨V.heap.size, 0, none⟩) 0 0) 0 [] := newW_e (drew_below V)
  have h0 : NewW V ((V.drew.alloc EW).alloc (XW y)) (.slice (some ⟨V.heap.size, 0, none⟩) 0 0) 0 [] := ⟨h00.below.alloc h00.below.size _, h00.own.alloc _⟩
  obtain ⟨v', w', hr, h1, h2, h3, h4⟩ := appW_more h0 c (hs.keep h0.below).srcs (flat_one ws) (by omega) ty
  rw [Nat.zero_add, List.nil_append] at h1
  have hx := new_range (V.drew.alloc EW) (wcs y).toArray 33
  rw [List.toList_toArray, new_size] at hx
  have hz : ((V.drew.alloc EW).alloc (XW y)).heap.size = V.heap.size + 2 := by rw [new_size, new_size]; rfl
  exact ⟨v', w', hr, ⟨h1, h2 ⟨_, rfl⟩⟩, rangeAt_of hx (h4 _ (by rw [hz]; exact Nat.lt_succ_self _) (by simp [Value.ownBlock])), by have : V.heap.size + 2 ≤ w'.heap.size := hz ▸ h3; omega⟩
theorem appW_e3 (hs : Rm V A c ws) (hn : ws.length ≤ 1000000) (ty : TypeId) :
    ∃ v' w', (Builtin.append_ #[30, 30] ty #[.slice (some ⟨V.heap.size + 1, 0, none⟩) 0 0, .slice A ws.length c]).run Tryd.prog ((V.drew.alloc (XW y)).alloc EW) = .ok v' w' ∧ App1x V ws.length (ws.flatMap wcs) V.heap.size y v' w' := by
  have hz0 : (V.drew.alloc (XW y)).heap.size = V.heap.size + 1 := by rw [new_size]; rfl
  have h0 := newW_e (W0 := V) (W := V.drew.alloc (XW y)) ((drew_below V).alloc (Nat.le_refl _) _)
  rw [hz0] at h0
  obtain ⟨v', w', hr, h1, h2, h3, h4⟩ := appW_more h0 c (hs.keep h0.below).srcs (flat_one ws) (by omega) ty
  rw [Nat.zero_add, List.nil_append] at h1
  have hx := new_range V.drew (wcs y).toArray 33
  rw [List.toList_toArray] at hx
  have hz : ((V.drew.alloc (XW y)).alloc EW).heap.size = V.heap.size + 2 := by rw [new_size, hz0]
  have hx2 : ((V.drew.alloc (XW y)).alloc EW).rangeAt V.heap.size 0 (wcs y) := rangeAt_of hx (Below.heap_alloc _ _ _ (by rw [hz0]; exact Nat.lt_succ_self _))
  exact ⟨v', w', hr, ⟨h1, h2 ⟨_, rfl⟩⟩, rangeAt_of hx2 (h4 _ (by rw [hz]; omega) (by simp [Value.ownBlock])), by have : V.heap.size + 2 ≤ w'.heap.size := hz ▸ h3; omega⟩
/-- What stands behind the second append. -/
def App2 (V : World) (ws : List RW) (y : RW) (v : Value) (w : World) : Prop := ∃ g cap, v = .slice (some ⟨g, 0, none⟩) (ws.length + 1) cap ∧ Below V.heap.size V w ∧ V.heap.size ≤ g ∧ Rm w (some ⟨g, 0, none⟩) cap (ws ++ [y])
theorem app2_of {w : World} {v : Value} (ho : ∀ x ∈ ws, x.b.length = 64 ∧ x.ld ≤ 64) (hy : y.b.length = 64 ∧ y.ld ≤ 64) (h : NewW V w v (ws.length + 1) (ws.flatMap wcs ++ wcs y)) (hv : ∃ g, v.ownBlock = some g) : App2 V ws y v w := by
  obtain ⟨g, cap, rfl, hg, hlt, hc, -, hr, -⟩ := own_out h.own hv
  have e : (ws ++ [y]).flatMap wcs = ws.flatMap wcs ++ wcs y := by simp
  refine ⟨g, cap, rfl, h.below, hg, ⟨fun x hx => ?_, by simpa using hc, fun _ => ⟨g, rfl, by rw [e]; exact hr, hlt⟩⟩⟩
  rcases List.mem_append.1 hx with h | h
  · exact ho x h
  · obtain rfl := List.mem_singleton.1 h
    exact hy
theorem appW_2 {w : World} {v : Value} {gx : Nat} (ho : ∀ x ∈ ws, x.b.length = 64 ∧ x.ld ≤ 64) (hy : y.b.length = 64 ∧ y.ld ≤ 64) (h : App1x V ws.length (ws.flatMap wcs) gx y v w) (hn : ws.length ≤ 900000) (ty : TypeId) :
    ∃ v' w', (Builtin.append_ #[30, 30] ty #[v, .slice (some ⟨gx, 0, none⟩) 1 1]).run Tryd.prog w = .ok v' w' ∧ App2 V ws y v' w' := by
  obtain ⟨v', w', hr, h1, h2, -, -⟩ := appW_more h.1.1 1 (A := some ⟨gx, 0, none⟩) (m := 1) (news := wcs y) ⟨by rw [wcs_len hy.1], fun _ => ⟨_, rfl, fun j u hu => by rw [Addr.add_mid]; exact h.2.1 j u hu⟩⟩ (wcs_one y) (by omega) ty
  exact ⟨v', w', hr, app2_of ho hy h1 (h2 h.1.2)⟩
theorem appW_2n {w : World} {v : Value} (ho : ∀ x ∈ ws, x.b.length = 64 ∧ x.ld ≤ 64) (hy : y.b.length = 64 ∧ y.ld ≤ 64) (h : App1 V ws.length (ws.flatMap wcs) v w) (hn : ws.length ≤ 900000) (ty : TypeId) :
    ∃ v' w', (Builtin.append_ #[30, 30] ty #[v, .slice (some ⟨w.heap.size, 0, none⟩) 1 1]).run Tryd.prog (w.alloc (XW y)) = .ok v' w' ∧ App2 V ws y v' w' := by
  have hx := new_range w (wcs y).toArray 33
  rw [List.toList_toArray] at hx
  exact appW_2 ho hy ⟨⟨⟨h.1.below.alloc h.1.below.size _, h.1.own.alloc _⟩, h.2⟩, hx, by rw [new_size]; exact Nat.lt_succ_self _⟩ hn ty
end
end Go.Proofs.YtnbagklgagomfaaDoor
