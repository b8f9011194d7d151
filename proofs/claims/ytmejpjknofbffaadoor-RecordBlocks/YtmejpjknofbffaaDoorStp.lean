/-
  Steps of a region that draws its order; rows of bytes that are built there.
-/
import Derived.Test.YtmejpjknofbffaaDoorBkP
import Derived.Test.YtmejpjknofbffaaDoorHd
import Derived.Deep.RegionHeld3
namespace Go.Proofs.YtmejpjknofbffaaDoor
open Go.RowKit Go.Lib
set_option linter.unusedVariables false
set_option linter.unusedSimpArgs false

section
variable {P : Program} {ops : Array Oper} {o : Oper} {a : Act} {w : World} {K : Act → World → Prop} {Q : Exit → Act → World → Prop} {E : Prop}
/-- A step of a region, by its slot. -/
theorem at_step (n : Nat) {op : Op} {t : TypeId} {ps : String} {af : Array Edge} {g : Option (Nat × Bool)} (h : if Region.wanted ⟨some n, op, t, ps, af, g⟩ (yielded ops a.tmps) = true then Oper.wp P ⟨some n, op, t, ps, af, g⟩ a w K Q else E) : if Region.wanted ⟨some n, op, t, ps, af, g⟩ (yielded ops a.tmps) = true then Oper.wp P ⟨some n, op, t, ps, af, g⟩ a w K Q else E := h
/-- A step whose run is known. -/
theorem step_any (hgd : o.guard = none) (v : Value) (w1 : World) (hr : (execOp a.eval o).run P w = .ok (.value v) w1) (h : ∀ w', Hid (w' = w1) → K (a.put o.dst v) w') : if Region.wanted o (yielded ops a.tmps) = true then Oper.wp P o a w K Q else E := by
  have hw : Region.wanted o (yielded ops a.tmps) = true := by simp [Region.wanted, hgd]
  rw [if_pos hw]
  unfold Oper.wp
  rw [hr]
  exact h _ rfl
theorem step_app (hgd : o.guard = none) (s x : Operand) (t : TypeId) (ho : o.op = .call { callee := .builtin .append, args := #[s, x], argTypes := #[t, t] })
    (v u : Value) (hs : a.eval s = v) (hx : a.eval x = u) (R : Value → World → Prop) (hr : ∃ v' w', (Builtin.append_ #[t, t] o.type #[v, u]).run P w = .ok v' w' ∧ R v' w') (h : ∀ v' w', R v' w' → K (a.put o.dst v') w') :
    if Region.wanted o (yielded ops a.tmps) = true then Oper.wp P o a w K Q else E := by
  have hw : Region.wanted o (yielded ops a.tmps) = true := by simp [Region.wanted, hgd]
  rw [if_pos hw]
  obtain ⟨v', w', hr, hR⟩ := hr
  unfold Oper.wp execOp
  simp only [ho, resolve, invoke, builtin, Sem.run_bind, Sem.run_pure, Result.andThen_ok, List.map_toArray, List.map_cons, List.map_nil, hs, hx, hr]
  exact h v' w' hR
theorem step_loadH (hgd : o.guard = none) (ty : TypeId) (x : Operand) (ho : o.op = .load ty x) (b q : Nat) (hx : a.eval x = .pointer (some ⟨b, q, none⟩)) (cs : List Value) (d : TypeDesc) (hc : w.rangeAt b q cs)
    (hu : P.underlying ty = some d) (hd : d.isRow = true) (hi : (P.info? ty).map (·.size) = some cs.length) (h : K (a.put o.dst (.agg cs.toArray)) w) : if Region.wanted o (yielded ops a.tmps) = true then Oper.wp P o a w K Q else E := by
  have hw : Region.wanted o (yielded ops a.tmps) = true := by simp [Region.wanted, hgd]
  rw [if_pos hw]
  unfold Oper.wp execOp
  simp only [ho, hx, Instr.loadAt, Instr.sureAddr, Sem.run_bind, Sem.run_pure, Result.andThen_ok, run_loadVar_mid w b q ty cs d hc hu hd hi]
  exact h
variable {S : World → Prop}
theorem step_slice (hgd : o.guard = none) (ty : TypeId) (len : Nat) (parts : Array (Nat × Operand)) (ho : o.op = .buildSlice ty len parts) (ps : Array (Nat × Value)) (hp : (parts.map fun (i, x) => (i, a.eval x)) = ps) (v : Value) (w1 : World) (hr : (Instr.buildSlice ty len ps).run P w = .ok v w1)
    (h : K (a.put o.dst v) w1) : if Region.wanted o (yielded ops a.tmps) = true then Oper.wp P o a w K Q else E := by
  have hw : Region.wanted o (yielded ops a.tmps) = true := by simp [Region.wanted, hgd]
  rw [if_pos hw]
  subst hp
  unfold Oper.wp
  simp only [execOp, ho, Sem.run_bind, hr, Result.andThen_ok, Sem.run_pure]
  exact h
/-- A load of a long row, taken first. -/
theorem yields_loadH (hw : Region.wanted o (yielded ops a.tmps) = true) (ty : TypeId) (x : Operand) (ho : o.op = .load ty x) (b q : Nat) (hx : a.eval x = .pointer (some ⟨b, q, none⟩)) (cs : List Value) (d : TypeDesc) (hc : ∀ w, S w → w.rangeAt b q cs)
    (hu : P.underlying ty = some d) (hd : d.isRow = true) (hi : (P.info? ty).map (·.size) = some cs.length) : YieldsIf P ops S o (.agg cs.toArray) a := by
  refine .inl ⟨hw, fun w hS => ?_⟩
  unfold execOp
  simp only [ho, hx, Instr.loadAt, Instr.sureAddr, Sem.run_bind, Sem.run_pure, Result.andThen_ok, run_loadVar_mid w b q ty cs d (hc w hS) hu hd hi]
/-- Steps whose answer is known as far as it is wanted. -/
theorem step_R (hgd : o.guard = none) (R : Value → World → Prop) (hr : ∃ v w1, (execOp a.eval o).run P w = .ok (.value v) w1 ∧ R v w1) (h : ∀ v w', R v w' → K (a.put o.dst v) w') : if Region.wanted o (yielded ops a.tmps) = true then Oper.wp P o a w K Q else E := by
  have hw : Region.wanted o (yielded ops a.tmps) = true := by simp [Region.wanted, hgd]
  rw [if_pos hw]
  obtain ⟨v, w1, hr, hR⟩ := hr
  unfold Oper.wp
  rw [hr]
  exact h _ _ hR
theorem step_sliceR (hgd : o.guard = none) (ty : TypeId) (len : Nat) (parts : Array (Nat × Operand)) (ho : o.op = .buildSlice ty len parts) (ps : Array (Nat × Value)) (hp : (parts.map fun (i, x) => (i, a.eval x)) = ps) (R : Value → World → Prop) (hr : ∃ v w1, (Instr.buildSlice ty len ps).run P w = .ok v w1 ∧ R v w1)
    (h : ∀ v w', R v w' → K (a.put o.dst v) w') : if Region.wanted o (yielded ops a.tmps) = true then Oper.wp P o a w K Q else E := by
  obtain ⟨v, w1, hr, hR⟩ := hr
  exact step_slice hgd ty len parts ho ps hp v w1 hr (h _ _ hR)
theorem step_convR (hgd : o.guard = none) (tx ty : TypeId) (x : Operand) (ho : o.op = .convert tx ty x) (v1 : Value) (hx : a.eval x = v1) (R : Value → World → Prop) (hr : ∃ v w1, (convert tx ty v1).run P w = .ok v w1 ∧ R v w1) (h : ∀ v w', R v w' → K (a.put o.dst v) w') :
    if Region.wanted o (yielded ops a.tmps) = true then Oper.wp P o a w K Q else E := by
  obtain ⟨v, w1, hr, hR⟩ := hr
  refine step_R hgd R ⟨v, w1, ?_, hR⟩ h
  simp [execOp, ho, hx, hr, Result.andThen]
theorem step_allocR (hgd : o.guard = none) (ty : TypeId) (ho : o.op = .alloc ty) (z : Value) (hz : (P.info? ty).map (·.zero) = some (some z)) (R : Value → World → Prop) (hr : R (.pointer (some ⟨w.heap.size, 0, none⟩)) (w.alloc (.cells z.cells ty))) (h : ∀ v w', R v w' → K (a.put o.dst v) w') :
    if Region.wanted o (yielded ops a.tmps) = true then Oper.wp P o a w K Q else E := by
  refine step_R hgd R ⟨_, _, ?_, hr⟩ h
  cases hq : P.info? ty with
  | none => simp [hq] at hz
  | some i =>
    have hi : i.zero = some z := by simpa [hq] using hz
    simp [execOp, ho, Instr.alloc, zeroValue, typeInfo, hq, hi, newVar, newRow]
theorem step_storeH (hgd : o.guard = none) (ty : TypeId) (x y : Operand) (ho : o.op = .store ty x y) (b q : Nat) (cells : Array Value) (hx : a.eval x = .pointer (some ⟨b, q, none⟩)) (hy : a.eval y = .agg cells)
    (ht : w.there b q cells.size) (hi : (P.info? ty).map (·.size) = some cells.size) (h1 : cells.all (·.oneCell') = true) (h : ∀ w', Hid (w' = w.setCells b q cells.toList) → K (a.put o.dst undef) w') : if Region.wanted o (yielded ops a.tmps) = true then Oper.wp P o a w K Q else E := by
  have hw : Region.wanted o (yielded ops a.tmps) = true := by simp [Region.wanted, hgd]
  rw [if_pos hw]
  exact wp_store_mid ty x y ho b q cells hx hy ht hi h1 (h _ rfl)
end
theorem own_keepR {w w' : World} {B : Nat} {e : TypeId} {size : Nat} {v : Value} {n : Nat} {xs : List Value} (h : w.ownsRow B e size v n xs) (hb : Below w.heap.size w w') : w'.ownsRow B e size v n xs := by
  obtain ⟨h1, h2⟩ := h
  refine ⟨h1, ?_⟩
  rcases h2 with h | ⟨g, cap, cur, e1, e2, e3, e4⟩
  · exact Or.inl h
  · exact Or.inr ⟨g, cap, cur, e1, e2, (hb.block g (Array.getElem?_eq_some_iff.1 e3).1).trans e3, e4⟩
theorem undrew {W W' : World} (h : Below W.drew.heap.size W.drew W') : Below W.heap.size W W' := (Below.drew (Below.refl _ _)).trans h
/-- A row of bytes that is being built, above W5. -/
structure Tn (W5 W : World) (v : Value) (x : List UInt8) : Prop where
  b : Below W5.heap.size W5 W
  o : W.ownsRow W5.heap.size 5 1 v x.length (bcs x)
  k : ∃ g, v.ownBlock = some g
/-- A variable beside it. -/
def Tr (W5 W : World) (L : List Value) (v : Value) (gr : Nat) : Prop := HdD W gr L ∧ W5.heap.size ≤ gr ∧ gr < W.heap.size ∧ v.ownBlock ≠ some gr
theorem Tn.keep {W5 W W' : World} {v : Value} {x : List UInt8} (h : Tn W5 W v x) (hb : Below W.heap.size W W') : Tn W5 W' v x := by
  obtain ⟨b, ⟨o1, o2⟩, k⟩ := h
  refine ⟨b.trans (hb.mono b.size), ⟨o1, ?_⟩, k⟩
  rcases o2 with h | ⟨g, cap, cur, e1, e2, e3, e4⟩
  · exact Or.inl h
  · exact Or.inr ⟨g, cap, cur, e1, e2, (hb.block g (Array.getElem?_eq_some_iff.1 e3).1).trans e3, e4⟩
theorem Tr.keep {W5 W W' : World} {L : List Value} {v : Value} {gr : Nat} (h : Tr W5 W L v gr) (hb : Below W.heap.size W W') : Tr W5 W' L v gr := ⟨h.1.keep h.2.2.1 hb, h.2.1, Nat.lt_of_lt_of_le h.2.2.1 hb.size, h.2.2.2⟩
theorem Tr.any {W5 W : World} {L : List Value} {v u : Value} {gr : Nat} (h : Tr W5 W L v gr) (hu : u.ownBlock = none) : Tr W5 W L u gr := ⟨h.1, h.2.1, h.2.2.1, by rw [hu]; simp⟩
theorem build_noneT (w : World) : (Instr.buildSlice 28 0 #[]).run Tryd.prog w = .ok (.slice (some ⟨w.heap.size, 0, none⟩) 0 0) (w.alloc (.cells #[] 5)) := by kernel_rfl
theorem tn_new {W5 W : World} (hb : Below W5.heap.size W5 W) : ∃ v w1, (Instr.buildSlice 28 0 #[]).run Tryd.prog W = .ok v w1 ∧ (Tn W5 w1 v [] ∧ ∀ L u gr, Tr W5 W L u gr → Tr W5 w1 L v gr) := by
  refine ⟨_, _, build_noneT W, ⟨hb.alloc hb.size _, own_empty W W5.heap.size _ 1 hb.size, ⟨_, rfl⟩⟩, fun L u gr h => ?_⟩
  have h2 := h.keep (new_below W (.cells #[] 5))
  exact ⟨h2.1, h2.2.1, h2.2.2.1, fun e => by have h3 := h.2.2.1; simp [Value.ownBlock] at e; omega⟩
theorem tn_app {W5 W : World} {v : Value} {x y : List UInt8} {A : Option Addr} (c : Nat) (h : Tn W5 W v x) (hB : Bt W5 A y) (hxy : x.length + y.length ≤ 65536) (ty : TypeId) :
    ∃ v' w', (Builtin.append_ #[28, 28] ty #[v, .slice A y.length c]).run Tryd.prog W = .ok v' w' ∧ (Tn W5 w' v' (x ++ y) ∧ ∀ L gr, Tr W5 W L v gr → Tr W5 w' L v' gr) := by
  obtain ⟨i, hi, hz0, hz1, hz2⟩ := info_parts info_u8
  have hs : Srcs W 1 A y.length (bcs y) := (hB.keep h.b).srcs
  obtain ⟨v', w', hr, h2, h3, h4⟩ := app_gen (P := Tryd.prog) W5.heap.size 28 ty 5 i _ 1 1 Tryd.underlying28 hi hz0 hz1 hz2 rfl (by decide) v x.length (bcs x) h.o A y.length c (bcs y) hs (bcs_one y) (by simp only [maxLen]; omega) (by omega) h.b.size
  rw [← bcs_app, ← List.length_append] at h2
  refine ⟨v', w', hr, ⟨h.b.grown h3 h.b.size (fun k hk => (h.o.lt k hk).1), h2, ?_⟩, fun L gr ht => ⟨ht.1.same (h3.block gr ht.2.2.1 (fun e => ht.2.2.2 e.symm)), ht.2.1, Nat.lt_of_lt_of_le ht.2.2.1 h3.size, fun e => ?_⟩⟩
  · rcases h4 with e | e
    · rw [e]; exact h.k
    · exact ⟨_, e⟩
  · rcases h4 with e' | e'
    · rw [e'] at e
      exact ht.2.2.2 e
    · rw [e'] at e
      injection e with e
      have := ht.2.2.1
      omega
theorem tr_new {W5 W : World} (L : List Value) (T : TypeId) {v : Value} (hb : W5.heap.size ≤ W.heap.size) (hv : ∀ g, v.ownBlock = some g → g < W.heap.size) : Tr W5 (W.alloc (.cells L.toArray T)) L v W.heap.size :=
  ⟨hd_new W L T, hb, by rw [new_size]; exact Nat.lt_succ_self _, fun e => absurd (hv _ e) (Nat.lt_irrefl _)⟩
theorem Tn.out {W5 W : World} {v : Value} {x : List UInt8} (h : Tn W5 W v x) : ∃ g c, v = .slice (some ⟨g, 0, none⟩) x.length c ∧ x.length ≤ c ∧ c ≤ maxLen ∧ Bt W (some ⟨g, 0, none⟩) x ∧ W5.heap.size ≤ g ∧ g < W.heap.size := by
  obtain ⟨g, c, e, h1, h2, h3, h4, h5, -⟩ := own_out h.o h.k
  exact ⟨g, c, e, h3, h4, fun _ => ⟨_, rfl, fun j v hv => by rw [Addr.add_mid]; exact h5 j v hv⟩, h1, h2⟩
end Go.Proofs.YtmejpjknofbffaaDoor
