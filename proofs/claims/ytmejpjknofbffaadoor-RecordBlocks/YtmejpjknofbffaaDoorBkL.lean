/-
  Laws for the walk, of operations on many cells at once: an operation whose run is known; the world behind it is a name, its equation hidden.
-/
import Derived.WalkKit
import Derived.WalkLawsBesides
import Derived.Deep.MidRow
import Derived.Deep.AppendSrc
import Derived.Laws.MakeOwn
import Derived.Laws.AppendOwn
import Derived.Lib.Hide
import Derived.StillTailTactics
namespace Go.Proofs.YtmejpjknofbffaaDoor
open Go.RowKit Go.Lib
set_option linter.unusedVariables false
set_option linter.unusedSimpArgs false

section
variable {P : Program} {ops : Array Oper} {rest : List Oper} {o : Oper} {a : Act} {w : World} {Q : Exit → Act → World → Prop}
/-- Keys: the operation that fills a slot; one that stores at a type. -/
theorem at_slot (n : Nat) {op : Op} {t : TypeId} {ps : String} {af : Array Edge} {g : Option (Nat × Bool)} (h : wpList P ops Q (⟨some n, op, t, ps, af, g⟩ :: rest) a w) : wpList P ops Q (⟨some n, op, t, ps, af, g⟩ :: rest) a w := h
theorem at_store (ty : TypeId) {x y : Operand} {t : TypeId} {ps : String} {af : Array Edge} {g : Option (Nat × Bool)} (h : wpList P ops Q (⟨none, .store ty x y, t, ps, af, g⟩ :: rest) a w) : wpList P ops Q (⟨none, .store ty x y, t, ps, af, g⟩ :: rest) a w := h
/-- An operation whose run is known: it yields a value. -/
theorem wpList_runH (hgd : o.guard = none) (v : Value) (w1 : World) (hr : (execOp a.eval o).run P w = .ok (.value v) w1)
    (h : ∀ w', Hid (w' = w1) → wpList P ops Q rest (a.put o.dst v) w') : wpList P ops Q (o :: rest) a w :=
  wpList_plain hgd fun K hK => by
    unfold Oper.wp
    rw [hr]
    exact hK _ _ (h _ rfl)
/-- An operation whose run is known: it yields nothing. -/
theorem wpList_skipH (hgd : o.guard = none) (w1 : World) (hr : (execOp a.eval o).run P w = .ok .skip w1)
    (h : ∀ w', Hid (w' = w1) → wpList P ops Q rest (a.put o.dst undef) w') : wpList P ops Q (o :: rest) a w :=
  wpList_plain hgd fun K hK => by
    unfold Oper.wp
    rw [hr]
    exact hK _ _ (h _ rfl)
theorem wpStill_loadH {Q : Act → Prop} (hgd : o.guard = none) (ty : TypeId) (x : Operand) (ho : o.op = .load ty x)
    (b q : Nat) (hx : a.eval x = .pointer (some ⟨b, q, none⟩)) (cs : List Value) (d : TypeDesc) (hc : w.rangeAt b q cs)
    (hu : P.underlying ty = some d) (hd : d.isRow = true) (hi : (P.info? ty).map (·.size) = some cs.length)
    (h : wpStill P ops w Q rest (a.put o.dst (.agg cs.toArray))) : wpStill P ops w Q (o :: rest) a := by
  refine wpStill_step fun K hK => ?_
  simp only [Region.wanted, hgd, if_true]
  unfold Oper.still execOp
  simp only [ho, hx, Instr.loadAt, Instr.sureAddr, Sem.run_bind, Sem.run_pure, Result.andThen_ok, run_loadVar_mid w b q ty cs d hc hu hd hi]
  exact ⟨rfl, hK _ h⟩
theorem still_slot {Q : Act → Prop} (n : Nat) {op : Op} {t : TypeId} {ps : String} {af : Array Edge} {g : Option (Nat × Bool)} (h : wpStill P ops w Q (⟨some n, op, t, ps, af, g⟩ :: rest) a) : wpStill P ops w Q (⟨some n, op, t, ps, af, g⟩ :: rest) a := h
theorem wpList_allocH (hgd : o.guard = none) (ty : TypeId) (ho : o.op = .alloc ty) (z : Value) (hz : (P.info? ty).map (·.zero) = some (some z))
    (h : ∀ w', Hid (w' = w.alloc (.cells z.cells ty)) → wpList P ops Q rest (a.put o.dst (.pointer (some ⟨w.heap.size, 0, none⟩))) w') : wpList P ops Q (o :: rest) a w := by
  refine wpList_runH hgd _ _ ?_ h
  cases hq : P.info? ty with
  | none => simp [hq] at hz
  | some i =>
    have hi : i.zero = some z := by simpa [hq] using hz
    simp [execOp, ho, Instr.alloc, zeroValue, typeInfo, hq, hi, newVar, newRow]
theorem wpList_boxH (hgd : o.guard = none) (ty : TypeId) (x : Operand) (ho : o.op = .box ty x) (v : Value) (hx : a.eval x = v)
    (h : ∀ w', Hid (w' = w.alloc (.cells v.cells ty)) → wpList P ops Q rest (a.put o.dst (.pointer (some ⟨w.heap.size, 0, none⟩))) w') : wpList P ops Q (o :: rest) a w := by
  refine wpList_runH hgd _ _ ?_ h
  simp [execOp, ho, Instr.box, hx, newVar, newRow]
theorem wpList_storeH (hgd : o.guard = none) (ty : TypeId) (x y : Operand) (ho : o.op = .store ty x y)
    (b q : Nat) (cells : Array Value) (hx : a.eval x = .pointer (some ⟨b, q, none⟩)) (hy : a.eval y = .agg cells)
    (ht : w.there b q cells.size) (hi : (P.info? ty).map (·.size) = some cells.size) (h1 : cells.all (·.oneCell') = true)
    (h : ∀ w', Hid (w' = w.setCells b q cells.toList) → wpList P ops Q rest (a.put o.dst undef) w') : wpList P ops Q (o :: rest) a w :=
  wpList_store_mid hgd ty x y ho b q cells hx hy ht hi h1 (h _ rfl)
theorem wpList_copyH (hgd : o.guard = none) (d s : Operand) (dT sT : TypeId)
    (ho : o.op = .call { callee := .builtin .copy, args := #[d, s], argTypes := #[dT, sT] }) (elem : TypeId) (hu : P.underlying dT = some (.slice elem)) (hsz : (P.info? elem).map (·.size) = some 1)
    (b q dLen dCap : Nat) (sp : Option Addr) (sLen sCap : Nat) (hd : a.eval d = .slice (some ⟨b, q, none⟩) dLen dCap) (hs : a.eval s = .slice sp sLen sCap)
    (cs : List Value) (hn : cs.length = Nat.min sLen dLen) (hpos : 0 < cs.length → ∃ ad, sp = some ad ∧ ∀ j v, cs[j]? = some v → w.cell? (ad.add j) = some v)
    (ht : w.there b q cs.length) (h1 : ∀ v ∈ cs, v.oneCell' = true)
    (h : ∀ w', Hid (w' = w.setCells b q cs) → wpList P ops Q rest (a.put o.dst (goInt cs.length)) w') : wpList P ops Q (o :: rest) a w := by
  refine wpList_plain hgd fun K hK => ?_
  rcases Nat.eq_zero_or_pos cs.length with h0 | h0
  · obtain rfl : cs = [] := List.eq_nil_of_length_eq_zero h0
    have hrun := run_copy_none (P := P) w dT sT o.type elem (some ⟨b, q, none⟩) sp dLen dCap sLen sCap hu hsz (by simpa using hn.symm)
    unfold Oper.wp
    simp [execOp, ho, resolve, invoke, builtin, hd, hs, hrun, Result.andThen]
    exact hK _ _ (h _ rfl)
  · obtain ⟨ad, rfl, hsrc⟩ := hpos h0
    have hrun := run_copy_cells (P := P) w dT sT o.type elem b q dLen dCap ad sLen sCap cs hu hsz hn hsrc (fun j hj => (ht j hj).1) (fun j hj => (ht j hj).2) h1
    unfold Oper.wp
    simp [execOp, ho, resolve, invoke, builtin, hd, hs, hrun, Result.andThen]
    exact hK _ _ (h _ rfl)
theorem wpList_buildH (hgd : o.guard = none) (ty : TypeId) (parts : Array (Nat × Operand)) (ho : o.op = .build ty parts) (ps : Array (Nat × Value)) (hp : (parts.map fun (i, x) => (i, a.eval x)) = ps) (v : Value) (hr : (Instr.build ty ps).run P w = .ok v w)
    (h : wpList P ops Q rest (a.put o.dst v) w) : wpList P ops Q (o :: rest) a w := by
  refine wpList_runH hgd v w ?_ (fun w' e => by rw [e.out]; exact h)
  subst hp
  simp only [execOp, ho, Sem.run_bind, hr, Result.andThen_ok, Sem.run_pure]
theorem wpList_buildSliceH (hgd : o.guard = none) (ty : TypeId) (len : Nat) (parts : Array (Nat × Operand)) (ho : o.op = .buildSlice ty len parts) (ps : Array (Nat × Value)) (hp : (parts.map fun (i, x) => (i, a.eval x)) = ps) (v : Value) (w1 : World) (hr : (Instr.buildSlice ty len ps).run P w = .ok v w1)
    (h : ∀ w', Hid (w' = w1) → wpList P ops Q rest (a.put o.dst v) w') : wpList P ops Q (o :: rest) a w := by
  refine wpList_runH hgd v w1 ?_ h
  subst hp
  simp only [execOp, ho, Sem.run_bind, hr, Result.andThen_ok, Sem.run_pure]
/-- append that makes a new row. -/
theorem wpList_growH (hgd : o.guard = none) (s x : Operand) (t tx : TypeId) (ho : o.op = .call { callee := .builtin .append, args := #[s, x], argTypes := #[t, tx] }) (e : TypeId) (z : Value) (size bytes : Nat) (ht : P.underlying t = some (.slice e))
    (hi : (P.info? e).map (fun i => (i.zero, i.size, i.bytes)) = some (some z, size, bytes)) (base : Option Addr) (sLen sCap : Nat) (hs : a.eval s = .slice base sLen sCap) (v : Value) (n : Nat) (hx : a.eval x = v) (olds news : List Value)
    (hold : (Builtin.firstCells size sLen (.slice base sLen sCap)).run P w.drew = .ok olds.toArray w.drew) (hsrc : Src P size tx v n news w) (hg : sCap < sLen + n) (h63 : sLen + n ≤ 9223372036854775807) (hfit : Builtin.nextslicecap (sLen + n) sCap * bytes ≤ 281474976710656)
    (h : ∀ w' c, sLen + n ≤ c → Hid (w' = w.drew.alloc (.cells ((olds ++ news).toArray ++ Builtin.zeroCells z.cells (c - (sLen + n))) e)) → wpList P ops Q rest (a.put o.dst (.slice (some ⟨w.heap.size, 0, none⟩) (sLen + n) c)) w') : wpList P ops Q (o :: rest) a w := by
  refine wpList_plain hgd fun K hK => ?_
  cases hq : P.info? e with
  | none => simp [hq] at hi
  | some i =>
    have hi' : i.zero = some z ∧ i.size = size ∧ i.bytes = bytes := by simpa [hq] using hi
    obtain ⟨h1, rfl, rfl⟩ := hi'
    have hr := run_append_grow_src (P := P) w t tx o.type e i z ht hq h1 base sLen sCap olds hold v n news hsrc hg (by omega) hfit
    unfold Oper.wp
    simp [execOp, ho, resolve, invoke, builtin, hs, hx, hr, Result.andThen]
    refine hK _ _ (h _ _ (grownCap_ge _ _ _ _) ?_)
    exact show _ = _ by simp
/-- append that finds room. -/
theorem wpList_roomH (hgd : o.guard = none) (s x : Operand) (t tx : TypeId) (ho : o.op = .call { callee := .builtin .append, args := #[s, x], argTypes := #[t, tx] }) (e : TypeId) (size : Nat) (ht : P.underlying t = some (.slice e))
    (hi : (P.info? e).map (·.size) = some size) (b q sLen sCap : Nat) (hs : a.eval s = .slice (some ⟨b, q, none⟩) sLen sCap) (v : Value) (n : Nat) (hx : a.eval x = v) (news : List Value)
    (hsrc : Src P size tx v n news w) (hroom : sLen + n ≤ sCap) (hth : w.there b (q + sLen * size) news.length)
    (h : ∀ w', Hid (w' = w.setCells b (q + sLen * size) news) → wpList P ops Q rest (a.put o.dst (.slice (some ⟨b, q, none⟩) (sLen + n) sCap)) w') : wpList P ops Q (o :: rest) a w := by
  refine wpList_plain hgd fun K hK => ?_
  cases hq : P.info? e with
  | none => simp [hq] at hi
  | some i =>
    obtain rfl : i.size = size := by simpa [hq] using hi
    have hr := run_append_room_src (P := P) w t tx o.type e i ht hq b q sLen sCap v n news hsrc hroom (fun j hj => (hth j hj).1) (fun j hj => (hth j hj).2)
    unfold Oper.wp
    simp [execOp, ho, resolve, invoke, builtin, hs, hx, hr, Result.andThen]
    exact hK _ _ (h _ rfl)
theorem wpList_makeH (hgd : o.guard = none) (t e : TypeId) (x y : Operand) (ho : o.op = .makeSlice t x y) (z : Value) (size bytes n : Nat) (ht : P.underlying t = some (.slice e))
    (hi : (P.info? e).map (fun i => (i.zero, i.size, i.bytes)) = some (some z, size, bytes)) (kl kc : IntKind) (zl zc : Int) (hx : a.eval x = .int kl zl) (hy : a.eval y = .int kc zc) (el : zl = (n : Int)) (ec : zc = (n : Int)) (hb : bytes * n ≤ 281474976710656) (hn : n ≤ 9223372036854775807)
    (h : ∀ w', Hid (w' = w.alloc (.cells (madeCells z.cells (n * size)) e)) → wpList P ops Q rest (a.put o.dst (.slice (some ⟨w.heap.size, 0, none⟩) n n)) w') : wpList P ops Q (o :: rest) a w := by
  subst el ec
  refine wpList_runH hgd _ _ ?_ h
  cases hq : P.info? e with
  | none => simp [hq] at hi
  | some i =>
    have hi' : i.zero = some z ∧ i.size = size ∧ i.bytes = bytes := by simpa [hq] using hi
    obtain ⟨h1, rfl, rfl⟩ := hi'
    have hr := run_make (P := P) w t e i z ht hq h1 kl kc n n (by omega) (by omega) (by rw [← Int.natCast_mul]; omega) (by omega)
    simp only [Int.toNat_natCast] at hr
    simp [execOp, ho, hx, hy, hr, Result.andThen]
end
theorem heap_setCells (b : Nat) (vs : List Value) (q : Nat) (w : World) (k : Nat) (hk : k ≠ b) : (w.setCells b q vs).heap[k]? = w.heap[k]? := by
  induction vs generalizing w q with
  | nil => rfl
  | cons v r ih =>
    rw [World.setCells, ih]
    exact Below.heap_setCell w ⟨b, q, none⟩ v k hk
theorem size_setCells (b : Nat) (vs : List Value) (q : Nat) (w : World) : (w.setCells b q vs).heap.size = w.heap.size := by
  induction vs generalizing w q with
  | nil => rfl
  | cons v r ih =>
    rw [World.setCells, ih]
    simp [World.setCell]
theorem below_setCells {B b : Nat} {w0 w : World} (hb : Below B w0 w) (h : B ≤ b) (vs : List Value) (q : Nat) : Below B w0 (w.setCells b q vs) := by
  induction vs generalizing w q with
  | nil => exact hb
  | cons v r ih => exact ih (hb.setCell (p := ⟨b, q, none⟩) h v) (q + 1)
/-- A block that was laid new, its cells known. -/
theorem new_range (w : World) (cs : Array Value) (t : TypeId) : (w.alloc (.cells cs t)).rangeAt w.heap.size 0 cs.toList := fun j v hv => by
  rw [World.cell?_alloc_new]
  simpa using hv
theorem new_there (w : World) (cs : Array Value) (t : TypeId) (n : Nat) (h : n ≤ cs.size) : (w.alloc (.cells cs t)).there w.heap.size 0 n := fun j hj => by
  refine ⟨?_, by simp⟩
  rw [World.cell?_alloc_new]
  simp
  omega
theorem new_below (w : World) (ob : Obj) : Below w.heap.size w (w.alloc ob) := (Below.refl _ _).alloc (Nat.le_refl _) _
theorem new_size (w : World) (ob : Obj) : (w.alloc ob).heap.size = w.heap.size + 1 := by simp
theorem range_part {w : World} {b q : Nat} {xs ys : List Value} (h : w.rangeAt b q (xs ++ ys)) : w.rangeAt b q xs ∧ w.rangeAt b (q + xs.length) ys := by
  refine ⟨fun j v hv => h j v (by rw [List.getElem?_append_left (List.getElem?_eq_some_iff.1 hv).1]; exact hv), fun j v hv => ?_⟩
  have := h (xs.length + j) v (by rw [List.getElem?_append_right (by omega)]; simpa using hv)
  rwa [show q + (xs.length + j) = q + xs.length + j by omega] at this
theorem range_join {w : World} {b q : Nat} {xs ys : List Value} (h : w.rangeAt b q xs) (h2 : w.rangeAt b (q + xs.length) ys) : w.rangeAt b q (xs ++ ys) := fun j v hv => by
  rcases Nat.lt_or_ge j xs.length with hj | hj
  · rw [List.getElem?_append_left hj] at hv
    exact h j v hv
  · rw [List.getElem?_append_right hj] at hv
    have := h2 (j - xs.length) v hv
    rwa [show q + xs.length + (j - xs.length) = q + j by omega] at this
end Go.Proofs.YtmejpjknofbffaaDoor
