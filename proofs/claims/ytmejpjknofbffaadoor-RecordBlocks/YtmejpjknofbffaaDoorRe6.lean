/-
  A block, read by the program.
-/
import Derived.Test.YtmejpjknofbffaaDoorRe4
import Derived.Test.YtmejpjknofbffaaDoorRe5
import Derived.Test.YtmejpjknofbffaaDoorHd
namespace Go.Proofs.YtmejpjknofbffaaDoor
open Go.RowKit Go.Lib
set_option linter.unusedVariables false
set_option linter.unusedSimpArgs false

/-- A function's end where its first result lies in memory. -/
theorem results_cell_tmp2 {fn : Func} {p u v : Tmp} {ty : TypeId} (h : fn.results = #[.cell p ty, .tmp u, .tmp v]) (tmps : Array Value) (P : Program) (w : World) :
    (results fn tmps).run P w = ((asAddr (tmps.getD p undef)).run P w).andThen fun a w₁ => ((loadVar ty a).run P w₁).andThen fun x w₂ => .ok (.tuple #[x, tmps.getD u undef, tmps.getD v undef]) w₂ := by
  simp only [results, h]
  simp [Sem.run_bind, Result.andThen]
theorem ret_cell_tmp2 {P : Program} {fn : Func} {R : Ending → World → Prop} {a : Act} {w : World} {p u v : Tmp} {ty : TypeId} {d : TypeDesc} (cs : List Value) (b : Nat) (hf : fn.results = #[.cell p ty, .tmp u, .tmp v]) (hp : a.tmps.getD p undef = .pointer (some ⟨b, 0, none⟩)) (hc : w.rangeAt b 0 cs)
    (hu : P.underlying ty = some d) (hd : d.isRow = true) (hi : (P.info? ty).map (·.size) = some cs.length) (hde : a.defers = []) (hR : R (.returned (.tuple #[.agg cs.toArray, a.tmps.getD u undef, a.tmps.getD v undef])) w) : bodyPost P fn R .ret a w := by
  refine bodyPost_ret (v := .tuple #[.agg cs.toArray, a.tmps.getD u undef, a.tmps.getD v undef]) ?_ hde hR
  rw [results_cell_tmp2 hf, hp]
  simp [asAddr, run_loadVar_mid w b 0 ty cs d hc hu hd hi]

theorem pcs_len (p : Pc) (A : Option Addr) (c : Nat) : (pcs p A c).length = 6 := rfl
theorem pcs_one (p : Pc) (A : Option Addr) (c : Nat) : (pcs p A c).toArray.all (·.oneCell') = true := by
  refine all_oneCell_toArray fun v hv => ?_
  simp only [pcs, List.mem_cons, List.not_mem_nil, or_false] at hv
  rcases hv with rfl | rfl | rfl | rfl | rfl | rfl <;> rfl
theorem size_pc : (Tryd.prog.info? 33).map (·.size) = some 6 := by kernel_rfl
def zeroPc : Pc := ⟨0, 0, 0, 0, 0, []⟩
def byteN (x : List UInt8) (i : Nat) : Nat := (x.getD i 0).toNat
def readP (x : List UInt8) : Pc := ⟨byteN x 1, un (cutL x 2 6), un (cutL x 6 10), byteN x 10, byteN x 11, cutL x 21 (21 + byteN x 12)⟩
/-- What is wrong with a block's bytes; 0: nothing. -/
def readC (x : List UInt8) : Int :=
  if x.length ≠ 64 then 1 else if x.getD 0 0 ≠ x.getD 63 0 then 20 else if un (cutL x 13 21) ≠ fnv (sumL x) then 20
  else if 42 < byteN x 12 then 1 else if allZ (cutL x (21 + byteN x 12) 63) = false then 1 else if (readP x).bad ≠ 0 then 1 else 0
def errR (c : Int) : Value := if c = 0 then .nilIface else .iface 52 (.int .i64 c)
def readA (x : List UInt8) : Pc := if readC x = 0 then readP x else zeroPc
def readM (x : List UInt8) : Nat := if readC x = 0 then byteN x 0 else 0
/-- What Read answers. -/
def RdAns (w : World) (x : List UInt8) (e : Ending) (w' : World) : Prop := ∃ A c, e = .returned (.tuple #[(readA x).pv A c, .int .u8 (readM x : Int), errR (readC x)]) ∧ Bt w' A (readA x).da ∧ (A = none → (readA x).da.length = 0) ∧ (readA x).da.length ≤ c ∧ Below w.heap.size w w'
theorem rdans_no {w w' : World} {x : List UInt8} {c : Int} (h : readC x = c) (h0 : c ≠ 0) (hb : Below w.heap.size w w') : RdAns w x (.returned (.tuple #[zeroPc.pv none 0, .int .u8 0, .iface 52 (.int .i64 c)])) w' := by
  refine ⟨none, 0, ?_, ?_, fun _ => ?_, ?_, hb⟩
  · rw [readA, readM, errR, h, if_neg h0, if_neg h0, if_neg h0]; rfl
  · rw [readA, h, if_neg h0]; exact fun h => absurd h (by simp [zeroPc])
  · rw [readA, h, if_neg h0]; rfl
  · rw [readA, h, if_neg h0]; exact Nat.le_refl _
set_option maxHeartbeats 4000000 in
set_option maxRecDepth 100000 in
theorem read_len (w : World) (A : Option Addr) (c : Nat) (x : List UInt8) (hx : x.length ≠ 64) (hl : x.length ≤ 9223372036854775807) :
    Calls Tryd.prog 10 #[.slice A x.length c] w (RdAns w x) := by
  have hc : readC x = 1 := by rw [readC, if_pos hx]
  obtain ⟨n, hn⟩ : ∃ n : Nat, x.length = n := ⟨_, rfl⟩
  rw [hn] at hx hl ⊢
  have d1 : ((n : Int) == 64) = false := by rw [beq_eq_false_iff_ne]; omega
  have HC := Lib.hid hc
  clear hc hn
  go_enter Tryd.func10, Tryd.ntmps10
  go_wp2_with fail
  refine ret_cell_tmp2 (pcs zeroPc none 0) w.heap.size rfl rfl (hd_new w (pcs zeroPc none 0) 33).1 Tryd.underlying33 rfl size_pc rfl ?_
  exact rdans_no HC.out (by decide) (new_below w _)
/-- While a block is read: its bytes, the result's cells. -/
structure Rg (w W : World) (g q r : Nat) (x : List UInt8) (L : List Value) : Prop where
  hb : Below w.heap.size w W
  hB : Bt W (some ⟨g, q, none⟩) x
  hr : HdD W r L
  lr : w.heap.size ≤ r
  l6 : L.length = 6
theorem Rg.step {w W W' : World} {g q r : Nat} {x : List UInt8} {L : List Value} (h : Rg w W g q r x L) (hb : Below W.heap.size W W') : Rg w W' g q r x L :=
  ⟨h.hb.trans (hb.mono h.hb.size), h.hB.keep hb, h.hr.keep (h.hr.lt (by rw [h.l6]; decide)) hb, h.lr, h.l6⟩
theorem Rg.fin {w W W' : World} {g q r : Nat} {x : List UInt8} {L L' : List Value} (h : Rg w W g q r x L) (hl : L'.length = 6) (he : W' = W.setCells r 0 L') : HdD W' r L' ∧ Below w.heap.size w W' := by
  subst he
  exact ⟨h.hr.all (by rw [hl, h.l6]), below_setCells h.hb h.lr _ _⟩
theorem zbuild (w : World) : (Instr.build 33 #[]).run Tryd.prog w = .ok (.agg (pcs zeroPc none 0).toArray) w := by kernel_rfl
theorem zero_pc : (Tryd.prog.info? 33).map (·.zero) = some (some (.agg (pcs zeroPc none 0).toArray)) := by kernel_rfl
theorem Rg.new {w W1 : World} {g q : Nat} {x : List UInt8} (h : Bt w (some ⟨g, q, none⟩) x) (e : W1 = w.alloc (.cells (Value.agg (pcs zeroPc none 0).toArray).cells 33)) : Rg w W1 g q w.heap.size x (pcs zeroPc none 0) := by
  subst e
  exact ⟨new_below w _, h.keep (new_below w _), hd_new w _ _, Nat.le_refl _, rfl⟩
theorem Rg.cell {w W : World} {g q r : Nat} {x : List UInt8} {L : List Value} (h : Rg w W g q r x L) (hx : x.length = 64) (i : Nat) (hi : i < 64) : W.cell? ⟨g, q + i, none⟩ = some (.int .u8 (byteN x i : Int)) := by
  rw [h.hB.at i (by omega), byteN, List.getD_eq_getElem?_getD, List.getElem?_eq_getElem (by omega)]
  rfl
set_option maxHeartbeats 4000000 in
set_option maxRecDepth 100000 in
theorem read_marks (w : World) (g q c : Nat) (x : List UInt8) (hx : x.length = 64) (hc : 64 ≤ c) (h : Bt w (some ⟨g, q, none⟩) x) (hm : x.getD 0 0 ≠ x.getD 63 0) :
    Calls Tryd.prog 10 #[.slice (some ⟨g, q, none⟩) 64 c] w (RdAns w x) := by
  have hcc : readC x = 20 := by rw [readC, if_neg (by omega), if_pos hm]
  have hne : ∀ a b : Nat, byteN x 0 = a → byteN x 63 = b → ((b : Int) == (a : Int)) = false := fun a b ha hb => by
    rw [beq_eq_false_iff_ne]
    intro e
    exact hm (UInt8.toNat_inj.1 (by unfold byteN at ha hb; omega))
  obtain ⟨y0, hy0⟩ : ∃ y, byteN x 0 = y := ⟨_, rfl⟩
  obtain ⟨y1, hy1⟩ : ∃ y, byteN x 63 = y := ⟨_, rfl⟩
  have hn := hne y0 y1 hy0 hy1
  have hn2 : ((y1 : Int) != (y0 : Int)) = true := by rw [bne, hn]; rfl
  have hn3 : ¬ ((y1 : Int) = (y0 : Int)) := by simpa using hn
  have hn4 : ¬ (y1 = y0) := fun e => hn3 (by rw [e])
  have HB := Lib.hid h
  have HX := Lib.hid hx
  have HY := Lib.hid (And.intro hy0 hy1)
  have HC := Lib.hid hcc
  clear hcc h hy0 hy1 hm hx hne
  go_enter Tryd.func10, Tryd.ntmps10
  go_wp2_with (first
    | ((with_reducible refine at_slot 2 ?_); refine wpList_allocH rfl 33 rfl _ zero_pc ?_; intro W1 HW1; have HR := Lib.hid (Rg.new HB.out HW1.out); have c0 := HR.out.cell HX.out 0 (by decide); have c63 := HR.out.cell HX.out 63 (by decide); rw [Nat.add_zero] at c0; rw [HY.out.1] at c0; rw [HY.out.2] at c63; have zb := zbuild W1; clear HW1)
    | ((with_reducible refine at_store 33 ?_); go_must (refine wpList_storeH rfl 33 (.tmp 2) _ rfl w.heap.size 0 (pcs zeroPc none 0).toArray rfl rfl HR.out.hr.th size_pc (pcs_one _ _ _) ?_); intro W2 HW2))
  obtain ⟨h1, h2⟩ := HR.out.fin (L' := pcs zeroPc none 0) rfl HW2.out
  refine ret_cell_tmp2 (pcs zeroPc none 0) w.heap.size rfl rfl h1.1 Tryd.underlying33 rfl size_pc rfl ?_
  exact rdans_no HC.out (by decide) h2
end Go.Proofs.YtmejpjknofbffaaDoor
