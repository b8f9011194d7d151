/-
  The document's disks in memory: what it means that a value is one; words for the walk.
-/
import Derived.Test.YtnbagklgagomfaaDoorBkP
import Derived.Test.YtnbagklgagomfaaDoorBkA
import Derived.Laws.ResultCell
import Derived.Deep.LoopGhost
namespace Go.Proofs.YtnbagklgagomfaaDoor
open Go.RowKit Go.Lib
set_option linter.unusedVariables false
set_option linter.unusedSimpArgs false

/-- A write, a disk, as the document has them. -/
structure RW where
  bk : Int
  b : List UInt8
  ld : Nat
structure RD where
  n : Nat
  ws : List RW
  rf : RW
  de : Bool
  fu : Int
  st : Nat
def wcs (x : RW) : List Value := .int .i64 x.bk :: (bcs x.b ++ [.int .i64 (x.ld : Int)])
def rcs (R : RD) (A : Option Addr) (c : Nat) : List Value := [.int .i64 (R.n : Int), .slice A R.ws.length c] ++ wcs R.rf ++ [.bool R.de, .int .i64 R.fu, .int .i64 (R.st : Int)]
theorem wcs_len {x : RW} (h : x.b.length = 64) : (wcs x).length = 66 := by simp [wcs, bcs_len, h]
theorem wcs_one (x : RW) : ∀ v ∈ wcs x, v.oneCell' = true := by
  intro v hv
  rcases List.mem_cons.1 hv with rfl | hv
  · rfl
  · rcases List.mem_append.1 hv with hv | hv
    · exact bcs_one _ v hv
    · obtain rfl := List.mem_singleton.1 hv
      rfl
theorem rcs_len {R : RD} (h : R.rf.b.length = 64) (A : Option Addr) (c : Nat) : (rcs R A c).length = 71 := by simp [rcs, wcs_len h]
theorem rcs_size {R : RD} (h : R.rf.b.length = 64) (A : Option Addr) (c : Nat) : (rcs R A c).toArray.size = 71 := by rw [List.size_toArray, rcs_len h]
theorem wcs_size {x : RW} (h : x.b.length = 64) : (wcs x).toArray.size = 66 := by rw [List.size_toArray, wcs_len h]
theorem rcs_one (R : RD) (A : Option Addr) (c : Nat) : ∀ v ∈ rcs R A c, v.oneCell' = true := by
  intro v hv
  unfold rcs at hv
  rcases List.mem_append.1 hv with hv | hv
  · rcases List.mem_append.1 hv with hv | hv
    · simp at hv
      rcases hv with rfl | rfl <;> rfl
    · exact wcs_one _ v hv
  · simp at hv
    rcases hv with rfl | rfl | rfl <;> rfl
/-- The writes, in memory. -/
structure Rm (w : World) (A : Option Addr) (c : Nat) (ws : List RW) : Prop where
  ok : ∀ x ∈ ws, x.b.length = 64 ∧ x.ld ≤ 64
  cap : ws.length ≤ c
  at_ : 0 < ws.length → ∃ b, A = some ⟨b, 0, none⟩ ∧ w.rangeAt b 0 (ws.flatMap wcs) ∧ b < w.heap.size
theorem flat_wcs {ws : List RW} (h : ∀ x ∈ ws, x.b.length = 64 ∧ x.ld ≤ 64) : (ws.flatMap wcs).length = ws.length * 66 := by
  induction ws with
  | nil => rfl
  | cons x r ih =>
    rw [List.flatMap_cons, List.length_append, wcs_len (h x (by simp)).1, ih fun y hy => h y (by simp [hy])]
    simp
    omega
theorem Rm.one_at {w : World} {b : Nat} : ∀ {ws : List RW} {q : Nat}, (∀ x ∈ ws, x.b.length = 64 ∧ x.ld ≤ 64) → w.rangeAt b q (ws.flatMap wcs) → ∀ i (hi : i < ws.length), w.rangeAt b (q + i * 66) (wcs ws[i])
  | x :: r, q, h, hr, 0, _ => by
    rw [List.flatMap_cons] at hr
    simpa using (range_part hr).1
  | x :: r, q, h, hr, i + 1, hi => by
    rw [List.flatMap_cons] at hr
    have h2 := (range_part hr).2
    rw [wcs_len (h x (by simp)).1] at h2
    have := Rm.one_at (ws := r) (fun y hy => h y (by simp [hy])) h2 i (by simpa using hi)
    rw [show q + (i + 1) * 66 = q + 66 + i * 66 by omega]
    exact this
theorem Rm.keep {w w' : World} {A : Option Addr} {c : Nat} {ws : List RW} (h : Rm w A c ws) (hb : Below w.heap.size w w') : Rm w' A c ws :=
  ⟨h.ok, h.cap, fun h0 => by
    obtain ⟨b, e, hr, hl⟩ := h.at_ h0
    exact ⟨b, e, rangeAt_of hr (hb.block _ hl), Nat.lt_of_lt_of_le hl hb.size⟩⟩
/-- In another world that has the row's block. -/
theorem Rm.same {w w' : World} {A : Option Addr} {c : Nat} {ws : List RW} (h : Rm w A c ws) (hs : w.heap.size ≤ w'.heap.size) (hb : ∀ b, A = some ⟨b, 0, none⟩ → b < w.heap.size → w'.heap[b]? = w.heap[b]?) : Rm w' A c ws :=
  ⟨h.ok, h.cap, fun h0 => by
    obtain ⟨b, e, hr, hl⟩ := h.at_ h0
    exact ⟨b, e, rangeAt_of hr (hb b e hl), Nat.lt_of_lt_of_le hl hs⟩⟩
/-- A value is the document's disk. -/
def RV (w : World) (v : Value) (R : RD) : Prop := ∃ A c, v = .agg (rcs R A c).toArray ∧ Rm w A c R.ws ∧ R.rf.b.length = 64
theorem RV.keep {w w' : World} {v : Value} {R : RD} (h : RV w v R) (hb : Below w.heap.size w w') : RV w' v R := by
  obtain ⟨A, c, e, hm, hl⟩ := h
  exact ⟨A, c, e, hm.keep hb, hl⟩
/-- The function's end, where its result lies in memory. -/
theorem ret_cell_tmp {P : Program} {fn : Func} {R : Ending → World → Prop} {a : Act} {w : World} {p u : Tmp} {ty : TypeId} {d : TypeDesc} (cs : List Value) (b : Nat) (hf : fn.results = #[.cell p ty, .tmp u]) (hp : a.tmps.getD p undef = .pointer (some ⟨b, 0, none⟩)) (hc : w.rangeAt b 0 cs)
    (hu : P.underlying ty = some d) (hd : d.isRow = true) (hi : (P.info? ty).map (·.size) = some cs.length) (hde : a.defers = []) (hR : R (.returned (.tuple #[.agg cs.toArray, a.tmps.getD u undef])) w) : bodyPost P fn R .ret a w := by
  refine bodyPost_ret (v := .tuple #[.agg cs.toArray, a.tmps.getD u undef]) ?_ hde hR
  rw [results_cell_tmp hf, hp]
  simp [asAddr, run_loadVar_mid w b 0 ty cs d hc hu hd hi]
theorem results_one_cell {fn : Func} {p : Tmp} {ty : TypeId} (h : fn.results = #[.cell p ty]) (tmps : Array Value) (P : Program) (w : World) :
    (results fn tmps).run P w = ((asAddr (tmps.getD p undef)).run P w).andThen fun a w₁ => (loadVar ty a).run P w₁ := by
  simp only [results, h]
  simp [Sem.run_bind, Result.andThen]
theorem ret_cell {P : Program} {fn : Func} {R : Ending → World → Prop} {a : Act} {w : World} {p : Tmp} {ty : TypeId} {d : TypeDesc} (cs : List Value) (b : Nat) (hf : fn.results = #[.cell p ty]) (hp : a.tmps.getD p undef = .pointer (some ⟨b, 0, none⟩)) (hc : w.rangeAt b 0 cs)
    (hu : P.underlying ty = some d) (hd : d.isRow = true) (hi : (P.info? ty).map (·.size) = some cs.length) (hde : a.defers = []) (hR : R (.returned (.agg cs.toArray)) w) : bodyPost P fn R .ret a w := by
  refine bodyPost_ret (v := .agg cs.toArray) ?_ hde hR
  rw [results_one_cell hf, hp]
  simp [asAddr, run_loadVar_mid w b 0 ty cs d hc hu hd hi]

theorem rcs_get {R : RD} (h : R.rf.b.length = 64) (A : Option Addr) (c : Nat) (k : Nat) (hk : k < 3) : (rcs R A c)[68 + k]? = [Value.bool R.de, .int .i64 R.fu, .int .i64 (R.st : Int)][k]? := by
  unfold rcs
  rw [List.getElem?_append_right (by simp [wcs_len h])]
  simp [wcs_len h]
theorem rcs_68 {R : RD} (h : R.rf.b.length = 64) (A : Option Addr) (c : Nat) : (rcs R A c)[68]? = some (.bool R.de) := rcs_get h A c 0 (by omega)
theorem rcs_69 {R : RD} (h : R.rf.b.length = 64) (A : Option Addr) (c : Nat) : (rcs R A c)[69]? = some (.int .i64 R.fu) := rcs_get h A c 1 (by omega)
theorem rcs_70 {R : RD} (h : R.rf.b.length = 64) (A : Option Addr) (c : Nat) : (rcs R A c)[70]? = some (.int .i64 (R.st : Int)) := rcs_get h A c 2 (by omega)
theorem rcs_0 {R : RD} (A : Option Addr) (c : Nat) : (rcs R A c)[0]? = some (.int .i64 (R.n : Int)) := rfl
theorem rcs_1 {R : RD} (A : Option Addr) (c : Nat) : (rcs R A c)[1]? = some (.slice A R.ws.length c) := rfl
theorem rcs_2 {R : RD} (A : Option Addr) (c : Nat) : (rcs R A c)[2]? = some (.int .i64 R.rf.bk) := rfl
theorem rcs_set {R : RD} (h : R.rf.b.length = 64) (A : Option Addr) (c : Nat) (k : Nat) (hk : k < 3) (v : Value) : (rcs R A c).set (68 + k) v = [Value.int .i64 (R.n : Int), .slice A R.ws.length c] ++ wcs R.rf ++ [Value.bool R.de, .int .i64 R.fu, .int .i64 (R.st : Int)].set k v := by
  unfold rcs
  have e : ([Value.int .i64 (R.n : Int), .slice A R.ws.length c] ++ wcs R.rf).length = 68 := by simp [wcs_len h]
  rw [List.set_append_right _ _ (by omega)]
  rw [e, Nat.add_sub_cancel_left]
theorem rcs_set68 {R : RD} (h : R.rf.b.length = 64) (A : Option Addr) (c : Nat) (v : Bool) : (rcs R A c).set 68 (.bool v) = rcs { R with de := v } A c := rcs_set h A c 0 (by omega) _
theorem rcs_set69 {R : RD} (h : R.rf.b.length = 64) (A : Option Addr) (c : Nat) (v : Int) : (rcs R A c).set 69 (.int .i64 v) = rcs { R with fu := v } A c := rcs_set h A c 1 (by omega) _
theorem rcs_set70 {R : RD} (h : R.rf.b.length = 64) (A : Option Addr) (c : Nat) (v : Nat) : (rcs R A c).set 70 (.int .i64 (v : Int)) = rcs { R with st := v } A c := rcs_set h A c 2 (by omega) _
/-- The end: the result is laid in its variable. -/
theorem ref_end {w W2 W3 : World} {R' : RD} {A : Option Addr} {c g : Nat} {L : List Value} (hd : HdD W2 g L) (hl : L.length = 71) (hr : R'.rf.b.length = 64) (e : W3 = W2.setCells g 0 (rcs R' A c).toArray.toList) (hb : Below w.heap.size w W2) (hg : w.heap.size ≤ g) (hm : Rm W3 A c R'.ws) :
    W3.rangeAt g 0 (rcs R' A c) ∧ RV W3 (.agg (rcs R' A c).toArray) R' ∧ Below w.heap.size w W3 := by
  rw [List.toList_toArray] at e
  have h3 := hd.all (L' := rcs R' A c) (by rw [rcs_len hr, hl])
  rw [← e] at h3
  exact ⟨h3.1, ⟨A, c, rfl, hm, hr⟩, by rw [e]; exact below_setCells hb hg _ _⟩
def zR : RD := { n := 0, ws := [], rf := { bk := 0, b := List.replicate 64 0, ld := 0 }, de := false, fu := 0, st := 0 }
theorem zero_D : (Tryd.prog.info? 35).map (·.zero) = some (some (.agg (rcs zR none 0).toArray)) := by kernel_rfl
theorem size_D : (Tryd.prog.info? 35).map (·.size) = some 71 := by kernel_rfl
theorem size_W : (Tryd.prog.info? 33).map (·.size) = some 66 := by kernel_rfl
theorem cells_agg (L : List Value) : (Value.agg L.toArray).cells = L.toArray := rfl
end Go.Proofs.YtnbagklgagomfaaDoor
