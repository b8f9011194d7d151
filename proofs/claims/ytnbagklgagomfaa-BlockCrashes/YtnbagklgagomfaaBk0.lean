/-
  Disks in memory: what it means that memory holds one; what stays.
-/
import Derived.Test.YtnbagklgagomfaaProg
import Derived.Test.YtnbagklgagomfaaBkL
import Derived.Test.YtnbagklgagomfaaBcs
import Derived.Test.YtnbagklgagomfaaHd
import Derived.WalkKit
import Derived.WalkLawsBesides
import Derived.Deep.MidRow
import Derived.Deep.AppendSrc
import Derived.Deep.QuietTactic
import Derived.BigQuiet
import Derived.Deep.RegionLaw
import Derived.Lib.Hide
import Derived.Lib.SlBytesRow
import Derived.Deep.LoopGhost
import Derived.Laws.IdiomStrings
namespace Go.Proofs.Ytnbagklgagomfaa
open Go.RowKit Go.Lib
set_option linter.unusedVariables false
set_option linter.unusedSimpArgs false

/-- A disk's state. -/
structure St where
  n : Nat
  B : Nat → List UInt8
  st : Nat
  fu : Bool
  lf : Nat
  de : Bool
  ra : Nat
  rf : List UInt8

/-- The cells of the struct. -/
def dcs (S : St) (bk c : Nat) : List Value := .slice (some ⟨bk, 0, none⟩) S.n c :: .int .i64 (S.st : Int) :: .bool S.fu :: .int .i64 (S.lf : Int) :: .bool S.de :: .int .i64 (S.ra : Int) :: bcs S.rf
/-- So many blocks of 64 bytes, that may be written. -/
def HdB (w : World) (bk n : Nat) (B : Nat → List UInt8) : Prop := (∀ i, i < n → w.rangeAt bk (i * 64) (bcs (B i)) ∧ (B i).length = 64) ∧ ∀ j, j < n * 64 → w.frozen? ⟨bk, j, none⟩ = false
/-- Memory holds the disk: its struct in block d, its blocks in block bk. -/
structure Dk (w : World) (d bk : Nat) (S : St) : Prop where
  hd : ∃ c, S.n ≤ c ∧ HdD w d (dcs S bk c)
  hb : HdB w bk S.n S.B
  l6 : S.rf.length = 64
  ne : d ≠ bk
  pos : 0 < S.n
  most : S.n ≤ 4096
  at_ : S.de = true → S.ra < S.n
  few : S.st ≤ 1000000000
  lfb : S.lf ≤ 9223372036854775807
  ld : d < w.heap.size
  lb : bk < w.heap.size
theorem HdB.same {w w' : World} {bk n : Nat} {B : Nat → List UInt8} (h : HdB w bk n B) (h1 : w'.heap[bk]? = w.heap[bk]?) : HdB w' bk n B :=
  ⟨fun i hi => ⟨fun j v hv => (World.cell?_of_block (w := w) (a := ⟨bk, i * 64 + j, none⟩) h1).trans ((h.1 i hi).1 j v hv), (h.1 i hi).2⟩, fun j hj => (World.frozen?_of_block (w := w) (a := ⟨bk, j, none⟩) h1).trans (h.2 j hj)⟩
def upd (B : Nat → List UInt8) (k : Nat) (x : List UInt8) : Nat → List UInt8 := fun i => if i = k then x else B i
theorem HdB.there {w : World} {bk n : Nat} {B : Nat → List UInt8} (h : HdB w bk n B) {k : Nat} (hk : k < n) {l : Nat} (hl : l ≤ 64) : w.there bk (k * 64) l := fun j hj => by
  have h1 := h.1 k hk
  refine ⟨?_, h.2 _ (by omega)⟩
  rw [h1.1 j _ (List.getElem?_eq_getElem (by rw [bcs_len]; omega))]
  rfl
theorem HdB.puts {w : World} {bk n : Nat} {B : Nat → List UInt8} (h : HdB w bk n B) {k : Nat} (hk : k < n) {x : List UInt8} (hx : x.length = 64) : HdB (w.setCells bk (k * 64) (bcs x)) bk n (upd B k x) := by
  refine ⟨fun i hi => ?_, fun j hj => by rw [World.frozen?_setCells]; exact h.2 j hj⟩
  unfold upd
  split
  · rename_i e
    subst e
    exact ⟨World.rangeAt_setCells_same _ _ _ _ (h.there hk (by rw [bcs_len]; omega)), hx⟩
  · exact ⟨World.rangeAt_setCells_apart (h.1 i hi).1 _ _ _ (Or.inr (by rw [bcs_len, bcs_len, (h.1 i hi).2, hx]; omega)), (h.1 i hi).2⟩
/-- Some first bytes of a block. -/
theorem HdB.part {w : World} {bk n : Nat} {B : Nat → List UInt8} (h : HdB w bk n B) {k : Nat} (hk : k < n) {x : List UInt8} (hx : x.length ≤ 64) : HdB (w.setCells bk (k * 64) (bcs x)) bk n (upd B k (x ++ (B k).drop x.length)) := by
  refine ⟨fun i hi => ?_, fun j hj => by rw [World.frozen?_setCells]; exact h.2 j hj⟩
  unfold upd
  split
  · rename_i e
    subst e
    have h1 := h.1 i hi
    refine ⟨?_, by simp; omega⟩
    rw [bcs_app]
    refine range_join (World.rangeAt_setCells_same _ _ _ _ (h.there hk (by rw [bcs_len]; omega))) ?_
    have h2 := h1.1
    rw [← List.take_append_drop x.length (B i), bcs_app] at h2
    have h3 := (range_part h2).2
    have e1 : (bcs (List.take x.length (B i))).length = (bcs x).length := by
      rw [bcs_len, bcs_len, List.length_take]
      omega
    rw [e1] at h3
    exact World.rangeAt_setCells_apart h3 _ _ _ (Or.inr (Or.inr (Nat.le_refl _)))
  · exact ⟨World.rangeAt_setCells_apart (h.1 i hi).1 _ _ _ (Or.inr (by rw [bcs_len, bcs_len, (h.1 i hi).2]; omega)), (h.1 i hi).2⟩
theorem dcs_len (S : St) (bk c : Nat) : (dcs S bk c).length = S.rf.length + 6 := by simp [dcs, bcs_len]
theorem Dk.c0 {w : World} {d bk : Nat} {S : St} (h : Dk w d bk S) : ∃ c, S.n ≤ c ∧ w.cell? ⟨d, 0, none⟩ = some (.slice (some ⟨bk, 0, none⟩) S.n c) := by
  obtain ⟨c, hc, h1⟩ := h.hd
  exact ⟨c, hc, h1.cell 0 _ rfl⟩
theorem Dk.c1 {w : World} {d bk : Nat} {S : St} (h : Dk w d bk S) : w.cell? ⟨d, 1, none⟩ = some (.int .i64 (S.st : Int)) := by
  obtain ⟨c, hc, h1⟩ := h.hd
  exact h1.cell 1 _ rfl
theorem Dk.c2 {w : World} {d bk : Nat} {S : St} (h : Dk w d bk S) : w.cell? ⟨d, 2, none⟩ = some (.bool S.fu) := by
  obtain ⟨c, hc, h1⟩ := h.hd
  exact h1.cell 2 _ rfl
theorem Dk.c3 {w : World} {d bk : Nat} {S : St} (h : Dk w d bk S) : w.cell? ⟨d, 3, none⟩ = some (.int .i64 (S.lf : Int)) := by
  obtain ⟨c, hc, h1⟩ := h.hd
  exact h1.cell 3 _ rfl
theorem Dk.c4 {w : World} {d bk : Nat} {S : St} (h : Dk w d bk S) : w.cell? ⟨d, 4, none⟩ = some (.bool S.de) := by
  obtain ⟨c, hc, h1⟩ := h.hd
  exact h1.cell 4 _ rfl
theorem Dk.c5 {w : World} {d bk : Nat} {S : St} (h : Dk w d bk S) : w.cell? ⟨d, 5, none⟩ = some (.int .i64 (S.ra : Int)) := by
  obtain ⟨c, hc, h1⟩ := h.hd
  exact h1.cell 5 _ rfl
theorem Dk.td {w : World} {d bk : Nat} {S : St} (h : Dk w d bk S) (j : Nat) (hj : j < 70) : w.frozen? ⟨d, j, none⟩ = false := by
  obtain ⟨c, hc, h1⟩ := h.hd
  exact h1.2 j (by rw [dcs_len, h.l6]; exact hj)
theorem Dk.c6 {w : World} {d bk : Nat} {S : St} (h : Dk w d bk S) : w.rangeAt d 6 (bcs S.rf) := by
  obtain ⟨c, hc, h1⟩ := h.hd
  exact (range_part (xs := (dcs S bk c).take 6) (ys := bcs S.rf) h1.1).2

/-- What stays, when a disk is turned: all else. -/
def Oth (d bk : Nat) (w w' : World) : Prop := w.heap.size ≤ w'.heap.size ∧ (∀ k, k < w.heap.size → k ≠ d → k ≠ bk → w'.heap[k]? = w.heap[k]?) ∧ ∀ (B : Nat) (W : World), Below B W w → B ≤ d → B ≤ bk → B ≤ w.heap.size → Below B W w'
theorem Oth.refl (d bk : Nat) (w : World) : Oth d bk w w := ⟨Nat.le_refl _, fun _ _ _ _ => rfl, fun _ _ h _ _ _ => h⟩
theorem Oth.trans {d bk : Nat} {w w1 w2 : World} (h : Oth d bk w w1) (h2 : Oth d bk w1 w2) : Oth d bk w w2 :=
  ⟨Nat.le_trans h.1 h2.1, fun k hk a b => (h2.2.1 k (Nat.lt_of_lt_of_le hk h.1) a b).trans (h.2.1 k hk a b), fun B W h3 a b c => h2.2.2 B W (h.2.2 B W h3 a b c) a b (Nat.le_trans c h.1)⟩
theorem Oth.step {d bk : Nat} {w w' w2 : World} (h : Oth d bk w w') (hb : Below w'.heap.size w' w2) : Oth d bk w w2 :=
  ⟨Nat.le_trans h.1 hb.size, fun k hk a b => (hb.block k (Nat.lt_of_lt_of_le hk h.1)).trans (h.2.1 k hk a b), fun B W h1 a b c => (h.2.2 B W h1 a b c).trans (hb.mono (Nat.le_trans c h.1))⟩
theorem Oth.put {d bk : Nat} {w w' : World} (h : Oth d bk w w') (g q : Nat) (hg : g = d ∨ g = bk) (v : Value) : Oth d bk w (w'.setCell ⟨g, q, none⟩ v) := by
  refine ⟨by simpa [World.setCell] using h.1, fun k hk a b => (Below.heap_setCell w' ⟨g, q, none⟩ v k (by rcases hg with rfl | rfl <;> assumption)).trans (h.2.1 k hk a b), fun B W h1 a b c => (h.2.2 B W h1 a b c).setCell ?_ _⟩
  rcases hg with rfl | rfl <;> assumption
theorem Oth.puts {d bk : Nat} {w w' : World} (h : Oth d bk w w') (g : Nat) (hg : g = d ∨ g = bk) (vs : List Value) (q : Nat) : Oth d bk w (w'.setCells g q vs) := by
  induction vs generalizing w' q with
  | nil => exact h
  | cons v r ih => exact ih (h.put g q hg v) (q + 1)
theorem Oth.below {d bk B : Nat} {w w' : World} (h : Oth d bk w w') (a : B ≤ d) (b : B ≤ bk) (c : B ≤ w.heap.size) : Below B w w' := h.2.2 B w (Below.refl _ _) a b c
theorem Oth.cell {d bk : Nat} {w w' : World} (h : Oth d bk w w') {p : Addr} (hp : p.block < w.heap.size) (a : p.block ≠ d) (b : p.block ≠ bk) : w'.cell? p = w.cell? p := World.cell?_of_block (h.2.1 _ hp a b)

theorem rangeAt_of {w w' : World} {b o : Nat} {cs : List Value} (h : w.rangeAt b o cs) (hw : w'.heap[b]? = w.heap[b]?) : w'.rangeAt b o cs := fun j v hv => (World.cell?_of_block (w := w) (a := ⟨b, o + j, none⟩) hw).trans (h j v hv)
/-- The disk's memory in another world that has the same two blocks. -/
theorem Dk.same {w w' : World} {d bk : Nat} {S : St} (h : Dk w d bk S) (h1 : w'.heap[d]? = w.heap[d]?) (h2 : w'.heap[bk]? = w.heap[bk]?) (hs : w.heap.size ≤ w'.heap.size) : Dk w' d bk S := by
  obtain ⟨c, hc, h0⟩ := h.hd
  exact ⟨⟨c, hc, h0.same h1⟩, h.hb.same h2, h.l6, h.ne, h.pos, h.most, h.at_, h.few, h.lfb, Nat.lt_of_lt_of_le h.ld hs, Nat.lt_of_lt_of_le h.lb hs⟩
theorem Dk.below {w w' : World} {d bk : Nat} {S : St} (h : Dk w d bk S) (hb : Below w.heap.size w w') : Dk w' d bk S := h.same (hb.block _ h.ld) (hb.block _ h.lb) hb.size
theorem Dk.oth {w w' : World} {d bk d' bk' : Nat} {S : St} (h : Dk w d bk S) (ho : Oth d' bk' w w') (a : d ≠ d') (b : d ≠ bk') (a' : bk ≠ d') (b' : bk ≠ bk') : Dk w' d bk S := h.same (ho.2.1 _ h.ld a b) (ho.2.1 _ h.lb a' b') ho.1

theorem len_disk (w : World) (d bk : Nat) (S : St) (h : Dk w d bk S) : Calls Try.prog 23 #[.pointer (some ⟨d, 0, none⟩)] w fun e w' => e = .returned (.int .i64 (S.n : Int)) ∧ w = w' := by
  obtain ⟨c, hc, h0⟩ := h.c0
  go_enter Try.func23, Try.ntmps23
  go_wp2
  go_ret
  exact ⟨rfl, rfl⟩
theorem dead_disk (w : World) (d bk : Nat) (S : St) (h : Dk w d bk S) : Calls Try.prog 17 #[.pointer (some ⟨d, 0, none⟩)] w fun e w' => e = .returned (.bool S.de) ∧ w = w' := by
  have h0 := h.c4
  go_enter Try.func17, Try.ntmps17
  go_wp2
  go_ret
  exact ⟨rfl, rfl⟩
theorem steps_disk (w : World) (d bk : Nat) (S : St) (h : Dk w d bk S) : Calls Try.prog 20 #[.pointer (some ⟨d, 0, none⟩)] w fun e w' => e = .returned (.int .i64 (S.st : Int)) ∧ w = w' := by
  have h0 := h.c1
  go_enter Try.func20, Try.ntmps20
  go_wp2
  go_ret
  exact ⟨rfl, rfl⟩
def hasB (n : Nat) (k : Int) : Bool := decide (0 ≤ k ∧ k < (n : Int))
theorem has_disk (w : World) (d bk : Nat) (S : St) (h : Dk w d bk S) (k : Int) : Calls Try.prog 21 #[.pointer (some ⟨d, 0, none⟩), .int .i64 k] w fun e w' => e = .returned (.bool (hasB S.n k)) ∧ w = w' := by
  obtain ⟨c, hc, h0⟩ := h.c0
  by_cases h1 : 0 ≤ k
  · by_cases h2 : k < (S.n : Int)
    · have e : hasB S.n k = true := by simp [hasB, h1, h2]
      rw [e]
      clear e
      go_enter Try.func21, Try.ntmps21
      go_wp2
      go_ret
      exact ⟨rfl, rfl⟩
    · have e : hasB S.n k = false := by simp [hasB, h2]
      rw [e]
      clear e
      go_enter Try.func21, Try.ntmps21
      go_wp2
      go_ret
      exact ⟨rfl, rfl⟩
  · have e : hasB S.n k = false := by simp [hasB, h1]
    rw [e]
    clear e
    go_enter Try.func21, Try.ntmps21
    go_wp2
    go_ret
    exact ⟨rfl, rfl⟩

/-- An error's value: none, or a code. -/
def errV (c : Nat) : Value := if c = 0 then .nilIface else .iface 52 (.int .i64 (c : Int))
end Go.Proofs.Ytnbagklgagomfaa
