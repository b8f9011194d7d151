/-
  Disks: the program's Crash, walked.
-/
import Derived.Test.YtnbagklgagomfaaBk4
namespace Go.Proofs.Ytnbagklgagomfaa
open Go.RowKit Go.Lib
set_option linter.unusedVariables false
set_option linter.unusedSimpArgs false

theorem build_none (w : World) : (Instr.buildSlice 58 0 #[]).run Try.prog w = .ok (.slice (some ⟨w.heap.size, 0, none⟩) 0 0) (w.alloc (.cells #[] 59)) := by kernel_rfl
/-- All the blocks' cells, one behind the other. -/
def flat (n : Nat) (B : Nat → List UInt8) : List UInt8 := ((List.range n).map B).flatten
theorem flat_succ (n : Nat) (B : Nat → List UInt8) : flat (n + 1) B = flat n B ++ B n := by
  simp [flat, List.range_succ]
theorem flat_len (n : Nat) (B : Nat → List UInt8) (h : ∀ i, i < n → (B i).length = 64) : (flat n B).length = n * 64 := by
  induction n with
  | zero => rfl
  | succ n ih =>
    rw [flat_succ, List.length_append, ih (fun i hi => h i (by omega)), h n (by omega)]
    omega
/-- Blocks one behind the other, and as a row. -/
theorem flat_range {w : World} {b n : Nat} {B : Nat → List UInt8} (hl : ∀ i, i < n → (B i).length = 64) : w.rangeAt b 0 (bcs (flat n B)) ↔ ∀ i, i < n → w.rangeAt b (i * 64) (bcs (B i)) := by
  induction n with
  | zero => exact ⟨fun _ i hi => absurd hi (by omega), fun _ j v hv => by simp [flat, bcs] at hv⟩
  | succ n ih =>
    have h1 := ih (fun i hi => hl i (by omega))
    have e := flat_len n B (fun i hi => hl i (by omega))
    rw [flat_succ, bcs_app]
    constructor
    · intro h i hi
      obtain ⟨a, c⟩ := range_part h
      rw [bcs_len, e, Nat.zero_add] at c
      rcases Nat.lt_or_ge i n with h2 | h2
      · exact h1.1 a i h2
      · obtain rfl : i = n := by omega
        exact c
    · intro h
      refine range_join (h1.2 fun i hi => h i (by omega)) ?_
      rw [bcs_len, e, Nat.zero_add]
      exact h n (by omega)
theorem src_blocks {w : World} {bk n c : Nat} {B : Nat → List UInt8} (h : ∀ i, i < n → w.rangeAt bk (i * 64) (bcs (B i)) ∧ (B i).length = 64) : Src Try.prog 64 58 (.slice (some ⟨bk, 0, none⟩) n c) n (bcs (flat n B)) w := by
  refine Src.ofSlice w Try.underlying58 _ _ _ _ ?_ ?_ (bcs_one _)
  · rw [bcs_len, flat_len _ _ fun i hi => (h i hi).2]
  · intro j u hu
    rw [Addr.add_mid]
    exact (flat_range fun i hi => (h i hi).2).2 (fun i hi => (h i hi).1) j u hu
/-- A copy of the blocks. -/
def CloneAns (w : World) (n : Nat) (B : Nat → List UInt8) (e : Ending) (w' : World) : Prop := ∃ g c, e = .returned (.slice (some ⟨g, 0, none⟩) n c) ∧ n ≤ c ∧ w.heap.size ≤ g ∧ g < w'.heap.size ∧ HdB w' g n B ∧ Below w.heap.size w w'
theorem clone_end {w W1 W2 : World} {n c : Nat} {B : Nat → List UInt8} {z : Value} (hn : n ≤ c) (hB : ∀ i, i < n → (B i).length = 64) (h1 : W1 = w.alloc (.cells #[] 59)) (h2 : W2 = W1.drew.alloc (.cells (([] ++ bcs (flat n B)).toArray ++ Builtin.zeroCells z.cells (c - (0 + n))) 59)) : CloneAns w n B (.returned (.slice (some ⟨W1.heap.size, 0, none⟩) (0 + n) c)) W2 := by
  have s1 : W1.heap.size = w.heap.size + 1 := by rw [h1, new_size]
  have hr := new_range W1.drew (([] ++ bcs (flat n B)).toArray ++ Builtin.zeroCells z.cells (c - (0 + n))) 59
  rw [← h2, List.nil_append, Array.toList_append, List.toList_toArray] at hr
  have hr1 := (range_part hr).1
  refine ⟨W1.heap.size, c, by rw [Nat.zero_add], hn, by omega, by rw [h2, new_size]; exact Nat.lt_succ_self _, ⟨fun i hi => ⟨(flat_range hB).1 hr1 i hi, hB i hi⟩, fun j hj => by rw [h2]; exact World.frozen?_alloc_new W1.drew _ _ _⟩, ?_⟩
  rw [h2, h1]
  exact (((Below.refl _ _).alloc (Nat.le_refl _) _).drew).alloc (by simp) _
set_option maxHeartbeats 1000000 in
set_option maxRecDepth 100000 in
theorem clone_any (w : World) (bk n c : Nat) (B : Nat → List UInt8) (hB : HdB w bk n B) (h1 : 0 < n) (h2 : n ≤ 4096) :
    Calls Try.prog 22 #[.slice (some ⟨bk, 0, none⟩) n c] w (CloneAns w n B) := by
  have hq : ∀ W, (binOp .eql 58 (.slice (some ⟨bk, 0, none⟩) n c) (.slice none 0 0)).run Try.prog W = .ok (.bool false) W := fun W => Lib.run_eql_slice_nil W _ _ _ _ _ _ _ Try.underlying58
  have HB := Lib.hid hB
  clear hB
  go_enter Try.func22, Try.ntmps22
  go_wp2_with ((with_reducible refine at_slot 7 ?_); go_must (refine wpList_growH rfl (.tmp 5) (.tmp 6) 58 58 rfl 59 zero64 64 64 Try.underlying58 info_block _ _ _ rfl _ n rfl [] (bcs (flat n B)) ?c1 ?c2 (by omega) (by omega) ?c3 ?_; (case c1 => (exact run_firstCells_some _ 64 0 _ 0 0 [] rfl (fun j u hu => absurd hu (by simp)))); (case c2 => (exact src_blocks fun i hi => ⟨World.rangeAt_alloc (HB.out.1 i hi).1 _, (HB.out.1 i hi).2⟩)); (case c3 => (rw [Nat.zero_add, nextslicecap_zero h1]; omega)); intro W2 c2 hc2 HW2))
  go_ret
  have hce := clone_end (w := w) (n := n) (c := c2) (B := B) (by omega) (fun i hi => (HB.out.1 i hi).2) rfl HW2.out
  rw [Nat.zero_add, new_size] at hce
  exact hce

/-- What comes of a crash. -/
def laidN (torn : Int) : Nat := (min (max torn 0) 64).toNat
def crashSt (S : St) (torn : Int) : St := { newSt S.n with B := if S.de then upd S.B S.ra (S.rf.take (laidN torn) ++ (S.B S.ra).drop (laidN torn)) else S.B }
def CrashAns (w : World) (S : St) (torn : Int) (e : Ending) (w' : World) : Prop := ∃ d b, e = .returned (.pointer (some ⟨d, 0, none⟩)) ∧ w.heap.size ≤ d ∧ w.heap.size ≤ b ∧ Dk w' d b (crashSt S torn) ∧ Below w.heap.size w w'
theorem build_disk2 (b n c : Nat) (w : World) : (Instr.build 61 #[(0, .slice (some ⟨b, 0, none⟩) n c)]).run Try.prog w = .ok (.agg (dcs (newSt n) b c).toArray) w := by kernel_rfl
/-- The new disk, in memory. -/
theorem crash_box {W1 W2 : World} {n g c : Nat} {B : Nat → List UInt8} (h1 : 0 < n) (h2 : n ≤ 4096) (hc : n ≤ c) (hg : g < W1.heap.size) (hB : HdB W1 g n B) (e2 : W2 = W1.alloc (.cells (dcs (newSt n) g c).toArray 61)) :
    Dk W2 W1.heap.size g { newSt n with B := B } := by
  have b2 : Below W1.heap.size W1 W2 := by rw [e2]; exact new_below W1 _
  refine ⟨⟨c, hc, ?_⟩, hB.same (b2.block _ hg), by simp [newSt, zeros], by omega, h1, h2, by simp [newSt], by simp [newSt], by simp [newSt], by rw [e2, new_size]; omega, by rw [e2, new_size]; omega⟩
  rw [e2]
  refine ⟨?_, fun j hj => by simp⟩
  have := new_range W1 (dcs (newSt n) g c).toArray 61
  rwa [List.toList_toArray] at this
set_option maxHeartbeats 1000000 in
set_option maxRecDepth 100000 in
theorem crash_live (w : World) (d bk : Nat) (S : St) (h : Dk w d bk S) (torn : Int) (hd : S.de = false) :
    Calls Try.prog 14 #[.pointer (some ⟨d, 0, none⟩), .int .i64 torn] w (CrashAns w S torn) := by
  obtain ⟨c, hc, h0⟩ := h.c0
  have h4 := h.c4
  rw [hd] at h4
  have hCl := Lib.hid (clone_any w bk S.n c S.B h.hb h.pos h.most)
  have H := Lib.hid h
  have hld := h.ld
  have HE := Lib.hid (show crashSt S torn = { newSt S.n with B := S.B } by simp [crashSt, hd])
  clear h hd
  go_enter Try.func14, Try.ntmps14
  go_wp2_with fail
  refine (hCl.out).mono ?_
  rintro e W1 ⟨g, c2, rfl, hc2, hg, hg2, hB, hb1⟩
  have HB := Lib.hid hB
  have h4' : W1.cell? ⟨d, 4, none⟩ = some (.bool false) := (hb1.cell (p := ⟨d, 4, none⟩) hld).trans h4
  have hld1 : d < W1.heap.size := Nat.lt_of_lt_of_le hld hb1.size
  have HB1 := Lib.hid hb1
  clear hB hb1 h4 h0
  go_wp2_with (first | ((with_reducible refine at_slot 12 ?_); go_must (refine wpList_buildH rfl 61 #[(0, .tmp 11)] rfl #[(0, .slice (some ⟨g, 0, none⟩) S.n c2)] ?hp (.agg (dcs (newSt S.n) g c2).toArray) ?hr ?_; (case hr => (exact build_disk2 _ _ _ _)); (case hp => (first | rfl | (simp [Act.eval]; done) | (go_simp; done) | kernel_rfl)))) | ((with_reducible refine at_slot 13 ?_); refine wpList_boxH rfl 61 _ rfl _ rfl ?_; intro W2 HW2; have h4'' : W2.cell? ⟨d, 4, none⟩ = some (.bool false) := (by rw [HW2.out, World.cell?_alloc_lt _ _ _ hld1]; exact h4')))
  go_ret
  refine ⟨W1.heap.size, g, rfl, HB1.out.size, hg, ?_, HB1.out.trans ((show Below W1.heap.size W1 W2 by rw [HW2.out]; exact new_below W1 _).mono HB1.out.size)⟩
  rw [HE.out]
  exact crash_box H.out.pos H.out.most hc2 hg2 HB.out HW2.out
end Go.Proofs.Ytnbagklgagomfaa
