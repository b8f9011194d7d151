/-
  value.Depth and value.Size, walked.
-/
import Derived.Test.YtbjgelkckmfjeaaDoorEachD
import Derived.Test.YtbjgelkckmfjeaaDoorEachS
namespace Go.Proofs.YtbjgelkckmfjeaaDoor
open Go.RowKit Go.Lib
set_option linter.unusedVariables false
set_option linter.unusedSimpArgs false

/-- Only a block of the call's own has changed: all that was there is as it was. -/
theorem Only.below {w W W' : World} {g : Nat} (h : Only g W W') (hb : Below w.heap.size w W) (hg : w.heap.size ≤ g) : Below w.heap.size w W' := h.2.2 _ _ hb hg hb.size

set_option maxRecDepth 100000 in
set_option maxHeartbeats 1000000 in
theorem Depth_any (v : V) (cs : Array Value) (B : Nat) (w : World) (hv : Val w (· < B) 1000000 v cs) (hB : B ≤ w.heap.size) (hsz : vsize v ≤ 1000000) (hd : dep v ≤ 1000000) :
    Calls Tryd.prog 19 #[.agg cs] w fun e w' => e = .returned (.int .i64 (dep v : Nat)) ∧ Below w.heap.size w w' := by
  have htot : totD 0 [(v, 0)] = dep v := by
    simp only [totD, deepOf]
    by_cases hk : v.kind = 4 ∨ v.kind = 5
    · rw [if_pos hk]; omega
    · rw [if_neg hk, dep_none v hk]; omega
  obtain ⟨c, rfl⟩ := hv.c6
  obtain ⟨jk, jy, jn, jt, ja, jla, jca, jb, jlb, jcb⟩ := c
  dsimp only [C6.arr] at hv ⊢
  obtain ⟨W, hW⟩ : ∃ W, (w.alloc (.cells #[.int .i64 jk, .bool jy, .int .i64 jn, .string jt, .slice ja jla jca, .slice jb jlb jcb] 38)).alloc (.cells #[.int .i64 0] 3) = W := ⟨_, rfl⟩
  have hbW : Below w.heap.size w W := hW ▸ ((Below.refl _ _).alloc (Nat.le_refl _) _).alloc (by simp) _
  have hWh : Whole W (w.heap.size + 1) 3 #[.int .i64 0] := by
    have := Whole.made (w.alloc (.cells #[.int .i64 jk, .bool jy, .int .i64 jn, .string jt, .slice ja jla jca, .slice jb jlb jcb] 38)) 3 #[.int .i64 0]
    rw [hW] at this
    simpa using this
  have hcall := eachD_any stepD totD tot_depth (w.heap.size + 1) (depth1_any _) v _ B W (hv.keep (fun p hp => hbW.cell (Nat.lt_of_lt_of_le hp hB)) (fun _ h => h)) (by omega) hWh.lt hsz (hWh.cell 0) (hWh.frozen 0) (by rw [htot]; exact hd)
  rw [htot] at hcall
  have HC := Lib.hid (And.intro hcall (And.intro hbW hW))
  clear hcall hbW hW hWh hv htot
  go_enter Tryd.func19, Tryd.ntmps19
  go_wp2_with fail
  rw [HC.out.2.2]
  refine HC.out.1.mono ?_
  rintro e W2 ⟨rfl, hc, hf, ho⟩
  go_wp2_with fail
  go_ret
  exact ⟨rfl, ho.below HC.out.2.1 (by omega)⟩

set_option maxRecDepth 100000 in
set_option maxHeartbeats 1000000 in
theorem Size_any (v : V) (cs : Array Value) (B : Nat) (w : World) (hv : Val w (· < B) 1000000 v cs) (hB : B ≤ w.heap.size) (hsz : vsize v ≤ 1000000) :
    Calls Tryd.prog 21 #[.agg cs] w fun e w' => e = .returned (.int .i64 (vsize v : Nat)) ∧ Below w.heap.size w w' := by
  have htot : totS 0 [(v, 0)] = vsize v := by simp [totS, nSize]
  obtain ⟨c, rfl⟩ := hv.c6
  obtain ⟨jk, jy, jn, jt, ja, jla, jca, jb, jlb, jcb⟩ := c
  dsimp only [C6.arr] at hv ⊢
  obtain ⟨W, hW⟩ : ∃ W, (w.alloc (.cells #[.int .i64 jk, .bool jy, .int .i64 jn, .string jt, .slice ja jla jca, .slice jb jlb jcb] 38)).alloc (.cells #[.int .i64 0] 3) = W := ⟨_, rfl⟩
  have hbW : Below w.heap.size w W := hW ▸ ((Below.refl _ _).alloc (Nat.le_refl _) _).alloc (by simp) _
  have hWh : Whole W (w.heap.size + 1) 3 #[.int .i64 0] := by
    have := Whole.made (w.alloc (.cells #[.int .i64 jk, .bool jy, .int .i64 jn, .string jt, .slice ja jla jca, .slice jb jlb jcb] 38)) 3 #[.int .i64 0]
    rw [hW] at this
    simpa using this
  have hcall := eachS_any stepS totS tot_size (w.heap.size + 1) (size1_any _) v _ B W (hv.keep (fun p hp => hbW.cell (Nat.lt_of_lt_of_le hp hB)) (fun _ h => h)) (by omega) hWh.lt hsz (hWh.cell 0) (hWh.frozen 0) (by rw [htot]; exact hsz)
  rw [htot] at hcall
  have HC := Lib.hid (And.intro hcall (And.intro hbW hW))
  clear hcall hbW hW hWh hv htot
  go_enter Tryd.func21, Tryd.ntmps21
  go_wp2_with fail
  rw [HC.out.2.2]
  refine HC.out.1.mono ?_
  rintro e W2 ⟨rfl, hc, hf, ho⟩
  go_wp2_with fail
  go_ret
  exact ⟨rfl, ho.below HC.out.2.1 (by omega)⟩
end Go.Proofs.YtbjgelkckmfjeaaDoor
