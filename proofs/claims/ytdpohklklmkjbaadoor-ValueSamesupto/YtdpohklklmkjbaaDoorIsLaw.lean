/-
  The law's own Is, walked: is a value the document's?
-/
import Derived.Test.YtdpohklklmkjbaaDoorRefV3
import Derived.Test.YtdpohklklmkjbaaDoorRefSame2
namespace Go.Proofs.YtdpohklklmkjbaaDoor
open Go.RowKit Go.Lib
set_option linter.unusedVariables false
set_option linter.unusedSimpArgs false

/-- Ref, and behind it, in whatever world, Same with a value that lies in memory. -/
def RefSameAns (v v' : V) (cs' : Array Value) (w : World) (e : Ending) (w' : World) : Prop :=
  ∃ o : C6, e = .returned (.agg o.arr) ∧ Below w.heap.size w w' ∧ ∀ W, Below w'.heap.size w' W → Calls Tryd.prog 25 #[.agg o.arr, .agg cs'] W fun e W' => e = .returned (.bool (same v v')) ∧ Below W.heap.size W W'
theorem refThenSame (v v' : V) (cs cs' : Array Value) (B : Nat) (w : World) (hw : wgt v ≤ 1000) (hv : Val w (· < B) 1000000 v cs) (hv' : Val w (· < B) 1000000 v' cs') (hB : B ≤ w.heap.size) :
    Calls Tryd.prog 44 #[.agg cs] w (RefSameAns v v' cs' w) := by
  refine (refv_any 1000 v cs B w hw (Nat.le_refl _) hv hB).mono ?_
  rintro e w' ⟨⟨o, rfl, ho⟩, hb⟩
  refine ⟨o, rfl, hb, fun W hW => ?_⟩
  exact refsame_any 1000 v v' o.arr cs' w'.heap.size W hw (by omega) (ho.keep (fun p hp => hW.cell hp.2) (fun b hb => hb.2))
    (hv'.keep (fun p hp => ((hb.trans (hW.mono hb.size)).cell (Nat.lt_of_lt_of_le hp hB))) (fun b hb' => by have := hb.size; omega)) hW.size

set_option maxRecDepth 100000 in
set_option maxHeartbeats 4000000 in
theorem isLaw_any (v v' : V) (cs cs' : Array Value) (B : Nat) (w : World) (hw : wgt v ≤ 1000) (hv : Val w (· < B) 1000000 v cs) (hv' : Val w (· < B) 1000000 v' cs') (hB : B ≤ w.heap.size) :
    Calls Tryd.prog 22 #[.agg cs, .agg cs'] w fun e w' => e = .returned (.bool (same v v')) ∧ Below w.heap.size w w' := by
  obtain ⟨c, rfl⟩ := hv.c6
  obtain ⟨c', rfl⟩ := hv'.c6
  have HC := Lib.hid (fun W (hW : Below w.heap.size w W) => refThenSame v v' c.arr c'.arr B W hw (hv.keep (fun p hp => hW.cell (Nat.lt_of_lt_of_le hp hB)) (fun _ h => h)) (hv'.keep (fun p hp => hW.cell (Nat.lt_of_lt_of_le hp hB)) (fun _ h => h)) (Nat.le_trans hB hW.size))
  obtain ⟨S, hS⟩ : ∃ S, same v v' = S := ⟨_, rfl⟩
  unfold RefSameAns at HC
  rw [hS] at HC ⊢
  clear hv hv' hS
  obtain ⟨jk, jy, jn, jt, ja, jla, jca, jb, jlb, jcb⟩ := c
  obtain ⟨qk, qy, qn, qt, qa, qla, qca, qb, qlb, qcb⟩ := c'
  dsimp only [C6.arr] at HC ⊢
  go_enter Tryd.func22, Tryd.ntmps22
  go_wp2_with fail
  obtain ⟨W, hW⟩ : ∃ W, (w.alloc (.cells #[.int .i64 jk, .bool jy, .int .i64 jn, .string jt, .slice ja jla jca, .slice jb jlb jcb] 38)).alloc (.cells #[.int .i64 qk, .bool qy, .int .i64 qn, .string qt, .slice qa qla qca, .slice qb qlb qcb] 25) = W := ⟨_, rfl⟩
  rw [hW]
  have hbW : Below w.heap.size w W := hW ▸ ((Below.refl _ _).alloc (Nat.le_refl _) _).alloc (by simp) _
  have h1 : Whole W w.heap.size 38 #[.int .i64 jk, .bool jy, .int .i64 jn, .string jt, .slice ja jla jca, .slice jb jlb jcb] := hW ▸ (Whole.made w _ _).alloc _
  have h2 : Whole W (w.heap.size + 1) 25 #[.int .i64 qk, .bool qy, .int .i64 qn, .string qt, .slice qa qla qca, .slice qb qlb qcb] := by
    have := Whole.made (w.alloc (.cells #[.int .i64 jk, .bool jy, .int .i64 jn, .string jt, .slice ja jla jca, .slice jb jlb jcb] 38)) 25 #[.int .i64 qk, .bool qy, .int .i64 qn, .string qt, .slice qa qla qca, .slice qb qlb qcb]
    rw [hW] at this
    simpa using this
  obtain ⟨x0, x1, x2, x3, x4, x5⟩ := h1.six
  obtain ⟨y0, y1, y2, y3, y4, y5⟩ := h2.six
  have hz1 : w.heap.size < W.heap.size := h1.lt
  have hz2 : w.heap.size + 1 < W.heap.size := h2.lt
  have HW := Lib.hid hbW
  clear hW hbW h1 h2
  go_region_held3 (fun w' => w'.cell? ⟨w.heap.size, 0, none⟩ = some (.int .i64 jk) ∧ w'.cell? ⟨w.heap.size, 1, none⟩ = some (.bool jy) ∧ w'.cell? ⟨w.heap.size, 2, none⟩ = some (.int .i64 jn) ∧ w'.cell? ⟨w.heap.size, 3, none⟩ = some (.string jt) ∧ w'.cell? ⟨w.heap.size, 4, none⟩ = some (.slice ja jla jca) ∧ w'.cell? ⟨w.heap.size, 5, none⟩ = some (.slice jb jlb jcb) ∧ w'.cell? ⟨w.heap.size + 1, 0, none⟩ = some (.int .i64 qk) ∧ w'.cell? ⟨w.heap.size + 1, 1, none⟩ = some (.bool qy) ∧ w'.cell? ⟨w.heap.size + 1, 2, none⟩ = some (.int .i64 qn) ∧ w'.cell? ⟨w.heap.size + 1, 3, none⟩ = some (.string qt) ∧ w'.cell? ⟨w.heap.size + 1, 4, none⟩ = some (.slice qa qla qca) ∧ w'.cell? ⟨w.heap.size + 1, 5, none⟩ = some (.slice qb qlb qcb))
    (first | go_keep | (go_split_ands; refine ⟨?_, ?_, ?_, ?_, ?_, ?_, ?_, ?_, ?_, ?_, ?_, ?_⟩ <;> (refine (hb2.cell ?_).trans ?_ <;> assumption)) | (go_split_ands; refine ⟨?_, ?_, ?_, ?_, ?_, ?_, ?_, ?_, ?_, ?_, ?_, ?_⟩ <;> (refine (hb3.cell ?_).trans ?_ <;> assumption)))
    (first
      | (go_at_call 44; refine (HC.out _ ?_).mono ?_; (first | exact HW.out | exact HW.out.drew); rintro e W2 ⟨o, rfl, hb2, hsm⟩
         have H2 := Lib.hid (And.intro (HW.out.trans ((((Below.refl W.heap.size W).drew).trans hb2).mono HW.out.size)) hsm)
         have hy1 : w.heap.size < W2.heap.size := Nat.lt_of_lt_of_le hz1 hb2.size
         have hy2 : w.heap.size + 1 < W2.heap.size := Nat.lt_of_lt_of_le hz2 hb2.size
         clear hsm)
      | (go_at_call 25; clear hb2; refine (H2.out.2 _ (Below.refl _ _)).mono ?_; rintro e W3 ⟨rfl, hb3⟩))
  go_wp2_with fail
  go_ret
  exact ⟨rfl, H2.out.1.trans (hb3.mono H2.out.1.size)⟩
end Go.Proofs.YtdpohklklmkjbaaDoor
