/-
  Arguments that are the document's pieces, or rows of them, opened.
-/
import Derived.Test.YtmejpjknofbffaaDoorRe2
import Derived.Test.YtmejpjknofbffaaDoorOpB
namespace Go.Proofs.YtmejpjknofbffaaDoor
open Go.RowKit Go.Lib Go.ChangeShapes Go.WideShapes
set_option linter.unusedVariables false
set_option linter.unusedSimpArgs false

/-- The document's piece, as cells. -/
def dcs (p : Pc) : List Value := [.int .i64 p.kd, .int .i64 p.ep, .int .i64 p.nu, .int .i64 p.pa, .int .i64 p.ps, .string ⟨p.da.toArray⟩]
theorem dv_dcs (p : Pc) : p.dv = .agg (dcs p).toArray := rfl
set_option maxRecDepth 100000 in
theorem open_pc {H : Type} {enc : TypeId × Value → H} {W : World} {fuel : Nat} {cs : List Value} {x : DataW H × List MemPlace} (h : DataW.trod enc Tryd.prog W 0 (fun _ => true) true fuel 23 cs = some x) :
    ∃ p : Pc, cs = dcs p ∧ p.Fit := by
  obtain ⟨xs, n, rfl, rfl, hcl, hxl, hf⟩ := DataW.trod_struct Tryd.underlying23 h
  rw [show Tryd.prog.cellsOf 23 = 6 by kernel_rfl] at hcl
  match xs, hxl, cs, hcl with
  | [x0, x1, x2, x3, x4, x5], _, [v0, v1, v2, v3, v4, v5], _ =>
  have g0 : DataW.trod enc Tryd.prog W 0 (fun _ => true) true n 3 (([v0, v1, v2, v3, v4, v5].drop 0).take (Tryd.prog.cellsOf 3)) = some x0 := hf 0 _ rfl
  have g1 : DataW.trod enc Tryd.prog W 0 (fun _ => true) true n 3 (([v0, v1, v2, v3, v4, v5].drop 1).take (Tryd.prog.cellsOf 3)) = some x1 := hf 1 _ rfl
  have g2 : DataW.trod enc Tryd.prog W 0 (fun _ => true) true n 3 (([v0, v1, v2, v3, v4, v5].drop 2).take (Tryd.prog.cellsOf 3)) = some x2 := hf 2 _ rfl
  have g3 : DataW.trod enc Tryd.prog W 0 (fun _ => true) true n 3 (([v0, v1, v2, v3, v4, v5].drop 3).take (Tryd.prog.cellsOf 3)) = some x3 := hf 3 _ rfl
  have g4 : DataW.trod enc Tryd.prog W 0 (fun _ => true) true n 3 (([v0, v1, v2, v3, v4, v5].drop 4).take (Tryd.prog.cellsOf 3)) = some x4 := hf 4 _ rfl
  have g5 : DataW.trod enc Tryd.prog W 0 (fun _ => true) true n 9 (([v0, v1, v2, v3, v4, v5].drop 5).take (Tryd.prog.cellsOf 9)) = some x5 := hf 5 _ rfl
  simp only [show Tryd.prog.cellsOf 3 = 1 by kernel_rfl, show Tryd.prog.cellsOf 9 = 1 by kernel_rfl, List.drop_zero, List.drop_succ_cons, List.take_succ_cons, List.take_zero] at g0 g1 g2 g3 g4 g5
  obtain ⟨kd, e0, -, w0⟩ := DataW.trod_int Tryd.underlying3 g0
  obtain ⟨ep, e1, -, w1⟩ := DataW.trod_int Tryd.underlying3 g1
  obtain ⟨nu, e2, -, w2⟩ := DataW.trod_int Tryd.underlying3 g2
  obtain ⟨pa, e3, -, w3⟩ := DataW.trod_int Tryd.underlying3 g3
  obtain ⟨ps, e4, -, w4⟩ := DataW.trod_int Tryd.underlying3 g4
  obtain ⟨s, e5, -, w5⟩ := DataW.trod_string Tryd.underlying9 g5
  simp only [List.cons.injEq, and_true] at e0 e1 e2 e3 e4 e5
  subst e0 e1 e2 e3 e4 e5
  refine ⟨⟨kd, ep, nu, pa, ps, s.data.toList⟩, rfl, bounds_i64 w0, bounds_i64 w1, bounds_i64 w2, bounds_i64 w3, bounds_i64 w4, ?_⟩
  have h5 : s.data.toList.length = s.size := by rw [Array.length_toList]; rfl
  show s.data.toList.length ≤ _
  rw [h5]
  simpa [maxLen] using w5
/-- A row of the document's pieces. -/
theorem u8_of {z : Int} (h0 : 0 ≤ z) (h1 : z ≤ 255) : ∃ m : UInt8, z = (m.toNat : Int) := ⟨UInt8.ofNat z.toNat, by rw [UInt8.toNat_ofNat']; omega⟩
end Go.Proofs.YtmejpjknofbffaaDoor
