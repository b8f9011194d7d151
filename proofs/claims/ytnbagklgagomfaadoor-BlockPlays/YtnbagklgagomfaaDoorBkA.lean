/-
  Acts: arguments that are bytes, and rows of acts, opened.
-/
import Derived.Test.YtnbagklgagomfaaDoorBk7
import Derived.Test.YtnbagklgagomfaaDoorOpB
import Derived.Deep.Slices
import Derived.ChangeArms
import Derived.OpenShut
namespace Go.Proofs.YtnbagklgagomfaaDoor
open Go.RowKit Go.Lib Go.ChangeShapes Go.WideShapes
set_option linter.unusedVariables false
set_option linter.unusedSimpArgs false

/-- One act's cells. -/
def ActAt (w : World) (b q : Nat) (kd k : Int) (A : Option Addr) (x : List UInt8) (c : Nat) : Prop :=
  w.cell? ⟨b, q, none⟩ = some (.int .u8 kd) ∧ w.cell? ⟨b, q + 1, none⟩ = some (.int .i64 k) ∧ w.cell? ⟨b, q + 2, none⟩ = some (.slice A x.length c) ∧ Bt w A x ∧ (0 ≤ kd ∧ kd ≤ 255) ∧ (-9223372036854775808 ≤ k ∧ k ≤ 9223372036854775807) ∧ x.length ≤ c ∧ c ≤ maxLen
/-- A row of acts. -/
def Acts (w : World) (A : Option Addr) (n : Nat) : Prop := 0 < n → ∃ b off, A = some ⟨b, off, none⟩ ∧ ∀ i, i < n → ∃ kd k B x c, ActAt w b (off + i * 3) kd k B x c
theorem ActAt.lt {w : World} {b q : Nat} {kd k : Int} {A : Option Addr} {x : List UInt8} {c : Nat} (h : ActAt w b q kd k A x c) : b < w.heap.size := block_lt_of_cell h.1
theorem ActAt.keep {w w' : World} {b q : Nat} {kd k : Int} {A : Option Addr} {x : List UInt8} {c : Nat} (h : ActAt w b q kd k A x c) (hb : Below w.heap.size w w') : ActAt w' b q kd k A x c :=
  ⟨(hb.cell (p := ⟨b, q, none⟩) h.lt).trans h.1, (hb.cell (p := ⟨b, q + 1, none⟩) h.lt).trans h.2.1, (hb.cell (p := ⟨b, q + 2, none⟩) h.lt).trans h.2.2.1, h.2.2.2.1.keep hb, h.2.2.2.2⟩
theorem Acts.keep {w w' : World} {A : Option Addr} {n : Nat} (h : Acts w A n) (hb : Below w.heap.size w w') : Acts w' A n := fun h0 => by
  obtain ⟨b, off, e, h1⟩ := h h0
  refine ⟨b, off, e, fun i hi => ?_⟩
  obtain ⟨kd, k, B, x, c, h2⟩ := h1 i hi
  exact ⟨kd, k, B, x, c, h2.keep hb⟩
theorem add_plain2 (b off i : Nat) : (⟨b, off, none⟩ : Addr).add i = ⟨b, off + i, none⟩ := Addr.add_mid _ _ _
set_option maxRecDepth 100000 in
theorem open_act {H : Type} {enc : TypeId × Value → H} {W : World} {fuel : Nat} {cs : List Value} {x : DataW H × List MemPlace} (h : DataW.trod enc Tryd.prog W 0 (fun _ => true) true fuel 41 cs = some x) :
    ∃ (kd k : Int) (B : Option Addr) (x : List UInt8) (c : Nat), cs = [.int .u8 kd, .int .i64 k, .slice B x.length c] ∧ Bt W B x ∧ (0 ≤ kd ∧ kd ≤ 255) ∧ (-9223372036854775808 ≤ k ∧ k ≤ 9223372036854775807) ∧ x.length ≤ c ∧ c ≤ maxLen := by
  obtain ⟨xs, n, rfl, rfl, hcl, hxl, hf⟩ := DataW.trod_struct Tryd.underlying41 h
  rw [show Tryd.prog.cellsOf 41 = 3 by kernel_rfl] at hcl
  match xs, hxl, cs, hcl with
  | [x0, x1, x2], _, [v0, v1, v2], _ =>
  have g0 : DataW.trod enc Tryd.prog W 0 (fun _ => true) true n 5 (([v0, v1, v2].drop 0).take (Tryd.prog.cellsOf 5)) = some x0 := hf 0 _ rfl
  have g1 : DataW.trod enc Tryd.prog W 0 (fun _ => true) true n 3 (([v0, v1, v2].drop 1).take (Tryd.prog.cellsOf 3)) = some x1 := hf 1 _ rfl
  have g2 : DataW.trod enc Tryd.prog W 0 (fun _ => true) true n 39 (([v0, v1, v2].drop 2).take (Tryd.prog.cellsOf 39)) = some x2 := hf 2 _ rfl
  simp only [show Tryd.prog.cellsOf 5 = 1 by kernel_rfl, show Tryd.prog.cellsOf 3 = 1 by kernel_rfl, show Tryd.prog.cellsOf 39 = 1 by kernel_rfl, List.drop_zero, List.drop_succ_cons, List.take_succ_cons, List.take_zero] at g0 g1 g2
  obtain ⟨kd, e0, -, w0⟩ := DataW.trod_int Tryd.underlying5 g0
  obtain ⟨k, e1, -, w1⟩ := DataW.trod_int Tryd.underlying3 g1
  obtain ⟨B, x, c, e2, hl, hc, -, hb⟩ := open_bytes g2
  simp only [List.cons.injEq, and_true] at e0 e1 e2
  subst e0 e1 e2
  have b0 := bounds_u8 w0
  have b1 := bounds_i64 w1
  exact ⟨kd, k, B, x, c, rfl, hb, ⟨b0.1, b0.2⟩, ⟨b1.1, b1.2⟩, hl, hc⟩
set_option maxRecDepth 100000 in
theorem open_acts {H : Type} {enc : TypeId × Value → H} {W : World} {fuel : Nat} {cs : List Value} {x : DataW H × List MemPlace} (h : DataW.trod enc Tryd.prog W 0 (fun _ => true) true fuel 22 cs = some x) :
    ∃ (A : Option Addr) (n c : Nat), cs = [.slice A n c] ∧ n ≤ c ∧ c ≤ maxLen ∧ Acts W A n := by
  rcases Go.Deep.open_slice Tryd.underlying22 h with ⟨rfl, rfl⟩ | ⟨a, len, cap, m, n, D, Pl, rfl, -, hl, hc, hm, -, hx⟩
  · exact ⟨none, 0, 0, rfl, by simp, by simp [maxLen], fun h => absurd h (by simp)⟩
  · simp only [if_true] at hm
    refine ⟨some a, len, cap, rfl, hl, hc, fun h0 => ?_⟩
    have cA : Tryd.prog.cellsOf 41 = 3 := by kernel_rfl
    obtain ⟨b, off, spot⟩ := a
    have one : ∀ i, i < len → ∃ cs', W.cells? 0 ((⟨b, off, spot⟩ : Addr).add (i * 3)) 3 = some cs' ∧ ∃ kd k B x c, cs' = [.int .u8 kd, .int .i64 k, .slice B x.length c] ∧ Bt W B x ∧ (0 ≤ kd ∧ kd ≤ 255) ∧ (-9223372036854775808 ≤ k ∧ k ≤ 9223372036854775807) ∧ x.length ≤ c ∧ c ≤ maxLen := fun i hi => by
      obtain ⟨cs', h1, h2⟩ := hx i (by omega)
      rw [cA] at h1
      exact ⟨cs', h1, open_act h2⟩
    have hspot : spot = none := by
      obtain ⟨cs', h1, -⟩ := one 0 h0
      have := (World.cells?_some h1).2.2 0 (by omega)
      have hl3 := (World.cells?_some h1).2.1
      rw [List.getElem?_eq_getElem (by omega)] at this
      simpa [Addr.add] using World.cell?_spot this
    subst hspot
    refine ⟨b, off, rfl, fun i hi => ?_⟩
    obtain ⟨cs', h1, kd, k, B, x, c, rfl, hb, hr⟩ := one i hi
    obtain ⟨-, -, hcell⟩ := World.cells?_some h1
    have e0 := hcell 0 (by omega)
    have e1 := hcell 1 (by omega)
    have e2 := hcell 2 (by omega)
    rw [add_plain2, add_plain2] at e0 e1 e2
    exact ⟨kd, k, B, x, c, e0, e1, e2, hb, hr⟩
end Go.Proofs.YtnbagklgagomfaaDoor
