/-
  Arguments that are the document's pieces, or rows of them, opened.
-/
import Derived.Test.YthkcimojemofgaaDoorRe2
import Derived.Test.YthkcimojemofgaaDoorOpB
namespace Go.Proofs.YthkcimojemofgaaDoor
open Go.RowKit Go.Lib Go.ChangeShapes Go.WideShapes
set_option linter.unusedVariables false
set_option linter.unusedSimpArgs false

/-- The document's piece, as cells. -/
def dcs (p : Pc) : List Value := [.int .i64 p.kd, .int .i64 p.ep, .int .i64 p.nu, .int .i64 p.pa, .int .i64 p.ps, .string ⟨p.da.toArray⟩]
theorem dv_dcs (p : Pc) : p.dv = .agg (dcs p).toArray := rfl
set_option maxRecDepth 100000 in
theorem open_pc {H : Type} {enc : TypeId × Value → H} {W : World} {fuel : Nat} {cs : List Value} {x : DataW H × List MemPlace} (h : DataW.trod enc Tryd.prog W 0 (fun _ => true) true fuel 23 cs = some x) :
    ∃ p : Pc, cs = dcs p ∧ p.Fit := by
  obtain ⟨xs, n, rfl, rfl, hcl, hxl, hf⟩ := DataW.trod_struct Tryd.underlying23 h
  rw [show Tryd.prog.cellsOf 23 = 6 by kernel_rfl] at hcl
  match xs, hxl, cs, hcl with
  | [x0, x1, x2, x3, x4, x5], _, [v0, v1, v2, v3, v4, v5], _ =>
  have g0 : DataW.trod enc Tryd.prog W 0 (fun _ => true) true n 3 (([v0, v1, v2, v3, v4, v5].drop 0).take (Tryd.prog.cellsOf 3)) = some x0 := hf 0 _ rfl
  have g1 : DataW.trod enc Tryd.prog W 0 (fun _ => true) true n 3 (([v0, v1, v2, v3, v4, v5].drop 1).take (Tryd.prog.cellsOf 3)) = some x1 := hf 1 _ rfl
  have g2 : DataW.trod enc Tryd.prog W 0 (fun _ => true) true n 3 (([v0, v1, v2, v3, v4, v5].drop 2).take (Tryd.prog.cellsOf 3)) = some x2 := hf 2 _ rfl
  have g3 : DataW.trod enc Tryd.prog W 0 (fun _ => true) true n 3 (([v0, v1, v2, v3, v4, v5].drop 3).take (Tryd.prog.cellsOf 3)) = some x3 := hf 3 _ rfl
  have g4 : DataW.trod enc Tryd.prog W 0 (fun _ => true) true n 3 (([v0, v1, v2, v3, v4, v5].drop 4).take (Tryd.prog.cellsOf 3)) = some x4 := hf 4 _ rfl
  have g5 : DataW.trod enc Tryd.prog W 0 (fun _ => true) true n 9 (([v0, v1, v2, v3, v4, v5].drop 5).take (Tryd.prog.cellsOf 9)) = some x5 := hf 5 _ rfl
  simp only [show Tryd.prog.cellsOf 3 = 1 by kernel_rfl, show Tryd.prog.cellsOf 9 = 1 by kernel_rfl, List.drop_zero, List.drop_succ_cons, List.take_succ_cons, List.take_zero] at g0 g1 g2 g3 g4 g5
  obtain ⟨kd, e0, -, w0⟩ := DataW.trod_int Tryd.underlying3 g0
  obtain ⟨ep, e1, -, w1⟩ := DataW.trod_int Tryd.underlying3 g1
  obtain ⟨nu, e2, -, w2⟩ := DataW.trod_int Tryd.underlying3 g2
  obtain ⟨pa, e3, -, w3⟩ := DataW.trod_int Tryd.underlying3 g3
  obtain ⟨ps, e4, -, w4⟩ := DataW.trod_int Tryd.underlying3 g4
  obtain ⟨s, e5, -, w5⟩ := DataW.trod_string Tryd.underlying9 g5
  simp only [List.cons.injEq, and_true] at e0 e1 e2 e3 e4 e5
  subst e0 e1 e2 e3 e4 e5
  refine ⟨⟨kd, ep, nu, pa, ps, s.data.toList⟩, rfl, bounds_i64 w0, bounds_i64 w1, bounds_i64 w2, bounds_i64 w3, bounds_i64 w4, ?_⟩
  have h5 : s.data.toList.length = s.size := by rw [Array.length_toList]; rfl
  show s.data.toList.length ≤ _
  rw [h5]
  simpa [maxLen] using w5
/-- A row of the document's pieces. -/
def Dps (w : World) (A : Option Addr) (l : List Pc) : Prop := 0 < l.length → ∃ g q, A = some ⟨g, q, none⟩ ∧ ∀ i (h : i < l.length) j v, (dcs l[i])[j]? = some v → w.cell? ⟨g, q + i * 6 + j, none⟩ = some v
theorem Dps.keep {w w' : World} {A : Option Addr} {l : List Pc} (h : Dps w A l) (hb : Below w.heap.size w w') : Dps w' A l := fun h0 => by
  obtain ⟨g, q, e, h1⟩ := h h0
  exact ⟨g, q, e, fun i hi j v hj => (hb.cell (block_lt_of_cell (h1 i hi j v hj))).trans (h1 i hi j v hj)⟩
/-- Elements one by one, as a list. -/
theorem pcs_of {Q : Nat → Pc → Prop} : ∀ n, (∀ i, i < n → ∃ p, Q i p) → ∃ l : List Pc, l.length = n ∧ ∀ i (h : i < l.length), Q i l[i]
  | 0, _ => ⟨[], rfl, fun i h => absurd h (by simp)⟩
  | n + 1, h => by
    obtain ⟨l, hl, h1⟩ := pcs_of n (fun i hi => h i (by omega))
    obtain ⟨p, hp⟩ := h n (by omega)
    refine ⟨l ++ [p], by simp [hl], fun i hi => ?_⟩
    rcases Nat.lt_or_ge i l.length with hk | hk
    · rw [List.getElem_append_left hk]
      exact h1 i hk
    · obtain rfl : i = n := by simp at hi; omega
      rw [List.getElem_append_right hk]
      simpa using hp
set_option maxRecDepth 100000 in
theorem open_ps {H : Type} {enc : TypeId × Value → H} {W : World} {fuel : Nat} {cs : List Value} {x : DataW H × List MemPlace} (h : DataW.trod enc Tryd.prog W 0 (fun _ => true) true fuel 50 cs = some x) :
    ∃ (A : Option Addr) (l : List Pc) (c : Nat), cs = [.slice A l.length c] ∧ l.length ≤ c ∧ c ≤ maxLen ∧ (A = none → c = 0) ∧ Dps W A l ∧ ∀ p ∈ l, p.Fit := by
  rcases Go.Deep.open_slice Tryd.underlying50 h with ⟨rfl, rfl⟩ | ⟨a, len, cap, m, n, D, Pl, rfl, -, hl, hc, hm, -, hx⟩
  · exact ⟨none, [], 0, rfl, by simp, by simp [maxLen], fun _ => rfl, fun h => absurd h (by simp), by simp⟩
  · simp only [if_true] at hm
    have cA : Tryd.prog.cellsOf 23 = 6 := by kernel_rfl
    obtain ⟨b, off, spot⟩ := a
    obtain ⟨l, hll, hq⟩ := pcs_of (Q := fun i p => W.cells? 0 ((⟨b, off, spot⟩ : Addr).add (i * 6)) 6 = some (dcs p) ∧ p.Fit) len (fun i hi => by
      obtain ⟨cs', h1, h2⟩ := hx i (by omega)
      rw [cA] at h1
      obtain ⟨p, rfl, hf⟩ := open_pc h2
      exact ⟨p, h1, hf⟩)
    subst hll
    refine ⟨some ⟨b, off, spot⟩, l, cap, rfl, hl, hc, (fun h => by cases h), fun h0 => ?_, fun p hp => ?_⟩
    · have hspot : spot = none := by
        obtain ⟨h1, -⟩ := hq 0 h0
        have := (World.cells?_some h1).2.2 0 (by omega)
        have hl3 := (World.cells?_some h1).2.1
        rw [List.getElem?_eq_getElem (by omega)] at this
        simpa [Addr.add] using World.cell?_spot this
      subst hspot
      refine ⟨b, off, rfl, fun i hi j v hj => ?_⟩
      obtain ⟨-, -, hcell⟩ := World.cells?_some (hq i hi).1
      have hj6 : j < 6 := (List.getElem?_eq_some_iff.1 hj).1
      have := hcell j hj6
      rw [Addr.add_mid, Addr.add_mid, hj] at this
      exact this
    · obtain ⟨i, hi, rfl⟩ := List.getElem_of_mem hp
      exact (hq i hi).2
theorem okWide_array {P : Program} {w : World} {r : Reach} {base : Nat} {t e : TypeId} {n : Nat} {v : Value} (ht : P.underlying t = some (.array n e)) (h : Value.okWide P w r base t v) : ∃ cs, v = .agg cs ∧ cs.size = P.cellsOf t := by
  simp only [Value.okWide, ht] at h
  obtain ⟨cs, h1, h2, _⟩ := h
  exact ⟨cs, h1, h2⟩
set_option maxRecDepth 100000 in
theorem open_head {H : Type} {enc : TypeId × Value → H} {W : World} {fuel : Nat} {cs : List Value} {x : DataW H × List MemPlace} (h : DataW.trod enc Tryd.prog W 0 (fun _ => true) true fuel 46 cs = some x) :
    ∃ a b c : Int, cs = [.int .i64 a, .int .i64 b, .int .i64 c] ∧ (-9223372036854775808 ≤ a ∧ a ≤ 9223372036854775807) ∧ (-9223372036854775808 ≤ b ∧ b ≤ 9223372036854775807) ∧ (-9223372036854775808 ≤ c ∧ c ≤ 9223372036854775807) := by
  obtain ⟨xs, n, rfl, rfl, hcl, hxl, hf⟩ := DataW.trod_array Tryd.underlying46 h
  rw [show Tryd.prog.cellsOf 46 = 3 by kernel_rfl] at hcl
  match xs, hxl, cs, hcl with
  | [x0, x1, x2], _, [v0, v1, v2], _ =>
  have g0 := hf 0 (by decide)
  have g1 := hf 1 (by decide)
  have g2 := hf 2 (by decide)
  simp only [show Tryd.prog.cellsOf 3 = 1 by kernel_rfl, List.drop_zero, List.drop_succ_cons, List.take_succ_cons, List.take_zero, Nat.mul_one, Nat.zero_mul, Nat.one_mul, List.getElem?_cons_zero, List.getElem?_cons_succ] at g0 g1 g2
  obtain ⟨a, e0, -, w0⟩ := DataW.trod_int Tryd.underlying3 g0
  obtain ⟨b, e1, -, w1⟩ := DataW.trod_int Tryd.underlying3 g1
  obtain ⟨c, e2, -, w2⟩ := DataW.trod_int Tryd.underlying3 g2
  simp only [List.cons.injEq, and_true] at e0 e1 e2
  subst e0 e1 e2
  exact ⟨a, b, c, rfl, bounds_i64 w0, bounds_i64 w1, bounds_i64 w2⟩
theorem u8_of {z : Int} (h0 : 0 ≤ z) (h1 : z ≤ 255) : ∃ m : UInt8, z = (m.toNat : Int) := ⟨UInt8.ofNat z.toNat, by rw [UInt8.toNat_ofNat']; omega⟩
set_option maxRecDepth 100000 in
theorem open_how {H : Type} {enc : TypeId × Value → H} {W : World} {fuel : Nat} {cs : List Value} {x : DataW H × List MemPlace} (h : DataW.trod enc Tryd.prog W 0 (fun _ => true) true fuel 61 cs = some x) :
    ∃ a b c : UInt8, cs = [.int .u8 (a.toNat : Int), .int .u8 (b.toNat : Int), .int .u8 (c.toNat : Int)] := by
  obtain ⟨xs, n, rfl, rfl, hcl, hxl, hf⟩ := DataW.trod_array Tryd.underlying61 h
  rw [show Tryd.prog.cellsOf 61 = 3 by kernel_rfl] at hcl
  match xs, hxl, cs, hcl with
  | [x0, x1, x2], _, [v0, v1, v2], _ =>
  have g0 := hf 0 (by decide)
  have g1 := hf 1 (by decide)
  have g2 := hf 2 (by decide)
  simp only [show Tryd.prog.cellsOf 5 = 1 by kernel_rfl, List.drop_zero, List.drop_succ_cons, List.take_succ_cons, List.take_zero, Nat.mul_one, Nat.zero_mul, Nat.one_mul, List.getElem?_cons_zero, List.getElem?_cons_succ] at g0 g1 g2
  obtain ⟨a, e0, -, w0⟩ := DataW.trod_int Tryd.underlying5 g0
  obtain ⟨b, e1, -, w1⟩ := DataW.trod_int Tryd.underlying5 g1
  obtain ⟨c, e2, -, w2⟩ := DataW.trod_int Tryd.underlying5 g2
  simp only [List.cons.injEq, and_true] at e0 e1 e2
  subst e0 e1 e2
  obtain ⟨a', rfl⟩ := u8_of (bounds_u8 w0).1 (bounds_u8 w0).2
  obtain ⟨b', rfl⟩ := u8_of (bounds_u8 w1).1 (bounds_u8 w1).2
  obtain ⟨c', rfl⟩ := u8_of (bounds_u8 w2).1 (bounds_u8 w2).2
  exact ⟨a', b', c', rfl⟩
end Go.Proofs.YthkcimojemofgaaDoor
