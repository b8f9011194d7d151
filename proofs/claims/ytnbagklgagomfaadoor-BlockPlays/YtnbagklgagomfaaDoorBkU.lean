/-
  The document's rows and variables, beside the program's disks; a guarded load.
-/
import Derived.Test.YtnbagklgagomfaaDoorBkT
import Derived.Test.YtnbagklgagomfaaDoorBkG
import Derived.Test.YtnbagklgagomfaaDoorBkP
namespace Go.Proofs.YtnbagklgagomfaaDoor
open Go.RowKit Go.Lib
set_option linter.unusedVariables false
set_option linter.unusedSimpArgs false

/-- The document's row of writes is no block of the disk's. -/
theorem Rm.ne {w : World} {A : Option Addr} {c : Nat} {ws : List RW} {d bk : Nat} {S : St} (h : Rm w A c ws) (hD : Dk w d bk S) {b : Nat} (e : A = some ⟨b, 0, none⟩) (h0 : 0 < ws.length) : b ≠ d ∧ b ≠ bk := by
  obtain ⟨b', e', hr, -⟩ := h.at_ h0
  rw [e] at e'
  have hbb : b = b' := by injection e' with e'; injection e'
  subst hbb
  have h1 := Rm.one_at h.ok hr 0 h0
  have c0 : w.cell? ⟨b, 0, none⟩ = some (.int .i64 ws[0].bk) := by simpa using h1 0 _ rfl
  constructor
  · rintro rfl
    obtain ⟨c', -, h2⟩ := hD.c0
    rw [c0] at h2
    injection h2 with h2
    cases h2
  · rintro rfl
    have h2 := hD.hb.1 0 hD.pos
    have h3 := h2.1 0 _ (List.getElem?_eq_getElem (by rw [bcs_len, h2.2]; omega))
    have h4 : w.cell? ⟨b, 0, none⟩ = some ((bcs (S.B 0))[0]'(by rw [bcs_len, h2.2]; omega)) := by simpa using h3
    rw [c0] at h4
    injection h4 with h4
    simp [bcs] at h4
theorem Rm.oth {w w' : World} {A : Option Addr} {c : Nat} {ws : List RW} {d bk : Nat} {S : St} (h : Rm w A c ws) (hD : Dk w d bk S) (ho : Oth d bk w w') : Rm w' A c ws :=
  ⟨h.ok, h.cap, fun h0 => by
    obtain ⟨b, e, hr, hl⟩ := h.at_ h0
    obtain ⟨n1, n2⟩ := h.ne hD e h0
    exact ⟨b, e, rangeAt_of hr (ho.2.1 b hl n1 n2), Nat.lt_of_lt_of_le hl ho.1⟩⟩
/-- Another variable is laid anew: the row stays. -/
theorem Rm.var {w w' : World} {A : Option Addr} {c : Nat} {ws : List RW} {g : Nat} {R : RD} {A0 : Option Addr} {c0 : Nat} {L : List Value} (h : Rm w A c ws) (hv : HdD w g (rcs R A0 c0)) (hl : R.rf.b.length = 64) (e : w' = w.setCells g 0 L) : Rm w' A c ws :=
  ⟨h.ok, h.cap, fun h0 => by
    obtain ⟨b, e1, hr, hlt⟩ := h.at_ h0
    have hne : b ≠ g := by
      rintro rfl
      have h1 := Rm.one_at h.ok hr 0 h0
      have h2 := h1 1 _ (by rw [show (1 : Nat) = 1 + 0 from rfl]; exact wcs_b 0 (by rw [(h.ok _ (List.getElem_mem h0)).1]; omega))
      have h3 : w.cell? ⟨b, 1, none⟩ = some (.slice A0 R.ws.length c0) := hv.cell 1 _ (rcs_1 A0 c0)
      have h4 : w.cell? ⟨b, 1, none⟩ = some (.int .u8 ((ws[0].b[0]'(by rw [(h.ok _ (List.getElem_mem h0)).1]; omega)).toNat : Int)) := by simpa using h2
      rw [h3] at h4
      injection h4 with h4
      cases h4
    rw [e]
    exact ⟨b, e1, rangeAt_of hr (heap_setCells _ _ _ _ _ hne), by rw [size_setCells]; exact hlt⟩⟩
theorem wpList_loadG {P : Program} {ops : Array Oper} {rest : List Oper} {o : Oper} {a : Act} {w : World} {Q : Exit → Act → World → Prop} (hw : Region.wanted o (yielded ops a.tmps) = true) (ty : TypeId) (x : Operand) (ho : o.op = .load ty x) (b q : Nat) (hx : a.eval x = .pointer (some ⟨b, q, none⟩)) (cs : List Value) (d : TypeDesc) (hc : w.rangeAt b q cs)
    (hu : P.underlying ty = some d) (hd : d.isRow = true) (hi : (P.info? ty).map (·.size) = some cs.length) (h : wpList P ops Q rest (a.put o.dst (.agg cs.toArray)) w) : wpList P ops Q (o :: rest) a w := by
  refine wpList_step fun K hK => ?_
  rw [if_pos hw]
  unfold Oper.wp execOp
  simp only [ho, hx, Instr.loadAt, Instr.sureAddr, Sem.run_bind, Sem.run_pure, Result.andThen_ok, run_loadVar_mid w b q ty cs d hc hu hd hi]
  exact hK _ _ h
theorem wrR_rf {R : RD} {k : Int} {x : List UInt8} (h : R.rf.b.length = 64) : (wrR R k x).1.rf.b.length = 64 := by
  unfold wrR
  split
  · exact h
  · split
    · exact h
    · split
      · exact h
      · split
        · exact pad_len (by omega)
        · exact h

end Go.Proofs.YtnbagklgagomfaaDoor
