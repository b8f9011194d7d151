/-
  Disks: the program's Write, Arm and Read, each in one contract for all cases.
-/
import Derived.Test.YtnbagklgagomfaaBk6
namespace Go.Proofs.Ytnbagklgagomfaa
open Go.RowKit Go.Lib
set_option linter.unusedVariables false
set_option linter.unusedSimpArgs false

/-- The disk behind a write, and the error's code. -/
def wrSt (S : St) (k : Int) (x : List UInt8) : St × Nat :=
  if hasB S.n k = false then (S, 8) else if 64 < x.length then (S, 2) else if S.de = true then (S, 19)
  else if S.fu = true ∧ S.lf = 0 then ({ S with de := true, ra := k.toNat, rf := pad x }, 19)
  else ({ S with B := upd S.B k.toNat (pad x), st := S.st + 1, lf := if S.fu then S.lf - 1 else S.lf }, 0)
def ErrAns (w : World) (d bk : Nat) (r : St × Nat) (e : Ending) (w' : World) : Prop := e = .returned (errV r.2) ∧ Dk w' d bk r.1 ∧ Oth d bk w w'
theorem hasB_nat {n : Nat} {k : Int} (h : hasB n k = true) : ∃ j : Nat, k = (j : Int) ∧ j < n := by
  have : 0 ≤ k ∧ k < (n : Int) := by simpa [hasB] using h
  exact ⟨k.toNat, by omega, by omega⟩
theorem write_any (w : World) (d bk : Nat) (S : St) (h : Dk w d bk S) (k : Int) (A : Option Addr) (x : List UInt8) (l c : Nat) (hl : l = x.length) (hB : Bt w A x) (hst : S.st + 1 ≤ 1000000000) :
    Calls Try.prog 12 #[.pointer (some ⟨d, 0, none⟩), .int .i64 k, .slice A l c] w (ErrAns w d bk (wrSt S k x)) := by
  subst hl
  unfold wrSt
  cases hk : hasB S.n k with
  | false =>
    refine (write_no w d bk S h k hk A _ c).mono ?_
    rintro e w' ⟨rfl, rfl⟩
    exact ⟨by simp [errV], by simpa using h, by exact Oth.refl _ _ _⟩
  | true =>
    obtain ⟨j, rfl, hj⟩ := hasB_nat hk
    rw [if_neg (by simp)]
    by_cases h1 : 64 < x.length
    · rw [if_pos h1]
      refine (write_long w d bk S h j hj A _ c h1).mono ?_
      rintro e w' ⟨rfl, rfl⟩
      exact ⟨by simp [errV], h, Oth.refl _ _ _⟩
    · rw [if_neg h1]
      cases hd : S.de with
      | true =>
        rw [if_pos rfl]
        refine (write_dead w d bk S h j hj A _ c (by omega) hd).mono ?_
        rintro e w' ⟨rfl, rfl⟩
        exact ⟨by simp [errV], h, Oth.refl _ _ _⟩
      | false =>
        rw [if_neg (by simp)]
        cases hf : S.fu with
        | false =>
          rw [if_neg (by simp)]
          refine (write_free w d bk S h j hj A x c (by omega) hB hd hf hst).mono ?_
          rintro e w' ⟨rfl, h2, h3⟩
          refine ⟨by simp [errV], ?_, h3⟩
          simpa [hf, hd] using h2
        | true =>
          by_cases hz : S.lf = 0
          · rw [if_pos ⟨rfl, hz⟩]
            refine (write_refuse w d bk S h j hj A x c (by omega) hB hd hf hz).mono ?_
            rintro e w' ⟨rfl, h2, h3⟩
            refine ⟨by simp [errV], ?_, h3⟩
            simpa [hf, hd] using h2
          · rw [if_neg (fun h => hz h.2)]
            obtain ⟨m, hm⟩ : ∃ m, S.lf = m + 1 := ⟨S.lf - 1, by omega⟩
            refine (write_fused w d bk S h j hj A x c (by omega) hB hd hf m hm hst).mono ?_
            rintro e w' ⟨rfl, h2, h3⟩
            refine ⟨by simp [errV], ?_, h3⟩
            simpa [hf, hm, hd] using h2
def arSt (S : St) (k : Int) : St × Nat := if k < 0 then (S, 8) else if S.de = true then (S, 19) else ({ S with fu := true, lf := k.toNat }, 0)
theorem arm_any (w : World) (d bk : Nat) (S : St) (h : Dk w d bk S) (k : Int) (hk : k ≤ 9223372036854775807) :
    Calls Try.prog 10 #[.pointer (some ⟨d, 0, none⟩), .int .i64 k] w (ErrAns w d bk (arSt S k)) := by
  unfold arSt
  by_cases h1 : k < 0
  · rw [if_pos h1]
    refine (arm_neg w d k h1).mono ?_
    rintro e w' ⟨rfl, rfl⟩
    exact ⟨by simp [errV], h, Oth.refl _ _ _⟩
  · rw [if_neg h1]
    obtain ⟨j, rfl⟩ : ∃ j : Nat, k = (j : Int) := ⟨k.toNat, by omega⟩
    cases hd : S.de with
    | true =>
      rw [if_pos rfl]
      refine (arm_dead w d bk S h j (by omega) hd).mono ?_
      rintro e w' ⟨rfl, rfl⟩
      exact ⟨by simp [errV], h, Oth.refl _ _ _⟩
    | false =>
      rw [if_neg (by simp)]
      refine (arm_ok w d bk S h j (by omega) hd).mono ?_
      rintro e w' ⟨rfl, h2, h3⟩
      refine ⟨by simp [errV], ?_, h3⟩
      simpa [hd] using h2
end Go.Proofs.Ytnbagklgagomfaa
