/-
  The program's disk and the document's, alike, whatever is done with both (plain).
-/
import Derived.Test.YtnbagklgagomfaaDoorBkS
namespace Go.Proofs.YtnbagklgagomfaaDoor
open Go.RowKit Go.Lib
set_option linter.unusedVariables false
set_option linter.unusedSimpArgs false

theorem read_snoc (ws : List RW) (y : RW) (n : Int) : readR (ws ++ [y]) n = stepW n (readR ws n) y := by simp [readR, List.foldl_append]
theorem sim_new (n : Nat) : Sim (newSt n) (newR n) := ⟨rfl, rfl, rfl, fun _ _ => rfl, rfl, (fun h => by cases h), fun _ => rfl⟩
theorem sim_arm {S : St} {R : RD} (h : Sim S R) (k : Int) : Sim (arSt S k).1 (arR R k).1 ∧ (arSt S k).2 = (arR R k).2 := by
  unfold arSt arR
  by_cases hk : k < 0
  · rw [if_pos hk, if_pos hk]
    exact ⟨h, rfl⟩
  · rw [if_neg hk, if_neg hk]
    by_cases hd : S.de = true
    · rw [if_pos hd, if_pos (h.de.trans hd)]
      exact ⟨h, rfl⟩
    · rw [if_neg hd, if_neg (fun e => hd (h.de.symm.trans e))]
      refine ⟨⟨h.n, h.de, h.st, h.bl, ?_, h.yes, h.no⟩, rfl⟩
      show k = if true = true then ((k.toNat : Nat) : Int) else -1
      rw [if_pos rfl]
      omega
theorem sim_write {S : St} {R : RD} (h : Sim S R) (hB : ∀ i, i < S.n → (S.B i).length = 64) (k : Int) (x : List UInt8) : Sim (wrSt S k x).1 (wrR R k x).1 ∧ (wrSt S k x).2 = (wrR R k x).2 := by
  unfold wrSt wrR
  have hn : hasB R.n k = hasB S.n k := by rw [h.n]
  rw [hn]
  by_cases hk' : hasB S.n k = false
  · rw [if_pos hk', if_pos hk']
    exact ⟨h, rfl⟩
  · have hk : hasB S.n k = true := by simpa using hk'
    obtain ⟨j, rfl, hj⟩ := hasB_nat hk
    rw [if_neg hk', if_neg hk']
    by_cases h64 : 64 < x.length
    · rw [if_pos h64, if_pos h64]
      exact ⟨h, rfl⟩
    · rw [if_neg h64, if_neg h64]
      by_cases hd' : S.de = true
      · rw [if_pos hd', if_pos (h.de.trans hd')]
        exact ⟨h, rfl⟩
      · have hd : S.de = false := by simpa using hd'
        rw [if_neg hd', if_neg (fun e => hd' (h.de.symm.trans e))]
        have hf := h.fu
        by_cases hz : S.fu = true ∧ S.lf = 0
        · have hR : R.fu = 0 := by rw [hf, if_pos hz.1, hz.2]; rfl
          rw [if_pos hz, if_pos hR]
          refine ⟨⟨h.n, rfl, h.st, h.bl, h.fu, fun _ => ?_, fun h => by cases h⟩, rfl⟩
          show ({ bk := (j : Int), b := pad x, ld := 64 } : RW) = { bk := (((j : Int).toNat : Nat) : Int), b := pad x, ld := 64 }
          rw [Int.toNat_natCast]
        · have hR : ¬ R.fu = 0 := by
            rw [hf]
            intro h0
            split at h0
            · rename_i h1
              exact hz ⟨h1, by omega⟩
            · omega
          rw [if_neg hz, if_neg hR]
          refine ⟨⟨h.n, h.de, congrArg (· + 1) h.st, fun i hi => ?_, ?_, fun h0 => ?_, fun _ => h.no hd⟩, rfl⟩
          · rw [read_snoc]
            show upd S.B (j : Int).toNat (pad x) i = if (j : Int) = (i : Int) then layW (readR R.ws i) { bk := (j : Int), b := pad x, ld := 64 } else readR R.ws i
            rw [Int.toNat_natCast]
            unfold upd
            by_cases e : i = j
            · subst e
              rw [if_pos rfl, if_pos rfl]
              have hp := pad_len (x := x) (by omega)
              unfold layW
              show pad x = (pad x).take 64 ++ (readR R.ws (i : Int)).drop 64
              rw [← h.bl i hi, List.take_of_length_le (by omega), List.drop_eq_nil_of_le (by rw [hB i hi]; omega), List.append_nil]
            · rw [if_neg e, if_neg (by omega)]
              exact h.bl i hi
          · show (if 0 < R.fu then R.fu - 1 else R.fu) = if S.fu = true then (((if S.fu = true then S.lf - 1 else S.lf : Nat)) : Int) else -1
            rw [hf]
            by_cases h1 : S.fu = true
            · have : S.lf ≠ 0 := fun h0 => hz ⟨h1, h0⟩
              simp only [h1, if_true]
              rw [if_pos (by omega)]
              omega
            · simp [h1]
          · have h0' : S.de = true := h0
            rw [hd] at h0'
            cases h0'
theorem sim_crash {S : St} {R : RD} (h : Sim S R) (hB : ∀ i, i < S.n → (S.B i).length = 64) (hr : S.rf.length = 64) (torn : Int) : Sim (crashSt S torn) (crashR R torn) := by
  unfold crashSt crashR
  by_cases hd : S.de = true
  · have hrf := h.yes hd
    rw [if_pos hd]
    by_cases ht : 0 < torn
    · rw [if_pos (show 0 ≤ R.rf.bk ∧ 0 < torn from ⟨by rw [hrf]; exact Int.natCast_nonneg _, ht⟩)]
      refine ⟨h.n, rfl, rfl, fun i hi => ?_, rfl, (fun h => by cases h), fun _ => rfl⟩
      rw [read_snoc]
      have hL : (min torn 64).toNat = laidN torn := by unfold laidN; omega
      rw [hL, hrf]
      show upd S.B S.ra _ i = if (S.ra : Int) = (i : Int) then layW (readR R.ws i) { bk := (S.ra : Int), b := S.rf, ld := laidN torn } else readR R.ws i
      unfold upd
      by_cases e : i = S.ra
      · subst e
        rw [if_pos rfl, if_pos rfl, ← h.bl _ hi]
        rfl
      · rw [if_neg e, if_neg (by omega)]
        exact h.bl i hi
    · rw [if_neg (show ¬ (0 ≤ R.rf.bk ∧ 0 < torn) from fun h => ht h.2)]
      refine ⟨h.n, rfl, rfl, fun i hi => ?_, rfl, (fun h => by cases h), fun _ => rfl⟩
      have hL : laidN torn = 0 := by unfold laidN; omega
      show upd S.B S.ra _ i = readR R.ws i
      unfold upd
      by_cases e : i = S.ra
      · subst e
        rw [if_pos rfl, hL, List.take_zero, List.drop_zero, List.nil_append]
        exact h.bl _ hi
      · rw [if_neg e]
        exact h.bl i hi
  · have hd' : S.de = false := by simpa using hd
    rw [if_neg hd, if_neg (show ¬ (0 ≤ R.rf.bk ∧ 0 < torn) by rw [h.no hd']; omega)]
    exact ⟨h.n, rfl, rfl, h.bl, rfl, (fun h => by cases h), fun _ => rfl⟩
theorem wr_n (S : St) (k : Int) (x : List UInt8) : (wrSt S k x).1.n = S.n ∧ (wrSt S k x).1.st ≤ S.st + 1 := by
  unfold wrSt
  repeat' split
  all_goals exact ⟨rfl, by simp⟩
theorem wrR_len (R : RD) (k : Int) (x : List UInt8) : (wrR R k x).1.ws.length ≤ R.ws.length + 1 := by
  unfold wrR
  repeat' split
  all_goals simp
theorem sim_fu {S : St} {R : RD} (h : Sim S R) (hb : S.lf ≤ 9223372036854775807) : -1 ≤ R.fu ∧ R.fu ≤ 9223372036854775807 := by
  rw [h.fu]
  split <;> omega
/-- But one block a crash changes nothing, if nothing was refused. -/
theorem crash_one (S : St) (torn : Int) : ∀ i, (S.de = true → i ≠ S.ra) → (crashSt S torn).B i = S.B i := by
  intro i hi
  unfold crashSt
  by_cases hd : S.de = true
  · rw [if_pos hd]
    show upd S.B S.ra _ i = S.B i
    unfold upd
    rw [if_neg (hi hd)]
  · rw [if_neg hd]
end Go.Proofs.YtnbagklgagomfaaDoor
