/-
  The document's Check of every value.
-/
import Derived.Test.YtigegjeikkopjaaDoorRefChk3
namespace Go.Proofs.YtigegjeikkopjaaDoor
open Go.RowKit Go.Lib
set_option linter.unusedVariables false
set_option linter.unusedSimpArgs false

/-- The document's Check of every value. -/
theorem RefCheck_any (v : V) (cs : Array Value) (B : Nat) (w : World) (hv : Val w (· < B) 1000000 v cs) (hB : B ≤ w.heap.size) :
    Calls Tryd.prog 15 #[.agg cs] w (RefAns (chk 20 v) w) := by
  obtain ⟨c, rfl⟩ := hv.c6
  have HC := Lib.hid (fun W (hW : Below w.heap.size w W) => refcheck_any 20 (Nat.le_refl _) v c.arr B W (hv.keep (fun p hp => hW.cell (Nat.lt_of_lt_of_le hp hB)) (fun _ h => h)) (Nat.le_trans hB hW.size))
  clear hv
  obtain ⟨jk, jy, jn, jt, ja, jla, jca, jb, jlb, jcb⟩ := c
  obtain ⟨R, hR⟩ : ∃ R, chk 20 v = R := ⟨_, rfl⟩
  rw [hR] at HC ⊢
  have h00 : (20 : Int) - ((20 : Nat) : Int) = 0 := by decide
  rw [h00] at HC
  dsimp only [C6.arr] at HC ⊢
  clear h00 hR
  go_enter Tryd.func15, Tryd.ntmps15
  go_wp2_with fail
  refine (HC.out _ ?_).mono ?_
  · repeat (first | exact Below.refl _ _ | refine Below.alloc ?_ (by simp <;> omega) _)
  rintro e W ⟨rfl, hb⟩
  have hE0 : EBlk ((w.alloc (.cells #[.int .i64 jk, .bool jy, .int .i64 jn, .string jt, .slice ja jla jca, .slice jb jlb jcb] 25)).alloc (.cells #[.int .i64 0, .int .i64 0, .string ⟨#[]⟩] 29)) (w.heap.size + 1) 0 0 ⟨#[]⟩ := by
    have := EBlk.new (w.alloc (.cells #[.int .i64 jk, .bool jy, .int .i64 jn, .string jt, .slice ja jla jca, .slice jb jlb jcb] 25)) 0 0 ⟨#[]⟩
    simpa using this
  obtain ⟨⟨x0, x1, x2⟩, y0, y1, y2⟩ := hE0.below hb (by simp)
  have hz : w.heap.size + 1 < W.heap.size := lt_of_cell x0
  have HB := Lib.hid ((((Below.refl w.heap.size w).alloc (Nat.le_refl _) _).alloc (by simp) _).trans (hb.mono (by simp; omega)))
  clear hb hE0
  go_wp2_with fail
  exact bodyPost_ret (v := .agg #[.int .i64 (refCode R), .int .i64 (-1), .string (refPath R)]) (by simp [results, Tryd.results15, go_sem, x0, x1, x2, y0, y1, y2]) rfl ⟨rfl, ((HB.out.setCell (by simp) _).setCell (by simp) _).setCell (by simp) _⟩

/-! ### what Tell makes of a check's answer -/
theorem ba_assoc (a b c : ByteArray) : a ++ (b ++ c) = (a ++ b) ++ c := by apply ByteArray.ext; simp
theorem tell_pth : ∀ (p : List ByteArray) (q : ByteArray), tellGo (-1) q (p.map fun s => ((-1 : Int), s)) = (-1, q ++ pth p)
  | [], q => by
    simp only [List.map_nil, tellGo, pth]
    congr 1
    apply ByteArray.ext
    simp
  | s :: r, q => by
    simp only [List.map_cons, tellGo]
    rw [if_neg (by omega), if_pos (by omega), tell_pth r, pth, ba_assoc, ba_assoc, ba_assoc]
theorem chainLen_pth : ∀ (p : List ByteArray), chainLen (p.map fun s => ((-1 : Int), s)) = (pth p).size
  | [] => rfl
  | s :: r => by
    have h47 : (ByteArray.mk #[47]).size = 1 := rfl
    simp only [List.map_cons, chainLen]
    rw [chainLen_pth r, pth, ByteArray.size_append, ByteArray.size_append, h47]

def TellAns (r : Option (List ByteArray × Int)) (w : World) (e : Ending) (w' : World) : Prop := e = .returned (.agg #[.int .i64 (refCode r), .int .i64 (-1), .string (refPath r)]) ∧ Below w.heap.size w w'
/-- Check, and behind it, in whatever world, Tell: what chk says. -/
def CheckTell (r : Option (List ByteArray × Int)) (w : World) (e : Ending) (w' : World) : Prop :=
  ∃ x, e = .returned x ∧ Below w.heap.size w w' ∧ ∀ W, Below w'.heap.size w' W → Calls Tryd.prog 12 #[x] W (TellAns r W)
theorem checkTell_any (v : V) (cs : Array Value) (B : Nat) (w : World) (hv : Val w (· < B) 1000000 v cs) (hB : B ≤ w.heap.size) (hG : Glob w) :
    Calls Tryd.prog 13 #[.agg cs] w (CheckTell (chk 20 v) w) := by
  have hg := chk_good 20 v hv.ok
  refine (Check_any v cs B w hv hB hG).mono ?_
  rintro e w' ⟨hb, ⟨hr, rfl⟩ | ⟨p, c, x, hr, rfl, hch⟩⟩
  · exact ⟨_, rfl, hb, fun W hW => by rw [hr]; exact tell_nil W⟩
  · refine ⟨x, rfl, hb, fun W hW => ?_⟩
    have h2 := (hg p c hr).2
    have := tell_chain _ c x W (hch.below hW) ((hG.below hb).below hW).1 (by rw [chainLen_pth]; omega)
    rw [tell_pth] at this
    rw [hr]
    refine this.mono fun e w'' ⟨he, hb'⟩ => ⟨?_, hb'⟩
    rw [he]
    simp only [refCode, refPath]
    congr 4
end Go.Proofs.YtigegjeikkopjaaDoor
