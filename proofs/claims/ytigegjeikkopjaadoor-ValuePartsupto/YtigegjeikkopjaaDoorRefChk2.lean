/-
  The document's check of a list, by what it answers of its parts.
-/
import Derived.Test.YtigegjeikkopjaaDoorRefChk1
namespace Go.Proofs.YtigegjeikkopjaaDoor
open Go.RowKit Go.Lib
set_option linter.unusedVariables false
set_option linter.unusedSimpArgs false

def RefSaid (d : Nat) : Prop := ∀ (v : V) (cs : Array Value) (B : Nat) (w : World), Val w (· < B) 1000000 v cs → B ≤ w.heap.size → Calls Tryd.prog 40 #[.agg cs, .int .i64 (20 - (d : Int))] w (RefAns (chk d v) w)
def RefRelL (w : World) (f : V → Option (List ByteArray × Int)) (l : List V) (box : Array Value) (k : Nat) (i : Value) (wr : World) : Prop :=
  ∃ j : Nat, j + k = l.length ∧ i = .int .i64 j ∧ Whole wr w.heap.size 25 box ∧ EBlk wr (w.heap.size + 1) 0 0 ⟨#[]⟩ ∧ chkL f j (l.drop j) = chkL f 0 l ∧ Below w.heap.size w wr
theorem inPath_pth (s : ByteArray) (c : Int) (p : List ByteArray) (h : c ≠ 0) : inPath s c (pth p) = pth (s :: p) := by rw [inPath, if_neg h, pth]

set_option maxRecDepth 100000 in
set_option maxHeartbeats 4000000 in
theorem refcheck_list (d : Nat) (hd : d + 1 ≤ 20) (ih : RefSaid d) (y : Bool) (n : Int) (t : ByteArray) (l : List V) (m : List (ByteArray × V)) (A A' : Option Addr) (c c' B : Nat) (w : World) (hv : ValL w (· < B) 1000000 l A 0) (hlen : l.length ≤ 1000000) (hcap : l.length ≤ c) (hB : B ≤ w.heap.size) :
    Calls Tryd.prog 40 #[.agg #[.int .i64 4, .bool y, .int .i64 n, .string t, .slice A l.length c, .slice A' m.length c'], .int .i64 (20 - ((d + 1 : Nat) : Int))] w (RefAns (chkL (chk d) 0 l) w) := by
  obtain ⟨dp, hdp⟩ : ∃ dp : Int, dp = 20 - ((d + 1 : Nat) : Int) := ⟨_, rfl⟩
  rw [← hdp]
  have hdp1 : dp + 1 = 20 - (d : Int) := by omega
  have hne : (dp == 20) = false := beq_eq_false_iff_ne.2 (by omega)
  have hd0 : 0 ≤ dp := by omega
  have hd20 : dp < 20 := by omega
  obtain ⟨R, hR⟩ : ∃ R, chkL (chk d) 0 l = R := ⟨_, rfl⟩
  rw [hR]
  have HR := Lib.hid (And.intro hR hdp1)
  have HV := Lib.hid hv
  clear hR hv hdp hdp1
  go_enter Tryd.func40, Tryd.ntmps40
  go_wp2_with fail
  go_loopg [43] l.length (RefRelL w (chk d) l #[.int .i64 4, .bool y, .int .i64 n, .string t, .slice A l.length c, .slice A' m.length c'])
  case atStart =>
    refine ⟨0, by simp, rfl, (Whole.made w _ _).alloc _, ?_, rfl, ((Below.refl _ _).alloc (Nat.le_refl _) _).alloc (by simp) _⟩
    have := EBlk.new (w.alloc (.cells #[.int .i64 4, .bool y, .int .i64 n, .string t, .slice A l.length c, .slice A' m.length c'] 25)) 0 0 ⟨#[]⟩
    simpa using this
  case round =>
    obtain ⟨j, hk, rfl, hbox, hE, hrest, hb⟩ := hrel
    have b4 := hbox.cell 4
    simp at b4
    have hz : w.heap.size + 1 < wr.heap.size := hE.lt
    by_cases hlt : j < l.length
    · obtain ⟨b, off, cs, rfl, hbl, hcell, hval⟩ := HV.out.get j hlt
      have hcell' : ∀ q, q < 6 → wr.cell? ⟨b, off + j * 6 + q, none⟩ = cs[q]? := fun q hq => (hb.cell (by simp; omega)).trans (by simpa using hcell q hq)
      obtain ⟨cj, rfl⟩ := hval.c6
      obtain ⟨x0, x1, x2, x3, x4, x5⟩ := cells6 hcell' rfl
      have hcall := ih l[j] cj.arr B wr (hval.keep (fun p hp => hb.cell (Nat.lt_of_lt_of_le hp hB)) (fun _ h => h)) (Nat.le_trans hB hb.size)
      rw [← HR.out.2] at hcall
      have hgood := chk_good d l[j] hval.ok
      have hj1 : (j : Int) < (l.length : Int) := by omega
      have HC := Lib.hid hcall
      have HX := Lib.hid (And.intro hk (And.intro hbox (And.intro hE (And.intro hrest hb))))
      clear hcall hval hcell hcell' hk hbox hE hrest hb
      obtain ⟨jk, jy, jn, jt, ja, jla, jca, jb, jlb, jcb⟩ := cj
      dsimp only [C6.arr] at x0 x1 x2 x3 x4 x5 HC
      cases hcj : chk d l[j] with
      | none =>
        rw [hcj] at HC
        have HJ := Lib.hid hcj
        clear hcj hgood
        go_wp2_with fail
        refine HC.out.mono ?_
        rintro e W ⟨rfl, hb2⟩
        have HB := Lib.hid hb2
        clear hb2 x0 x1 x2 x3 x4 x5 HC
        simp only [refCode, refPath]
        go_wp2_with fail
        go_roundg (l.length - (j + 1))
        case rel =>
          obtain ⟨hk, hbox, hE, hrest, hb⟩ := HX.out
          have hb3 := HB.out.alloc HB.out.size (.cells #[.int .i64 0, .int .i64 (-1), .string ⟨#[]⟩] 29)
          refine ⟨j + 1, by omega, by go_num, hbox.below hb3 hbox.lt, hE.below hb3 hE.lt, ?_, hb.trans (hb3.mono hb.size)⟩
          rw [← hrest, List.drop_eq_getElem_cons hlt, chkL, HJ.out]
        case measure => have := HX.out.1; omega
      | some pc =>
        obtain ⟨p, ec⟩ := pc
        rw [hcj] at HC
        have hg := hgood p ec hcj
        have hec : (ec != 0) = true := by simpa using hg.1
        have hps : (pth p).size ≤ 1000000000 := by have := hg.2; have : d * 1000050 ≤ 20 * 1000050 := Nat.mul_le_mul_right _ (by omega); omega
        have HJ := Lib.hid (And.intro hcj hg.1)
        clear hcj hgood hg
        obtain ⟨pp, hpp⟩ : ∃ pp, pth p = pp := ⟨_, rfl⟩
        unfold RefAns at HC
        simp only [refCode, refPath] at HC
        rw [hpp] at HC hps
        have HP := Lib.hid hpp
        clear hpp
        go_wp2_with fail
        refine HC.out.mono ?_
        rintro e W ⟨rfl, hb2⟩
        obtain ⟨r0, r1, r2⟩ := (HX.out.2.2.1.below hb2 HX.out.2.2.1.lt).1
        obtain ⟨s0, s1, s2⟩ := (HX.out.2.2.1.below hb2 HX.out.2.2.1.lt).2
        have hzW : w.heap.size + 1 < W.heap.size := lt_of_cell r0
        have HB := Lib.hid hb2
        clear hb2 x0 x1 x2 x3 x4 x5 HC
        go_wp2_with fail
        obtain ⟨W2, hW2⟩ : ∃ W2, W.alloc (.cells #[.int .i64 ec, .int .i64 (-1), .string pp] 29) = W2 := ⟨_, rfl⟩
        rw [hW2]
        have hbW2 : Below W.heap.size W W2 := hW2 ▸ (Below.refl _ _).alloc (Nat.le_refl _) _
        have hE2 : EBlk W2 W.heap.size ec (-1) pp := hW2 ▸ EBlk.new W ec (-1) pp
        obtain ⟨e0, e1, e2⟩ := hE2.1
        have q0 := (hbW2.cell (p := ⟨w.heap.size + 1, 0, none⟩) hzW).trans r0
        have q1 := (hbW2.cell (p := ⟨w.heap.size + 1, 1, none⟩) hzW).trans r1
        have q2 := (hbW2.cell (p := ⟨w.heap.size + 1, 2, none⟩) hzW).trans r2
        have u0 := (hbW2.frozen (p := ⟨w.heap.size + 1, 0, none⟩) hzW).trans s0
        have u1 := (hbW2.frozen (p := ⟨w.heap.size + 1, 1, none⟩) hzW).trans s1
        have u2 := (hbW2.frozen (p := ⟨w.heap.size + 1, 2, none⟩) hzW).trans s2
        have hz2 : W.heap.size < W2.heap.size := hE2.lt
        have hzr2 : w.heap.size + 1 < W2.heap.size := by omega
        have HW2 := Lib.hid hbW2
        clear hbW2 hE2 hW2 r0 r1 r2 s0 s1 s2
        go_region_held3 (fun w' => w'.cell? ⟨W.heap.size, 0, none⟩ = some (.int .i64 ec) ∧ w'.cell? ⟨W.heap.size, 1, none⟩ = some (.int .i64 (-1)) ∧ w'.cell? ⟨W.heap.size, 2, none⟩ = some (.string pp)) (go_keep)
          (first
            | (go_at_call 35; refine (digits_any j _ (by omega)).mono ?_; rintro e W5 ⟨rfl, rfl⟩)
            | (go_at_call 34; refine (in_any (itoaB j) pp ec (-1) _ (Nat.le_trans (itoaB_small j (by omega)) (by omega)) hps).mono ?_; rintro e W6 ⟨rfl, hb6⟩
               have e0' := (hb6.cell (p := ⟨W.heap.size, 0, none⟩) hz2).trans e0
               have e1' := (hb6.cell (p := ⟨W.heap.size, 1, none⟩) hz2).trans e1
               have e2' := (hb6.cell (p := ⟨W.heap.size, 2, none⟩) hz2).trans e2
               have q0' := (hb6.cell (p := ⟨w.heap.size + 1, 0, none⟩) hzr2).trans q0
               have q1' := (hb6.cell (p := ⟨w.heap.size + 1, 1, none⟩) hzr2).trans q1
               have q2' := (hb6.cell (p := ⟨w.heap.size + 1, 2, none⟩) hzr2).trans q2
               have u0' := (hb6.frozen (p := ⟨w.heap.size + 1, 0, none⟩) hzr2).trans u0
               have u1' := (hb6.frozen (p := ⟨w.heap.size + 1, 1, none⟩) hzr2).trans u1
               have u2' := (hb6.frozen (p := ⟨w.heap.size + 1, 2, none⟩) hzr2).trans u2
               have hz6 : w.heap.size + 1 < W6.heap.size := lt_of_cell q0'
               have hne6 : ¬ w.heap.size + 1 = W.heap.size := by omega
               have H6 := Lib.hid (((Below.refl W2.heap.size W2).drew).trans hb6)
               clear hb6))
        go_wp2_with fail
        refine bodyPost_ret (v := .agg #[.int .i64 ec, .int .i64 (-1), .string (inPath (itoaB j) ec pp)]) (by simp [results, Tryd.results40, go_sem, q0', q1', q2', u0', u1', u2']) rfl ?_
        obtain ⟨hk, hbox, hE, hrest, hb⟩ := HX.out
        have hRR : R = some (itoaB j :: p, ec) := by rw [← HR.out.1, ← hrest, List.drop_eq_getElem_cons hlt, chkL, HJ.out.1]
        refine ⟨?_, ?_⟩
        · rw [hRR, ← HP.out, inPath_pth _ _ _ HJ.out.2]; rfl
        · exact (((hb.trans ((HB.out.trans ((HW2.out.trans (H6.out.mono HW2.out.size)).mono HB.out.size)).mono hb.size)).setCell (by simp) _).setCell (by simp) _).setCell (by simp) _
    · obtain ⟨r0, r1, r2⟩ := hE.1
      have HX := Lib.hid (And.intro hk (And.intro hE (And.intro hrest hb)))
      clear hk hbox hE hrest hb
      go_wp2_with fail
      refine (none_any _).mono ?_
      rintro e W ⟨rfl, hb2⟩
      obtain ⟨⟨x0, x1, x2⟩, y0, y1, y2⟩ := HX.out.2.1.below hb2 HX.out.2.1.lt
      have hzW : w.heap.size + 1 < W.heap.size := lt_of_cell x0
      have HB := Lib.hid hb2
      clear hb2 r0 r1 r2
      go_wp2_with fail
      refine bodyPost_ret (v := .agg #[.int .i64 0, .int .i64 (-1), .string ⟨#[]⟩]) (by simp [results, Tryd.results40, go_sem, x0, x1, x2, y0, y1, y2]) rfl ?_
      obtain ⟨hk, hE, hrest, hb⟩ := HX.out
      have hRR : R = none := by rw [← HR.out.1, ← hrest, List.drop_of_length_le (by omega), chkL]
      refine ⟨by rw [hRR]; rfl, ?_⟩
      exact (((hb.trans (HB.out.mono hb.size)).setCell (by simp) _).setCell (by simp) _).setCell (by simp) _
end Go.Proofs.YtigegjeikkopjaaDoor
