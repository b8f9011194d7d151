/-
  The document's check of a map, by what it answers of its parts.
-/
import Derived.Test.YtigegjeikkopjaaDoorRefChk2
import Derived.Deep.CutRange
namespace Go.Proofs.YtigegjeikkopjaaDoor
open Go.RowKit Go.Lib
set_option linter.unusedVariables false
set_option linter.unusedSimpArgs false

def RefRelM (w : World) (f : V → Option (List ByteArray × Int)) (l : List (ByteArray × V)) (box : Array Value) (k : Nat) (i : Value) (wr : World) : Prop :=
  ∃ j : Nat, j + k = l.length ∧ i = .int .i64 j ∧ Whole wr w.heap.size 25 box ∧ EBlk wr (w.heap.size + 1) 0 0 ⟨#[]⟩ ∧ chkM f (prevAt l j) (l.drop j) = chkM f none l ∧ Below w.heap.size w wr

theorem Only.drewN {g : Nat} {w w' : World} (h : Only g w w') (n : Nat) : Only g w (w'.drewN n) := ⟨h.1, h.2.1, fun B W hW h1 h2 => below_drewN (h.2.2 B W hW h1 h2) n⟩
theorem EBlk.drewN {w : World} {g : Nat} {a b : Int} {s : ByteArray} (h : EBlk w g a b s) (n : Nat) : EBlk (w.drewN n) g a b s := h
def lessB (s : ByteArray) : Option ByteArray → Bool
  | none => false
  | some q => Op.bytesLess s.toList q.toList
def sameB (s : ByteArray) : Option ByteArray → Bool
  | none => false
  | some q => s.toList == q.toList

theorem sameB_some {s q : ByteArray} : sameB s (some q) = decide (s.toList = q.toList) := by
  unfold sameB
  by_cases h : s.toList = q.toList <;> simp [h]
theorem map_step {f : V → Option (List ByteArray × Int)} {m : List (ByteArray × V)} {j : Nat} {s : ByteArray} {ro : Option (List ByteArray × Int)} {d : Nat} (hlt : j < m.length) (hs : m[j].1 = s) (hro : f m[j].2 = ro) (hg : GoodR d ro) :
    (validB s = false → chkM f (prevAt m j) (m.drop j) = some ([s], 5)) ∧
    (validB s = true → ∀ (ec2 : Int) (ep2 : ByteArray), (if sameB s (prevAt m j) then 6 else if lessB s (prevAt m j) then 1 else refCode ro) = ec2 → (if sameB s (prevAt m j) then ⟨#[]⟩ else if lessB s (prevAt m j) then ⟨#[]⟩ else refPath ro) = ep2 →
      (ec2 = 0 → chkM f (prevAt m (j + 1)) (m.drop (j + 1)) = chkM f (prevAt m j) (m.drop j)) ∧ (ec2 ≠ 0 → ∃ p, chkM f (prevAt m j) (m.drop j) = some (p, ec2) ∧ pth p = inPath s ec2 ep2)) := by
  have hdrop : m.drop j = (s, m[j].2) :: m.drop (j + 1) := by
    rw [List.drop_eq_getElem_cons hlt]
    congr 1
    exact Prod.ext hs rfl
  have hprev : prevAt m (j + 1) = some s := by simp [prevAt, List.getElem?_eq_getElem hlt, hs]
  have hone : ∀ c : Int, c ≠ 0 → pth [s] = inPath s c ⟨#[]⟩ := fun c hc => by rw [inPath, if_neg hc, pth, pth]
  refine ⟨fun h => ?_, fun h ec2 ep2 hec hep => ?_⟩
  · rw [hdrop, chkM, chkKey.eq_def, if_pos h]
  · have hkey : chkKey s (prevAt m j) = if sameB s (prevAt m j) then some 6 else if lessB s (prevAt m j) then some 1 else none := by
      rw [chkKey.eq_def, if_neg (by simp [h])]
      cases hp : prevAt m j with
      | none => rfl
      | some q =>
        simp only [sameB_some, lessB, bytesLt]
        by_cases h1 : s.toList = q.toList
        · simp [h1]
        · rw [if_neg h1, if_neg (by simp [h1])]
          rfl
    rw [hdrop, chkM, hkey, hprev]
    by_cases b2 : sameB s (prevAt m j) = true
    · rw [if_pos b2] at hec hep ⊢
      subst hec hep
      exact ⟨fun h0 => absurd h0 (by omega), fun _ => ⟨[s], rfl, hone 6 (by omega)⟩⟩
    · rw [if_neg b2] at hec hep ⊢
      by_cases b1 : lessB s (prevAt m j) = true
      · rw [if_pos b1] at hec hep ⊢
        subst hec hep
        exact ⟨fun h0 => absurd h0 (by omega), fun _ => ⟨[s], rfl, hone 1 (by omega)⟩⟩
      · rw [if_neg b1] at hec hep ⊢
        dsimp only
        rw [hro]
        cases ro with
        | none =>
          subst hec hep
          exact ⟨fun _ => rfl, fun h0 => absurd rfl h0⟩
        | some pc =>
          obtain ⟨p, c⟩ := pc
          subst hec hep
          have hc := (hg p c rfl).1
          exact ⟨fun h0 => absurd h0 hc, fun _ => ⟨s :: p, rfl, (inPath_pth s c p hc).symm⟩⟩

set_option maxRecDepth 100000 in
set_option maxHeartbeats 8000000 in
theorem refcheck_map (d : Nat) (hd : d + 1 ≤ 20) (ih : RefSaid d) (y : Bool) (n : Int) (t : ByteArray) (l : List V) (m : List (ByteArray × V)) (A A' : Option Addr) (c c' B : Nat) (w : World) (hv : ValM w (· < B) 1000000 m A' 0) (hlen : m.length ≤ 1000000) (hcap : m.length ≤ c') (hB : B ≤ w.heap.size) :
    Calls Tryd.prog 40 #[.agg #[.int .i64 5, .bool y, .int .i64 n, .string t, .slice A l.length c, .slice A' m.length c'], .int .i64 (20 - ((d + 1 : Nat) : Int))] w (RefAns (chkM (chk d) none m) w) := by
  obtain ⟨dp, hdp⟩ : ∃ dp : Int, dp = 20 - ((d + 1 : Nat) : Int) := ⟨_, rfl⟩
  rw [← hdp]
  have hdp1 : dp + 1 = 20 - (d : Int) := by omega
  have hne : (dp == 20) = false := beq_eq_false_iff_ne.2 (by omega)
  have hd0 : 0 ≤ dp := by omega
  have hd20 : dp < 20 := by omega
  obtain ⟨R, hR⟩ : ∃ R, chkM (chk d) none m = R := ⟨_, rfl⟩
  rw [hR]
  have HR := Lib.hid (And.intro hR hdp1)
  have HV := Lib.hid hv
  clear hR hv hdp hdp1
  go_enter Tryd.func40, Tryd.ntmps40
  go_wp2_with fail
  go_loopg [71] m.length (RefRelM w (chk d) m #[.int .i64 5, .bool y, .int .i64 n, .string t, .slice A l.length c, .slice A' m.length c'])
  case atStart =>
    refine ⟨0, by simp, rfl, (Whole.made w _ _).alloc _, ?_, rfl, ((Below.refl _ _).alloc (Nat.le_refl _) _).alloc (by simp) _⟩
    have := EBlk.new (w.alloc (.cells #[.int .i64 5, .bool y, .int .i64 n, .string t, .slice A l.length c, .slice A' m.length c'] 25)) 0 0 ⟨#[]⟩
    simpa using this
  case round =>
    obtain ⟨j, hk, rfl, hbox, hE, hrest, hb⟩ := hrel
    have b5 := hbox.cell 5
    simp at b5
    have hz : w.heap.size + 1 < wr.heap.size := hE.lt
    by_cases hlt : j < m.length
    · obtain ⟨b, off, cs, rfl, hbl, hsM, hkc, hcell, hval⟩ := HV.out.get j hlt
      obtain ⟨cj, rfl⟩ := hval.c6
      obtain ⟨s, hs⟩ : ∃ s, m[j].1 = s := ⟨_, rfl⟩
      rw [hs] at hkc hsM
      have hck : wr.cell? ⟨b, off + j * 7, none⟩ = some (.string s) := (hb.cell (p := ⟨b, off + j * 7, none⟩) (by simp; omega)).trans (by simpa using hkc)
      have hcj : ∀ q, q < 6 → wr.cell? ⟨b, off + j * 7 + (1 + q), none⟩ = cj.arr[q]? := fun q hq => (hb.cell (p := ⟨b, off + j * 7 + (1 + q), none⟩) (by simp; omega)).trans (by simpa using hcell q hq)
      obtain ⟨xk, x0, x1, x2, x3, x4, x5⟩ := cells7 hck hcj rfl
      have hcall := ih m[j].2 cj.arr B wr (hval.keep (fun p hp => hb.cell (Nat.lt_of_lt_of_le hp hB)) (fun _ h => h)) (Nat.le_trans hB hb.size)
      rw [← HR.out.2] at hcall
      have hgood := chk_good d m[j].2 hval.ok
      have hj1 : (j : Int) < (m.length : Int) := by omega
      have hbr : b < wr.heap.size := by have := hb.size; omega
      obtain ⟨ro, hro⟩ : ∃ ro, chk d m[j].2 = ro := ⟨_, rfl⟩
      rw [hro] at hcall hgood
      unfold RefAns at hcall
      obtain ⟨ec, hec⟩ : ∃ ec, refCode ro = ec := ⟨_, rfl⟩
      obtain ⟨ep, hep⟩ : ∃ ep, refPath ro = ep := ⟨_, rfl⟩
      rw [hec, hep] at hcall
      have hps : ep.size ≤ 1000000000 := by
        rw [← hep]
        cases ro with
        | none => simp [refPath, ByteArray.size]
        | some pc =>
          obtain ⟨p, c2⟩ := pc
          have := (hgood p c2 rfl).2
          have : d * 1000050 ≤ 20 * 1000050 := Nat.mul_le_mul_right _ (by omega)
          simp only [refPath]; omega
      have HC := Lib.hid hcall
      have HX := Lib.hid (And.intro hk (And.intro hbox (And.intro hE (And.intro hrest hb))))
      have HY := Lib.hid (And.intro hs (And.intro hro (And.intro hec (And.intro hep hgood))))
      clear hcall hval hcell hcj hk hbox hE hrest hb hs hro hec hep hgood hkc hck
      obtain ⟨jk, jy, jn, jt, ja, jla, jca, jb, jlb, jcb⟩ := cj
      dsimp only [C6.arr] at x0 x1 x2 x3 x4 x5 HC
      have hprev : ∀ i, j = i + 1 → ∃ q, prevAt m j = some q ∧ wr.cell? ⟨b, off + i * 7, none⟩ = some (.string q) := fun i e => by
        subst e
        obtain ⟨b', off', cs', e', -, -, hkc', -, -⟩ := HV.out.get i (by omega)
        obtain ⟨rfl, rfl⟩ : b = b' ∧ off = off' := by simpa using e'
        refine ⟨m[i].1, by simp [prevAt, List.getElem?_eq_getElem (show i < m.length by omega)], ?_⟩
        exact (HX.out.2.2.2.2.cell (p := ⟨b, off + i * 7, none⟩) (by simp; omega)).trans (by simpa using hkc')
      have HP := Lib.hid hprev
      clear hprev
      go_wp2_with fail
      refine HC.out.mono ?_
      rintro e W ⟨rfl, hb2⟩
      have HB := Lib.hid hb2
      have zk0 := (hb2.cell (p := ⟨b, off + j * 7, none⟩) hbr).trans xk
      have z50 := (hb2.cell (p := ⟨w.heap.size, 5, none⟩) (show w.heap.size < wr.heap.size by omega)).trans b5
      have hzW := hb2.size
      clear hb2 x0 x1 x2 x3 x4 x5 HC xk b5
      go_upto_region 31 with (fail)
      obtain ⟨W2, hW2⟩ : ∃ W2, W.alloc (.cells #[.int .i64 ec, .int .i64 (-1), .string ep] 29) = W2 := ⟨_, rfl⟩
      rw [hW2]
      have hbW2 : Below W.heap.size W W2 := hW2 ▸ (Below.refl _ _).alloc (Nat.le_refl _) _
      have hE2 : EBlk W2 W.heap.size ec (-1) ep := hW2 ▸ EBlk.new W ec (-1) ep
      have zk := (hbW2.cell (p := ⟨b, off + j * 7, none⟩) (show b < W.heap.size by omega)).trans zk0
      have z5 := (hbW2.cell (p := ⟨w.heap.size, 5, none⟩) (show w.heap.size < W.heap.size by omega)).trans z50
      have HK := Lib.hid (And.intro zk (And.intro z5 (And.intro hE2 hbW2)))
      have hz2 : W.heap.size < W2.heap.size := hE2.lt
      have hbW : b < W.heap.size := by omega
      clear hW2 hE2 hbW2 zk0 z50
      go_cut [71, 100] from 71 to 141 (fun i s100 wx => i = .int .i64 j ∧ s100 = .bool (lessB s (prevAt m j)) ∧ Only W.heap.size W2 wx ∧ EBlk wx W.heap.size ec (-1) ep)
      case first =>
        cases j with
        | zero =>
          have hg0 : decide ((0 : Int) < ((0 : Nat) : Int)) = false := rfl
          go_quiet (fail)
          go_wp2_with fail
          go_meet
          exact ⟨rfl, rfl, (Only.refl _ _).drewN _, HK.out.2.2.1.drewN _⟩
        | succ i =>
          obtain ⟨q, hq, hqc⟩ := HP.out i rfl
          have hqc2 : W2.cell? ⟨b, off + i * 7, none⟩ = some (.string q) := (HK.out.2.2.2.cell (p := ⟨b, off + i * 7, none⟩) hbW).trans ((HB.out.cell (p := ⟨b, off + i * 7, none⟩) hbr).trans hqc)
          have hi0 : (0 : Int) < ((i + 1 : Nat) : Int) := by omega
          have hil : (i : Int) < (m.length : Int) := by omega
          have HQ := Lib.hid hq
          clear hq hqc
          go_quiet (fail)
          go_wp2_with fail
          go_meet
          exact ⟨by go_num, by rw [HQ.out]; rfl, (Only.refl _ _).drewN _, HK.out.2.2.1.drewN _⟩
      case rest =>
        obtain ⟨rfl, rfl, ho, hE⟩ := hcut
        obtain ⟨B1, hB1⟩ : ∃ B1, lessB s (prevAt m j) = B1 := ⟨_, rfl⟩
        rw [hB1]
        have HB1 := Lib.hid hB1
        have HO := Lib.hid (And.intro ho hE)
        obtain ⟨⟨e0, e1, e2⟩, f0, f1, f2⟩ := hE
        have hzo : W2.heap.size ≤ wc.heap.size := ho.1
        clear hB1 ho
        go_upto_if 100 with (fail)
        go_cut [71] from 71 to 141 (fun i wx => i = .int .i64 j ∧ Only W.heap.size W2 wx ∧ EBlk wx W.heap.size (if B1 then 1 else ec) (-1) (if B1 then ⟨#[]⟩ else ep))
        case first =>
          cases B1 with
          | false =>
            go_wp2_with fail
            go_meet
            exact ⟨rfl, HO.out.1, HO.out.2⟩
          | true =>
            go_wp2_with fail
            refine (err_any 1 _).mono ?_
            rintro e W5 ⟨rfl, hb5⟩
            have hE5 := HO.out.2.below hb5 (show W.heap.size < wc.heap.size by omega)
            have HE := Lib.hid (And.intro hE5 hb5)
            obtain ⟨⟨c0, c1, c2⟩, g0, g1, g2⟩ := hE5
            have hz5 : W.heap.size < W5.heap.size := lt_of_cell c0
            clear hb5 e0 e1 e2 f0 f1 f2
            go_wp2_with fail
            go_meet
            refine ⟨rfl, (((HO.out.1.step HE.out.2).put 0 _).put 1 _).put 2 _, ?_⟩
            exact ((HE.out.1.set0 _).set1 _).set2 _
        case rest =>
          obtain ⟨rfl, ho, hE⟩ := hcut
          clear HO e0 e1 e2 f0 f1 f2 hzo
          obtain ⟨ec1, hec1⟩ : ∃ x, (if B1 then (1 : Int) else ec) = x := ⟨_, rfl⟩
          obtain ⟨ep1, hep1⟩ : ∃ x, (if B1 then (⟨#[]⟩ : ByteArray) else ep) = x := ⟨_, rfl⟩
          rw [hec1, hep1] at hE
          have hps1 : ep1.size ≤ 1000000000 := by
            rw [← hep1]
            split
            · simp [ByteArray.size]
            · exact hps
          have Hec1 := Lib.hid (And.intro hec1 hep1)
          clear hec1 hep1
          have HO := Lib.hid (And.intro ho hE)
          have zk' := (ho.cell (p := ⟨b, off + j * 7, none⟩) (show b < W2.heap.size by omega) (show b ≠ W.heap.size by omega)).trans zk
          have z5' := (ho.cell (p := ⟨w.heap.size, 5, none⟩) (show w.heap.size < W2.heap.size by omega) (show w.heap.size ≠ W.heap.size by omega)).trans z5
          clear ho hE
          go_upto_region 33 with (fail)
          go_cut [71, 119] from 71 to 141 (fun i s119 wx => i = .int .i64 j ∧ s119 = .bool (sameB s (prevAt m j)) ∧ Only W.heap.size W2 wx ∧ EBlk wx W.heap.size ec1 (-1) ep1)
          case first =>
            cases j with
            | zero =>
              have hg0 : decide ((0 : Int) < ((0 : Nat) : Int)) = false := rfl
              go_quiet (fail)
              go_wp2_with fail
              go_meet
              exact ⟨rfl, rfl, HO.out.1.drewN _, HO.out.2.drewN _⟩
            | succ i =>
              obtain ⟨q, hq, hqc⟩ := HP.out i rfl
              have hqc2 : wc.cell? ⟨b, off + i * 7, none⟩ = some (.string q) := (HO.out.1.cell (p := ⟨b, off + i * 7, none⟩) (show b < W2.heap.size by omega) (show b ≠ W.heap.size by omega)).trans ((HK.out.2.2.2.cell (p := ⟨b, off + i * 7, none⟩) hbW).trans ((HB.out.cell (p := ⟨b, off + i * 7, none⟩) hbr).trans hqc))
              have hi0 : (0 : Int) < ((i + 1 : Nat) : Int) := by omega
              have hil : (i : Int) < (m.length : Int) := by omega
              have HQ := Lib.hid hq
              clear hq hqc
              go_quiet (fail)
              go_wp2_with fail
              go_meet
              exact ⟨by go_num, by rw [HQ.out]; rfl, HO.out.1.drewN _, HO.out.2.drewN _⟩
          case rest =>
            clear HO zk' z5'
            obtain ⟨rfl, rfl, ho, hE⟩ := hcut
            obtain ⟨B2, hB2⟩ : ∃ B2, sameB s (prevAt m j) = B2 := ⟨_, rfl⟩
            rw [hB2]
            have HB2 := Lib.hid hB2
            have HO := Lib.hid (And.intro ho hE)
            obtain ⟨⟨e0, e1, e2⟩, f0, f1, f2⟩ := hE
            have hzo : W2.heap.size ≤ wc.heap.size := ho.1
            clear hB2 ho
            go_upto_if 119 with (fail)
            go_cut [71] from 71 to 141 (fun i wx => i = .int .i64 j ∧ Only W.heap.size W2 wx ∧ EBlk wx W.heap.size (if B2 then 6 else ec1) (-1) (if B2 then ⟨#[]⟩ else ep1))
            case first =>
              cases B2 with
              | false =>
                go_wp2_with fail
                go_meet
                exact ⟨rfl, HO.out.1, HO.out.2⟩
              | true =>
                go_wp2_with fail
                refine (err_any 6 _).mono ?_
                rintro e W5 ⟨rfl, hb5⟩
                have hE5 := HO.out.2.below hb5 (show W.heap.size < wc.heap.size by omega)
                have HE := Lib.hid (And.intro hE5 hb5)
                obtain ⟨⟨c0, c1, c2⟩, g0, g1, g2⟩ := hE5
                have hz5 : W.heap.size < W5.heap.size := lt_of_cell c0
                clear hb5 e0 e1 e2 f0 f1 f2
                go_wp2_with fail
                go_meet
                refine ⟨rfl, (((HO.out.1.step HE.out.2).put 0 _).put 1 _).put 2 _, ?_⟩
                exact ((HE.out.1.set0 _).set1 _).set2 _
            case rest =>
              obtain ⟨rfl, ho, hE⟩ := hcut
              clear HO e0 e1 e2 f0 f1 f2 hzo
              obtain ⟨ec2, hec2⟩ : ∃ x, (if B2 then (6 : Int) else ec1) = x := ⟨_, rfl⟩
              obtain ⟨ep2, hep2⟩ : ∃ x, (if B2 then (⟨#[]⟩ : ByteArray) else ep1) = x := ⟨_, rfl⟩
              rw [hec2, hep2] at hE
              have hps2 : ep2.size ≤ 1000000000 := by
                rw [← hep2]
                split
                · simp [ByteArray.size]
                · exact hps1
              have Hec2 := Lib.hid (And.intro hec2 hep2)
              clear hec2 hep2
              have hE1 : EBlk wc (w.heap.size + 1) 0 0 ⟨#[]⟩ := by
                have h1 := (HX.out.2.2.1.below HB.out HX.out.2.2.1.lt).below HK.out.2.2.2 (show w.heap.size + 1 < W.heap.size by omega)
                exact h1.keep (fun o => ho.cell (p := ⟨w.heap.size + 1, o, none⟩) (show w.heap.size + 1 < W2.heap.size by omega) (show w.heap.size + 1 ≠ W.heap.size by omega)) (fun o => World.frozen?_of_block (ho.2.1 (w.heap.size + 1) (show w.heap.size + 1 < W2.heap.size by omega) (show w.heap.size + 1 ≠ W.heap.size by omega)))
              have zk' := (ho.cell (p := ⟨b, off + j * 7, none⟩) (show b < W2.heap.size by omega) (show b ≠ W.heap.size by omega)).trans zk
              have z5' := (ho.cell (p := ⟨w.heap.size, 5, none⟩) (show w.heap.size < W2.heap.size by omega) (show w.heap.size ≠ W.heap.size by omega)).trans z5
              have hbw : Below w.heap.size w W2 := HX.out.2.2.2.2.trans ((HB.out.trans (HK.out.2.2.2.mono HB.out.size)).mono HX.out.2.2.2.2.size)
              have hbc : Below w.heap.size w wc := ho.2.2 _ _ hbw (by omega) (by omega)
              obtain ⟨⟨e0, e1, e2⟩, f0, f1, f2⟩ := hE
              obtain ⟨⟨r0, r1, r2⟩, s0, s1, s2⟩ := hE1
              have hzo : W2.heap.size ≤ wc.heap.size := ho.1
              have yb : b < wc.heap.size := by omega
              have yw : w.heap.size < wc.heap.size := by omega
              have yg : W.heap.size < wc.heap.size := by omega
              have yr : w.heap.size + 1 < wc.heap.size := by omega
              have HO := Lib.hid (And.intro hbc ho)
              have HU := Lib.hid (utf8_any s wc (by omega))
              clear ho hbw hbc zk z5
              cases hvs : validB s
              · rw [hvs] at HU
                have HVS := Lib.hid hvs
                clear hvs
                go_wp2_with fail
                refine HU.out.mono ?_
                rintro e W5 ⟨rfl, rfl⟩
                go_wp2_with fail
                refine (err_any 5 _).mono ?_
                rintro e W7 ⟨rfl, hb7⟩
                obtain ⟨W8, hW8⟩ : ∃ W8, ((W7.setCell ⟨W.heap.size, 0, none⟩ (.int .i64 5)).setCell ⟨W.heap.size, 1, none⟩ (.int .i64 (-1))).setCell ⟨W.heap.size, 2, none⟩ (.string ⟨#[]⟩) = W8 := ⟨_, rfl⟩
                have ho8 : Only W.heap.size W2 W8 := hW8 ▸ (((HO.out.2.step hb7).put 0 _).put 1 _).put 2 _
                have hE8 : EBlk W8 W.heap.size 5 (-1) ⟨#[]⟩ := hW8 ▸ ((((show EBlk wc W.heap.size ec2 (-1) ep2 from ⟨⟨e0, e1, e2⟩, f0, f1, f2⟩).below hb7 yg).set0 5).set1 (-1)).set2 ⟨#[]⟩
                have d0 := (hb7.cell (p := ⟨W.heap.size, 0, none⟩) yg).trans e0
                have d1 := (hb7.cell (p := ⟨W.heap.size, 1, none⟩) yg).trans e1
                have d2 := (hb7.cell (p := ⟨W.heap.size, 2, none⟩) yg).trans e2
                have g0 := (hb7.frozen (p := ⟨W.heap.size, 0, none⟩) yg).trans f0
                have g1 := (hb7.frozen (p := ⟨W.heap.size, 1, none⟩) yg).trans f1
                have g2 := (hb7.frozen (p := ⟨W.heap.size, 2, none⟩) yg).trans f2
                have hz7 : W.heap.size < W7.heap.size := lt_of_cell d0
                have hbw : Below w.heap.size w W2 := HX.out.2.2.2.2.trans ((HB.out.trans (HK.out.2.2.2.mono HB.out.size)).mono HX.out.2.2.2.2.size)
                have hbc : Below w.heap.size w W8 := ho8.2.2 _ _ hbw (by omega) (by omega)
                have hE1 : EBlk W8 (w.heap.size + 1) 0 0 ⟨#[]⟩ := by
                  have h1 := (HX.out.2.2.1.below HB.out HX.out.2.2.1.lt).below HK.out.2.2.2 (show w.heap.size + 1 < W.heap.size by omega)
                  exact h1.keep (fun o => ho8.cell (p := ⟨w.heap.size + 1, o, none⟩) (show w.heap.size + 1 < W2.heap.size by omega) (show w.heap.size + 1 ≠ W.heap.size by omega)) (fun o => World.frozen?_of_block (ho8.2.1 (w.heap.size + 1) (show w.heap.size + 1 < W2.heap.size by omega) (show w.heap.size + 1 ≠ W.heap.size by omega)))
                have zk8 := (ho8.cell (p := ⟨b, off + j * 7, none⟩) (show b < W2.heap.size by omega) (show b ≠ W.heap.size by omega)).trans HK.out.1
                have z58 := (ho8.cell (p := ⟨w.heap.size, 5, none⟩) (show w.heap.size < W2.heap.size by omega) (show w.heap.size ≠ W.heap.size by omega)).trans HK.out.2.1
                have hz8 : W2.heap.size ≤ W8.heap.size := ho8.1
                have HQ8 := Lib.hid hW8
                have HO8 := Lib.hid (And.intro hbc (And.intro hE8 (And.intro hE1 (And.intro zk8 z58))))
                clear hW8 ho8 hb7 hbw hbc hE8 hE1 zk8 z58 zk' z5' e0 e1 e2 f0 f1 f2 r0 r1 r2 s0 s1 s2 yb yw yg yr HU HO
                go_wp2_with fail
                rw [HQ8.out]
                obtain ⟨hbc, hE8, hE1, zk', z5'⟩ := HO8.out
                obtain ⟨⟨e0, e1, e2⟩, f0, f1, f2⟩ := hE8
                obtain ⟨⟨r0, r1, r2⟩, s0, s1, s2⟩ := hE1
                have yb : b < W8.heap.size := by omega
                have yw : w.heap.size < W8.heap.size := by omega
                have yg : W.heap.size < W8.heap.size := by omega
                have yr : w.heap.size + 1 < W8.heap.size := by omega
                clear d0 d1 d2 g0 g1 g2 hbc
                go_region_held3 (fun w' => w'.cell? ⟨b, off + j * 7, none⟩ = some (.string s) ∧ w'.cell? ⟨w.heap.size, 5, none⟩ = some (.slice (some ⟨b, off, none⟩) m.length c') ∧ w'.cell? ⟨W.heap.size, 0, none⟩ = some (.int .i64 5) ∧ w'.cell? ⟨W.heap.size, 1, none⟩ = some (.int .i64 (-1)) ∧ w'.cell? ⟨W.heap.size, 2, none⟩ = some (.string ⟨#[]⟩)) (go_keep)
                  (first
                    | (go_at_call 34; refine (in_any s ⟨#[]⟩ 5 (-1) _ (by omega) (by simp [ByteArray.size])).mono ?_; rintro e W6 ⟨rfl, hb6⟩
                       have k1 := (hb6.cell (p := ⟨b, off + j * 7, none⟩) yb).trans zk'
                       have k2 := (hb6.cell (p := ⟨w.heap.size, 5, none⟩) yw).trans z5'
                       have k3 := (hb6.cell (p := ⟨W.heap.size, 0, none⟩) yg).trans e0
                       have k4 := (hb6.cell (p := ⟨W.heap.size, 1, none⟩) yg).trans e1
                       have k5 := (hb6.cell (p := ⟨W.heap.size, 2, none⟩) yg).trans e2
                       have q0 := (hb6.cell (p := ⟨w.heap.size + 1, 0, none⟩) yr).trans r0
                       have q1 := (hb6.cell (p := ⟨w.heap.size + 1, 1, none⟩) yr).trans r1
                       have q2 := (hb6.cell (p := ⟨w.heap.size + 1, 2, none⟩) yr).trans r2
                       have u0 := (hb6.frozen (p := ⟨w.heap.size + 1, 0, none⟩) yr).trans s0
                       have u1 := (hb6.frozen (p := ⟨w.heap.size + 1, 1, none⟩) yr).trans s1
                       have u2 := (hb6.frozen (p := ⟨w.heap.size + 1, 2, none⟩) yr).trans s2
                       have hz6 : w.heap.size + 1 < W6.heap.size := lt_of_cell q0
                       have hn1 : ¬ w.heap.size + 1 = W.heap.size := by omega
                       have hn2 : ¬ w.heap.size + 1 = b := by omega
                       have H6 := Lib.hid (((Below.refl W8.heap.size W8).drew).trans hb6)
                       clear hb6))
                go_wp2_with fail
                refine bodyPost_ret (v := .agg #[.int .i64 5, .int .i64 (-1), .string (inPath s 5 ⟨#[]⟩)]) (by simp [results, Tryd.results40, go_sem, q0, q1, q2, u0, u1, u2]) rfl ?_
                obtain ⟨hs, hro, hec, hep, hgood⟩ := HY.out
                have hst := map_step hlt hs hro hgood
                have hRR : R = some ([s], 5) := by rw [← HR.out.1, ← HX.out.2.2.2.1, hst.1 HVS.out]
                refine ⟨by rw [hRR]; simp [refCode, refPath, pth, inPath], ?_⟩
                have hbc := HO8.out.1
                exact (((hbc.trans (H6.out.mono hbc.size)).setCell (by simp) _).setCell (by simp) _).setCell (by simp) _
              · rw [hvs] at HU
                have HVS := Lib.hid hvs
                clear hvs
                by_cases h20 : ec2 = 0
                · subst h20
                  go_wp2_with fail
                  refine HU.out.mono ?_
                  rintro e W5 ⟨rfl, rfl⟩
                  go_wp2_with fail
                  go_roundg (m.length - (j + 1))
                  case rel =>
                    obtain ⟨hs, hro, hec, hep, hgood⟩ := HY.out
                    obtain ⟨hk, hbox, hE, hrest, hb⟩ := HX.out
                    have hst := (map_step hlt hs hro hgood).2 HVS.out 0 ep2 (by rw [HB2.out, HB1.out, hec]; rw [← Hec1.out.1] at Hec2; exact Hec2.out.1) (by rw [HB2.out, HB1.out, hep]; rw [← Hec1.out.2] at Hec2; exact Hec2.out.2)
                    refine ⟨j + 1, by omega, by go_num, ?_, ⟨⟨r0, r1, r2⟩, s0, s1, s2⟩, (hst.1 rfl).trans hrest, HO.out.1⟩
                    have h1 := (hbox.below HB.out hbox.lt).below HK.out.2.2.2 (show w.heap.size < W.heap.size by omega)
                    exact (HO.out.2.2.1 w.heap.size (show w.heap.size < W2.heap.size by omega) (show w.heap.size ≠ W.heap.size by omega)).trans h1
                  case measure => have := HX.out.1; omega
                · have h20b : (ec2 != 0) = true := by simpa using h20
                  have H20 := Lib.hid h20
                  clear h20
                  go_wp2_with fail
                  refine HU.out.mono ?_
                  rintro e W5 ⟨rfl, rfl⟩
                  go_wp2_with fail
                  go_region_held3 (fun w' => w'.cell? ⟨b, off + j * 7, none⟩ = some (.string s) ∧ w'.cell? ⟨w.heap.size, 5, none⟩ = some (.slice (some ⟨b, off, none⟩) m.length c') ∧ w'.cell? ⟨W.heap.size, 0, none⟩ = some (.int .i64 ec2) ∧ w'.cell? ⟨W.heap.size, 1, none⟩ = some (.int .i64 (-1)) ∧ w'.cell? ⟨W.heap.size, 2, none⟩ = some (.string ep2)) (go_keep)
                    (first
                      | (go_at_call 34; refine (in_any s ep2 ec2 (-1) _ (by omega) hps2).mono ?_; rintro e W6 ⟨rfl, hb6⟩
                         have k1 := (hb6.cell (p := ⟨b, off + j * 7, none⟩) yb).trans zk'
                         have k2 := (hb6.cell (p := ⟨w.heap.size, 5, none⟩) yw).trans z5'
                         have k3 := (hb6.cell (p := ⟨W.heap.size, 0, none⟩) yg).trans e0
                         have k4 := (hb6.cell (p := ⟨W.heap.size, 1, none⟩) yg).trans e1
                         have k5 := (hb6.cell (p := ⟨W.heap.size, 2, none⟩) yg).trans e2
                         have q0 := (hb6.cell (p := ⟨w.heap.size + 1, 0, none⟩) yr).trans r0
                         have q1 := (hb6.cell (p := ⟨w.heap.size + 1, 1, none⟩) yr).trans r1
                         have q2 := (hb6.cell (p := ⟨w.heap.size + 1, 2, none⟩) yr).trans r2
                         have u0 := (hb6.frozen (p := ⟨w.heap.size + 1, 0, none⟩) yr).trans s0
                         have u1 := (hb6.frozen (p := ⟨w.heap.size + 1, 1, none⟩) yr).trans s1
                         have u2 := (hb6.frozen (p := ⟨w.heap.size + 1, 2, none⟩) yr).trans s2
                         have hz6 : w.heap.size + 1 < W6.heap.size := lt_of_cell q0
                         have hn1 : ¬ w.heap.size + 1 = W.heap.size := by omega
                         have hn2 : ¬ w.heap.size + 1 = b := by omega
                         have H6 := Lib.hid (((Below.refl wc.heap.size wc).drew).trans hb6)
                         clear hb6))
                  go_wp2_with fail
                  refine bodyPost_ret (v := .agg #[.int .i64 ec2, .int .i64 (-1), .string (inPath s ec2 ep2)]) (by simp [results, Tryd.results40, go_sem, q0, q1, q2, u0, u1, u2]) rfl ?_
                  obtain ⟨hs, hro, hec, hep, hgood⟩ := HY.out
                  have hst := map_step hlt hs hro hgood
                  have hst2 := hst.2 HVS.out ec2 ep2 (by rw [HB2.out, HB1.out, hec]; rw [← Hec1.out.1] at Hec2; exact Hec2.out.1) (by rw [HB2.out, HB1.out, hep]; rw [← Hec1.out.2] at Hec2; exact Hec2.out.2)
                  obtain ⟨p, hp1, hp2⟩ := hst2.2 H20.out
                  have hRR : R = some (p, ec2) := by rw [← HR.out.1, ← HX.out.2.2.2.1, hp1]
                  refine ⟨by rw [hRR]; simp only [refCode, refPath, hp2], ?_⟩
                  exact (((HO.out.1.trans (H6.out.mono HO.out.1.size)).setCell (by simp) _).setCell (by simp) _).setCell (by simp) _
    · obtain ⟨r0, r1, r2⟩ := hE.1
      have HX := Lib.hid (And.intro hk (And.intro hE (And.intro hrest hb)))
      clear hk hbox hE hrest hb
      go_wp2_with fail
      refine (none_any _).mono ?_
      rintro e W ⟨rfl, hb2⟩
      obtain ⟨⟨x0, x1, x2⟩, y0, y1, y2⟩ := HX.out.2.1.below hb2 HX.out.2.1.lt
      have hzW : w.heap.size + 1 < W.heap.size := lt_of_cell x0
      have HB := Lib.hid hb2
      clear hb2 r0 r1 r2
      go_wp2_with fail
      refine bodyPost_ret (v := .agg #[.int .i64 0, .int .i64 (-1), .string ⟨#[]⟩]) (by simp [results, Tryd.results40, go_sem, x0, x1, x2, y0, y1, y2]) rfl ?_
      obtain ⟨hk, hE, hrest, hb⟩ := HX.out
      have hRR : R = none := by rw [← HR.out.1, ← hrest, List.drop_of_length_le (by omega), chkM]
      refine ⟨by rw [hRR]; rfl, ?_⟩
      exact (((hb.trans (HB.out.mono hb.size)).setCell (by simp) _).setCell (by simp) _).setCell (by simp) _

theorem refcheck_any : ∀ d, d ≤ 20 → RefSaid d
  | 0, _ => fun v cs B w hv hB => by
    cases v with
    | mk k y n t l m =>
    rw [Val] at hv
    obtain ⟨A1, c1, A2, c2, rfl, ⟨h1c, h2c, ht, hl, hm, -, -⟩, hvl, hvm⟩ := hv
    rw [chk]
    exact refcheck_plain _ _ k y n t l m _ _ _ w ht (.inr ⟨by simp, rfl, rfl⟩)
  | d + 1, hd => fun v cs B w hv hB => by
    have ih := refcheck_any d (by omega)
    cases v with
    | mk k y n t l m =>
    rw [Val] at hv
    obtain ⟨A1, c1, A2, c2, rfl, ⟨h1c, h2c, ht, hl, hm, -, -⟩, hvl, hvm⟩ := hv
    rw [chk]
    by_cases k4 : k = 4
    · subst k4
      exact refcheck_list d hd ih y n t l m A1 A2 c1 c2 B w hvl hl h1c hB
    · by_cases k5 : k = 5
      · subst k5
        exact refcheck_map d hd ih y n t l m A1 A2 c1 c2 B w hvm hm h2c hB
      · exact refcheck_plain _ _ k y n t l m _ _ _ w ht (.inl ⟨k4, k5⟩)

end Go.Proofs.YtigegjeikkopjaaDoor
