/-
  BlockPlays, walked: whatever is done with a disk, each call answers, and the disk is, as the document says.
-/
import Derived.Test.YtnbagklgagomfaaDoorBkQ0
import Derived.Test.YtnbagklgagomfaaDoorBkV
import Derived.Deep.RegionHeld3
import Derived.Deep.QuietTactic
import Derived.BigQuiet
namespace Go.Proofs.YtnbagklgagomfaaDoor
open Go.RowKit Go.Lib
set_option linter.unusedVariables false
set_option linter.unusedSimpArgs false

theorem ar_same (S : St) (R : RD) (k : Int) : (arSt S k).1.st = S.st ∧ (arR R k).1.ws = R.ws ∧ (arR R k).1.rf = R.rf := by
  unfold arSt arR
  by_cases hk : k < 0
  · rw [if_pos hk, if_pos hk]
    exact ⟨rfl, rfl, rfl⟩
  · rw [if_neg hk, if_neg hk]
    refine ⟨?_, ?_, ?_⟩
    · split <;> rfl
    · split <;> rfl
    · split <;> rfl
theorem crashR_len (R : RD) (k : Int) : (crashR R k).ws.length ≤ R.ws.length + 1 := by
  unfold crashR
  split
  · rw [List.length_append]
    exact Nat.le_refl _
  · exact Nat.le_succ _
def PlRel3 (W : World) (gA : Nat) (kk : Nat) (i : Value) (wr : World) : Prop := ∃ j : Nat, j + kk = 64 ∧ i = .int .i64 (j : Int) ∧ (∀ q, q < 64 → ∃ z : Int, wr.cell? ⟨gA, q, none⟩ = some (.int .u8 z)) ∧ (∀ q, q < 64 → wr.frozen? ⟨gA, q, none⟩ = false) ∧ Oth gA gA W wr
def PlRel (w : World) (gV m : Nat) (kk : Nat) (i dv : Value) (wr : World) : Prop :=
  ∃ (j : Nat) (S : St) (R : RD) (A : Option Addr) (c d bk : Nat), j + kk = m ∧ i = .int .i64 (j : Int) ∧ dv = .pointer (some ⟨d, 0, none⟩) ∧ S.st ≤ j ∧ R.ws.length ≤ j ∧ Sim S R ∧ Dk wr d bk S ∧ HdD wr gV (rcs R A c) ∧ Rm wr A c R.ws ∧ R.rf.b.length = 64 ∧ gV < wr.heap.size ∧ Below w.heap.size w wr ∧ (w.heap.size ≤ d ∧ w.heap.size ≤ bk ∧ gV ≠ d ∧ gV ≠ bk)
set_option maxRecDepth 100000 in
set_option maxHeartbeats 16000000 in
theorem lawPlays_any (n : Int) (L : Option Addr) (m cl : Nat) (w : World) (hn : -9223372036854775808 ≤ n ∧ n ≤ 9223372036854775807) (hL : Acts w L m) (hml : m ≤ cl) (hcl : cl ≤ maxLen) (hG : ErrVar w) :
    Calls Tryd.prog 3 #[.int .i64 n, .slice L m cl] w fun e w' => e = .returned (.bool true) ∧ Below w.heap.size w w' := by
  have HA := Lib.hid hL
  have HF := Lib.hid (fun W (hW : Below w.heap.size w W) => few_acts W L m cl (hL.keep hW) hml hcl)
  have HAw := Lib.hid (fun (W : World) (hW : Below w.heap.size w W) => awake_blk W)
  have HCo := Lib.hid (fun (W : World) (hW : Below w.heap.size w W) (c : Nat) => code_any W (hG.below hW) c)
  unfold maxLen at hcl
  clear hL hG
  go_enter Tryd.func3, Tryd.ntmps3
  go_wp2_with fail
  refine (awake_blk w).mono ?_
  rintro e W0 ⟨rfl, hb0⟩
  have B0 := Lib.hid hb0
  clear hb0
  go_wp2_with fail
  refine (HF.out W0 B0.out).mono ?_
  rintro e W1 ⟨r, rfl, hr, hb1⟩
  have B1 := Lib.hid (B0.out.trans (hb1.mono B0.out.size))
  have HR := Lib.hid hr
  have HB01 := Lib.hid hb1
  clear hb1 hr
  cases r with
  | false =>
    go_wp2_with fail
    refine (HAw.out W1 B1.out).mono ?_
    rintro e W2 ⟨rfl, hb2⟩
    have B2 := Lib.hid (B1.out.trans (hb2.mono B1.out.size))
    clear hb2
    go_wp2_with fail
    go_ret
    exact ⟨rfl, B2.out⟩
  | true =>
    have hm40 : m ≤ 40 := (HR.out rfl).1
    have HFo := Lib.hid (HR.out rfl)
    clear HR
    by_cases hno : n < 1 ∨ 4096 < n
    · go_wp2_with fail
      refine (new_no W1 n hno).mono ?_
      rintro e w' ⟨rfl, rfl⟩
      go_wp2_with fail
      have hrn : Calls Tryd.prog 7 #[.int .i64 n] W1 fun e w' => ∃ v, e = .returned (.tuple #[v, .int .i64 8]) ∧ RV w' v zR ∧ Below W1.heap.size W1 w' := by
        rcases hno with h | h
        · exact refNew_low W1 n h
        · exact refNew_high W1 n h
      refine hrn.mono ?_
      clear hrn
      rintro e W3 ⟨v3, rfl, ⟨A3, c3, rfl, hm3, hl3⟩, hb3⟩
      have B3 := Lib.hid (B1.out.trans (hb3.mono B1.out.size))
      clear hm3 hb3 hl3
      go_wp2_with (first | ((with_reducible refine at_slot 7 ?_); refine wpList_allocH rfl 35 rfl _ zero_D ?_; intro W4 HW4; have DW4 := Lib.hid (show HdD W4 W3.heap.size (rcs zR none 0) by rw [HW4.out]; exact hd_new W3 _ _); have BW4 := Lib.hid (show Below W3.heap.size W3 W4 by rw [HW4.out]; exact new_below W3 _); have zW4 := Lib.hid (show W4.heap.size = W3.heap.size + 1 by rw [HW4.out, new_size])) | ((with_reducible refine at_store 35 ?_); refine wpList_storeH rfl 35 _ _ rfl _ _ _ rfl rfl ?_ ?_ (all_oneCell_toArray (rcs_one _ _ _)) ?_; (focus ((have t := DW4.out.th; rw [rcs_len (show zR.rf.b.length = 64 from rfl)] at t; rw [rcs_size (show zR.rf.b.length = 64 from rfl)]; exact t))); (focus (rw [size_D, rcs_size (show zR.rf.b.length = 64 from rfl)])); intro W5 HW5))
      have B5 := Lib.hid (B3.out.trans ((show Below W3.heap.size W3 W5 by rw [HW5.out]; exact below_setCells BW4.out (Nat.le_refl _) _ _).mono B3.out.size))
      clear HW5 HW4 DW4 BW4 zW4
      refine (HCo.out W5 B5.out 8).mono ?_
      rintro e W6 ⟨rfl, hb6⟩
      have B6 := Lib.hid (B5.out.trans (hb6.mono B5.out.size))
      clear hb6
      go_wp2_with fail
      go_ret
      exact ⟨rfl, B6.out⟩
    · obtain ⟨nb, rfl, hn1, hn2⟩ : ∃ nb : Nat, n = (nb : Int) ∧ 0 < nb ∧ nb ≤ 4096 := ⟨n.toNat, by omega, by omega, by omega⟩
      go_wp2_with fail
      refine (new_yes W1 nb hn1 hn2).mono ?_
      rintro e W2 ⟨rfl, hD2, hb2⟩
      have D2 := Lib.hid hD2
      have B2 := Lib.hid (B1.out.trans (hb2.mono B1.out.size))
      have hs0 := B1.out.size
      clear hD2 hb2
      go_wp2_with fail
      refine (refNew_any W2 nb hn1 hn2).mono ?_
      rintro e W3 ⟨v3, rfl, ⟨A3, c3, rfl, hm3, hl3⟩, hb3⟩
      have D3 := Lib.hid (D2.out.below hb3)
      have B3 := Lib.hid (B2.out.trans (hb3.mono B2.out.size))
      have M3 := Lib.hid hm3
      clear hm3 hb3 hl3
      go_wp2_with (first | ((with_reducible refine at_slot 7 ?_); refine wpList_allocH rfl 35 rfl _ zero_D ?_; intro W4 HW4; have DW4 := Lib.hid (show HdD W4 W3.heap.size (rcs zR none 0) by rw [HW4.out]; exact hd_new W3 _ _); have BW4 := Lib.hid (show Below W3.heap.size W3 W4 by rw [HW4.out]; exact new_below W3 _); have zW4 := Lib.hid (show W4.heap.size = W3.heap.size + 1 by rw [HW4.out, new_size])) | ((with_reducible refine at_store 35 ?_); refine wpList_storeH rfl 35 _ _ rfl _ _ _ rfl rfl ?_ ?_ (all_oneCell_toArray (rcs_one _ _ _)) ?_; (focus ((have t := DW4.out.th; rw [rcs_len (show zR.rf.b.length = 64 from rfl)] at t; rw [rcs_size (newR_len nb)]; exact t))); (focus (rw [size_D, rcs_size (newR_len nb)])); intro W5 HW5))
      have hbelow5 : Below W3.heap.size W3 W5 := by rw [HW5.out]; exact below_setCells BW4.out (Nat.le_refl _) _ _
      have V5 := Lib.hid (show HdD W5 W3.heap.size (rcs (newR nb) A3 c3) by rw [HW5.out]; exact DW4.out.all (by rw [rcs_len (newR_len nb), rcs_len (R := zR) rfl]))
      have D5 := Lib.hid (D3.out.below hbelow5)
      have M5 := Lib.hid (M3.out.keep hbelow5)
      have B5 := Lib.hid (B3.out.trans (hbelow5.mono B3.out.size))
      have hg5 : W3.heap.size < W5.heap.size := by rw [HW5.out, size_setCells]; have := zW4.out; omega
      have hgd : W1.heap.size + 1 < W3.heap.size := D3.out.ld
      have hgw : w.heap.size ≤ W3.heap.size := B3.out.size
      obtain ⟨gV, hgV⟩ : ∃ g, W3.heap.size = g := ⟨_, rfl⟩
      rw [hgV] at V5 hg5 hgd hgw ⊢
      have HgV := Lib.hid hgw
      clear hgV hbelow5 HW5 HW4 DW4 BW4 zW4 D3 M3 B3
      have hc5 := HCo.out W5 B5.out 0
      rw [errV0] at hc5
      refine hc5.mono ?_
      clear hc5
      rintro e W6 ⟨rfl, hb6⟩
      have D6 := Lib.hid (D5.out.below hb6)
      have V6 := Lib.hid (V5.out.keep hg5 hb6)
      have M6 := Lib.hid (M5.out.keep hb6)
      have B6 := Lib.hid (B5.out.trans (hb6.mono B5.out.size))
      have hg6 : gV < W6.heap.size := Nat.lt_of_lt_of_le hg5 hb6.size
      clear hb6 D5 V5 M5 B5 hg5
      go_wp2_with fail
      go_loopg [50, 5] m (PlRel w gV m)
      case atStart => exact ⟨0, newSt nb, newR nb, A3, c3, W1.heap.size + 1, W1.heap.size, by omega, rfl, rfl, Nat.le_refl _, Nat.le_refl _, sim_new nb, D6.out, V6.out, M6.out, newR_len nb, hg6, B6.out, by omega, by omega, by omega, by omega⟩
      case round =>
        obtain ⟨j, S, R, A, c, d, bk, hk, rfl, rfl, hst, hws, hS, hD, hV, hM, hrl, hgw', hB, hw1, hw2, hgd1, hgd2⟩ := hrel
        have HD := Lib.hid hD
        have HV := Lib.hid hV
        have HM := Lib.hid hM
        have HB := Lib.hid hB
        have HS := Lib.hid hS
        have HRL := Lib.hid hrl
        clear hD hV hM hB hS hrl
        by_cases hlt : j < m
        · obtain ⟨b, off, rfl, hacts⟩ := HA.out (by omega)
          obtain ⟨kd, k, B', x', c', h0, h1, h2, hbt, hkd, hk64, hxc, hc63⟩ := hacts j hlt
          have hbl : b < w.heap.size := block_lt_of_cell h0
          have hl200 : x'.length ≤ 200 := HFo.out.2 b off rfl j hlt B' x'.length c' ((B0.out.cell (p := ⟨b, off + j * 3 + 2, none⟩) hbl).trans h2)
          have HBt0 := Lib.hid hbt
          have k0 : wr.cell? ⟨b, off + j * 3, none⟩ = some (.int .u8 kd) := (HB.out.cell (p := ⟨b, off + j * 3, none⟩) hbl).trans h0
          have k1 : wr.cell? ⟨b, off + j * 3 + 1, none⟩ = some (.int .i64 k) := (HB.out.cell (p := ⟨b, off + j * 3 + 1, none⟩) hbl).trans h1
          have k2 : wr.cell? ⟨b, off + j * 3 + 2, none⟩ = some (.slice B' x'.length c') := (HB.out.cell (p := ⟨b, off + j * 3 + 2, none⟩) hbl).trans h2
          obtain ⟨l', hl'⟩ : ∃ l', l' = x'.length := ⟨_, rfl⟩
          have HL' := Lib.hid hl'
          rw [← hl'] at k2 hl200
          have hwr := HD.out.ld
          have hwb := HD.out.lb
          have HE := Lib.hid (HD.out.below (new_below wr (.cells #[.int .u8 kd, .int .i64 k, .slice B' l' c'] 41)))
          have VE := Lib.hid (HV.out.keep hgw' (new_below wr (.cells #[.int .u8 kd, .int .i64 k, .slice B' l' c'] 41)))
          have ME := Lib.hid (HM.out.keep (new_below wr (.cells #[.int .u8 kd, .int .i64 k, .slice B' l' c'] 41)))
          have BE := Lib.hid (HB.out.alloc HB.out.size (.cells #[.int .u8 kd, .int .i64 k, .slice B' l' c'] 41))
          have ca1 : ∀ W, Below (wr.heap.size + 1) (wr.alloc (.cells #[.int .u8 kd, .int .i64 k, .slice B' l' c'] 41)) W → W.cell? ⟨wr.heap.size, 1, none⟩ = some (.int .i64 k) ∧ W.cell? ⟨wr.heap.size, 2, none⟩ = some (.slice B' l' c') := fun W hW => ⟨(hW.cell (p := ⟨wr.heap.size, 1, none⟩) (Nat.lt_succ_self _)).trans (by rw [World.cell?_alloc_new]; rfl), (hW.cell (p := ⟨wr.heap.size, 2, none⟩) (Nat.lt_succ_self _)).trans (by rw [World.cell?_alloc_new]; rfl)⟩
          have HCa := Lib.hid ca1
          clear h0 h1 h2 hbt hl' hacts ca1 hxc hc63
          by_cases q0 : kd % 4 = 0
          · have e0 : (kd % 4 == 0) = true := by simpa using q0
            clear q0
            have hsz : (wr.alloc (.cells #[.int .u8 kd, .int .i64 k, .slice B' l' c'] 41)).heap.size = wr.heap.size + 1 := new_size _ _
            have hS7 := HCa.out
            go_wp2_with fail
            obtain ⟨ga, hga⟩ : ∃ ga, wr.heap.size = ga := ⟨_, rfl⟩
            obtain ⟨W7, HW7⟩ : ∃ W7, Hid (W7 = wr.alloc (.cells #[.int .u8 kd, .int .i64 k, .slice B' l' c'] 41)) := ⟨_, rfl⟩
            rw [← HW7.out] at HE VE ME BE hsz hS7 ⊢
            rw [hga] at hsz hS7 hwr hwb ⊢
            have hgv : gV < ga := by omega
            have HSz := Lib.hid hsz
            have HS7 := Lib.hid (fun W (hW : Below W7.heap.size W7 W) => hS7 W (by rw [← HSz.out]; exact hW))
            have hac := app_copy (w := W7.drew) (A := B') (x := x') c' ((HBt0.out.keep BE.out).keep ((Below.refl _ _).drew)) (by have := HL'.out; omega) 39
            rw [← HL'.out] at hac
            have HAc := Lib.hid hac
            have hz7 : ga < W7.heap.size := by omega
            have hgE : gV < W7.heap.size := by omega
            clear hac hS7 HW7 hga k0 k1 k2 hsz HCa
            go_region_held3 (fun w' => w'.cell? ⟨ga, 1, none⟩ = some (.int .i64 k) ∧ w'.cell? ⟨ga, 2, none⟩ = some (.slice B' l' c'))
              (first | exact HS7.out _ ((Below.refl _ _).drew) | exact HS7.out _ (((Below.refl _ _).drew).alloc (Nat.le_refl _) _) | exact HS8.out | exact HS9.out | exact HS10.out)
              (first
                | (refine step_app rfl (.tmp 70) (.tmp 72) 39 rfl _ _ rfl rfl _ HAc.out ?_
                   rintro v1 W8 ⟨g1, cap1, ev1, hg1, hg1', hcap1, hra1, hth1, hb8⟩
                   rw [← HL'.out] at ev1
                   subst ev1
                   have B78 := Lib.hid (show Below W7.heap.size W7 W8 from ((Below.refl _ _).drew).trans hb8)
                   have HS8 := Lib.hid (HS7.out W8 B78.out)
                   have Bt8 := Lib.hid (show Bt W8 (some ⟨g1, 0, none⟩) x' from fun _ => ⟨_, rfl, fun j v hv => (by rw [Addr.add_mid]; exact hra1 j v hv)⟩)
                   clear hg1 hg1' hcap1 hra1 hth1 hb8)
                | (go_at_call 9
                   refine (write_any W8 d bk S (HE.out.below B78.out) k (some ⟨g1, 0, none⟩) x' l' cap1 HL'.out Bt8.out (by omega)).mono ?_
                   rintro e W9 ⟨rfl, hD9, ho9⟩
                   have D9 := Lib.hid hD9
                   have B9 := Lib.hid (ho9.on (BE.out.trans (B78.out.mono BE.out.size)) hw1 hw2)
                   have hblk9 : W9.heap[ga]? = W8.heap[ga]? := ho9.2.1 ga (Nat.lt_of_lt_of_le hz7 B78.out.size) (by omega) (by omega)
                   have HS9 := Lib.hid (show W9.cell? ⟨ga, 1, none⟩ = some (.int .i64 k) ∧ W9.cell? ⟨ga, 2, none⟩ = some (.slice B' l' c') from ⟨(World.cell?_of_block (a := ⟨ga, 1, none⟩) hblk9).trans HS8.out.1, (World.cell?_of_block (a := ⟨ga, 2, none⟩) hblk9).trans HS8.out.2⟩)
                   have V9 := Lib.hid ((VE.out.keep hgE B78.out).same (ho9.2.1 gV (Nat.lt_of_lt_of_le hgE B78.out.size) hgd1 hgd2))
                   have M9 := Lib.hid ((ME.out.keep B78.out).oth (HE.out.below B78.out) ho9)
                   have hg9 : gV < W9.heap.size := Nat.lt_of_lt_of_le (Nat.lt_of_lt_of_le hgE B78.out.size) ho9.1
                   have hz9 : ga < W9.heap.size := Nat.lt_of_lt_of_le (Nat.lt_of_lt_of_le hz7 B78.out.size) ho9.1
                   clear hD9 ho9 hblk9)
                | (go_at_call 8
                   refine (HCo.out W9 B9.out _).mono ?_
                   rintro e W4 ⟨rfl, hb4⟩
                   have D4 := Lib.hid (D9.out.below hb4)
                   have V4 := Lib.hid (V9.out.keep hg9 hb4)
                   have M4 := Lib.hid (M9.out.keep hb4)
                   have B4 := Lib.hid (B9.out.trans (hb4.mono B9.out.size))
                   have hg4 : gV < W4.heap.size := Nat.lt_of_lt_of_le hg9 hb4.size
                   have c1 : W4.cell? ⟨ga, 1, none⟩ = some (.int .i64 k) := (hb4.cell (p := ⟨ga, 1, none⟩) hz9).trans HS9.out.1
                   have c2 : W4.cell? ⟨ga, 2, none⟩ = some (.slice B' l' c') := (hb4.cell (p := ⟨ga, 2, none⟩) hz9).trans HS9.out.2
                   have HS10 := Lib.hid (And.intro c1 c2)
                   clear hb4))
            go_wp2_with (first | ((with_reducible refine at_slot 77 ?_); refine wpList_load_mid rfl 35 _ rfl _ _ rfl (rcs R A c) _ V4.out.1 Tryd.underlying35 rfl ?_ ?_; (rw [size_D, rcs_len HRL.out])))
            have hfu := sim_fu HS.out HD.out.lfb
            refine (refWrite_any W4 _ R ⟨A, c, rfl, M4.out, HRL.out⟩ k B' x' l' c' HL'.out (HBt0.out.keep B4.out) hfu (by rw [HS.out.st]; omega) (by omega)).mono ?_
            clear hfu
            rintro e W5 ⟨v5, rfl, ⟨A5, c5, rfl, hm5, hl5⟩, hb5⟩
            have D5 := Lib.hid (D4.out.below hb5)
            have V5 := Lib.hid (V4.out.keep hg4 hb5)
            have M5 := Lib.hid hm5
            have L5 := Lib.hid hl5
            have B5 := Lib.hid (B4.out.trans (hb5.mono B4.out.size))
            have hg5 : gV < W5.heap.size := Nat.lt_of_lt_of_le hg4 hb5.size
            obtain ⟨sw1, sw2⟩ := sim_write HS.out (fun i hi => (HD.out.hb.1 i hi).2) k x'
            have SW := Lib.hid sw1
            have HAr := Lib.hid (And.intro (wr_n S k x').2 (wrR_len R k x'))
            obtain ⟨cc, hcc⟩ : ∃ cc, (wrR R k x').2 = cc := ⟨_, rfl⟩
            rw [sw2, hcc]
            try rw [hcc]
            obtain ⟨S', hS'⟩ : ∃ S', (wrSt S k x').1 = S' := ⟨_, rfl⟩
            obtain ⟨R', hR'⟩ : ∃ R', (wrR R k x').1 = R' := ⟨_, rfl⟩
            rw [hS'] at SW D5 HAr
            rw [hR'] at SW M5 L5 HAr ⊢
            clear hm5 hl5 hb5 sw1 sw2 hcc hS' hR' c1 c2 D4 V4 M4 B4 hg4 D9 V9 M9 B9 hg9 hz9 HS9 HS8 HS10
            go_wp2_with (first | ((with_reducible refine at_store 35 ?_); refine wpList_storeH rfl 35 _ _ rfl _ _ _ rfl rfl ?_ ?_ (all_oneCell_toArray (rcs_one _ _ _)) ?_; (focus ((have t := V5.out.th; rw [rcs_len (HRL.out)] at t; rw [rcs_size (L5.out)]; exact t))); (focus (rw [size_D, rcs_size (L5.out)])); intro W9 HW9; have V9 := Lib.hid (show HdD W9 gV (rcs R' A5 c5) by rw [HW9.out]; exact V5.out.all (by rw [rcs_len L5.out, rcs_len HRL.out])); have O9 : Oth gV gV W5 W9 := (by rw [HW9.out]; exact (Oth.refl gV gV W5).puts gV (Or.inl rfl) _ 0); have D9 := Lib.hid (D5.out.oth O9 (by omega) (by omega) (by omega) (by omega)); have M9 := Lib.hid (M5.out.var V5.out HRL.out HW9.out); have B9 := Lib.hid (O9.on B5.out HgV.out HgV.out); have hg9 : gV < W9.heap.size := Nat.lt_of_lt_of_le hg5 O9.1; clear O9 HW9) | ((with_reducible refine at_slot 156 ?_); refine wpList_loadG (by rfl) 35 _ rfl _ _ rfl (rcs R' A5 c5) _ V9.out.1 Tryd.underlying35 rfl ?_ ?_; (rw [size_D, rcs_len L5.out])))
            refine (is_any _ d bk S' _ R' D9.out ⟨A5, c5, rfl, M9.out, L5.out⟩ SW.out (by have := HAr.out.2; omega)).mono ?_
            rintro e Wy ⟨rfl, hby⟩
            have Dy := Lib.hid (D9.out.below hby)
            have Vy := Lib.hid (V9.out.keep hg9 hby)
            have My := Lib.hid (M9.out.keep hby)
            have By := Lib.hid (B9.out.trans (hby.mono B9.out.size))
            have hgy : gV < Wy.heap.size := Nat.lt_of_lt_of_le hg9 hby.size
            clear hby
            go_wp2_with fail
            go_roundg (m - (j + 1))
            case rel => exact ⟨j + 1, S', R', A5, c5, d, bk, by omega, by go_num, rfl, by have := HAr.out.1; omega, by have := HAr.out.2; omega, SW.out, Dy.out, Vy.out, My.out, L5.out, hgy, By.out, hw1, hw2, hgd1, hgd2⟩
            case measure => omega
          by_cases q1 : kd % 4 = 1
          · have e0 : (kd % 4 == 0) = false := by simpa using q0
            have e1 : (kd % 4 == 1) = true := by simpa using q1
            clear q0 q1
            have hsz : (wr.alloc (.cells #[.int .u8 kd, .int .i64 k, .slice B' l' c'] 41)).heap.size = wr.heap.size + 1 := new_size _ _
            have HSz := Lib.hid hsz
            have hgE : gV < (wr.alloc (.cells #[.int .u8 kd, .int .i64 k, .slice B' l' c'] 41)).heap.size := by omega
            have b0 : (wr.alloc (.cells #[.int .u8 kd, .int .i64 k, .slice B' l' c'] 41)).cell? ⟨gV, 0, none⟩ = some (.int .i64 (S.n : Int)) := (VE.out.cell 0 _ (rcs_0 A c)).trans (by rw [HS.out.n])
            rw [World.cell?_alloc_lt _ _ _ hgw'] at b0
            have HGE := Lib.hid hgE
            clear hsz hgE
            by_cases hkb : hasB S.n k = true
            · obtain ⟨q, rfl, hq⟩ := hasB_nat hkb
              have hq0 : ¬ ((q : Int) < 0) := by omega
              have hq1 : ¬ ((S.n : Int) ≤ (q : Int)) := by omega
              clear hkb
              go_wp2_with fail
              refine (read_fz _ d bk S HE.out q hq).mono ?_
              rintro e W3 ⟨rfl, hr3, hb3, hf3⟩
              have HR3 := Lib.hid hr3
              have HF3 := Lib.hid hf3
              have HB3 := Lib.hid hb3
              have hlen : (S.B q).length = 64 := (HE.out.hb.1 q hq).2
              have HLen := Lib.hid hlen
              obtain ⟨gA, hgA⟩ : ∃ gA, (wr.alloc (.cells #[.int .u8 kd, .int .i64 (q : Int), .slice B' l' c'] 41)).heap.size = gA := ⟨_, rfl⟩
              have hA3 : gA < W3.heap.size := by rw [← hgA]; exact block_lt_of_cell (hr3 0 _ (List.getElem?_eq_getElem (by rw [bcs_len, hlen]; omega)))
              have c0 : W3.cell? ⟨wr.heap.size, 1, none⟩ = some (.int .i64 (q : Int)) := (HCa.out W3 (by rw [← HSz.out]; exact hb3)).1
              have b3 : W3.cell? ⟨gV, 0, none⟩ = some (.int .i64 (S.n : Int)) := (hb3.cell (p := ⟨gV, 0, none⟩) HGE.out).trans (by rw [World.cell?_alloc_lt _ _ _ hgw']; exact b0)
              have V3 := Lib.hid (VE.out.keep HGE.out hb3)
              have M3 := Lib.hid (ME.out.keep hb3)
              rw [hgA] at HR3 HF3 ⊢
              have hgAV : gV < gA := by rw [← hgA]; exact HGE.out
              have HgA := Lib.hid hgA
              clear hr3 hb3 hf3 hlen hgA b0
              go_wp2_with (first | ((with_reducible refine at_slot 112 ?_); refine wpList_load_mid rfl 35 _ rfl _ _ rfl (rcs R A c) _ V3.out.1 Tryd.underlying35 rfl ?_ ?_; (rw [size_D, rcs_len HRL.out])))
              refine (refRead_any W3 _ R ⟨A, c, rfl, M3.out, HRL.out⟩ (q : Int) (by omega)).mono ?_
              rintro e W4 ⟨rfl, hb4⟩
              have e9 := HS.out.bl q hq
              rw [← e9]
              have HB4 := Lib.hid hb4
              have hA4 : gA < W4.heap.size := Nat.lt_of_lt_of_le hA3 hb4.size
              have HR4 := Lib.hid (rangeAt_of HR3.out (hb4.block _ hA3))
              clear hb4 e9 c0 b3
              go_wp2_with (first | ((with_reducible refine at_slot 15 ?_); refine wpList_allocH rfl 31 rfl _ zero_31 ?_; intro W5 HW5; have DW5 := Lib.hid (show HdD W5 W4.heap.size (bcs zeros) by rw [HW5.out]; exact hd_new W4 _ _); have BW5 := Lib.hid (show Below W4.heap.size W4 W5 by rw [HW5.out]; exact new_below W4 _); have zW5 := Lib.hid (show W5.heap.size = W4.heap.size + 1 by rw [HW5.out, new_size])) | ((with_reducible refine at_store 31 ?_); refine wpList_storeH rfl 31 _ _ rfl _ _ _ rfl rfl ?_ ?_ (all_oneCell_toArray (bcs_one _)) ?_; (focus ((have t := DW5.out.th; rw [bcs_len] at t; have e5 : (bcs (S.B q)).toArray.size = zeros.length := (by rw [List.size_toArray, bcs_len, HLen.out]; rfl); rw [e5]; exact t))); (focus ((have e5 : (bcs (S.B q)).toArray.size = 64 := (by rw [List.size_toArray, bcs_len, HLen.out])); rw [size_31, e5])); intro W6 HW6))
              have e6 := HW6.out
              have hd6 : HdD W6 W4.heap.size (bcs (S.B q)) := by rw [e6]; exact DW5.out.all (by rw [bcs_len, bcs_len, HLen.out]; rfl)
              have b6 : Below W4.heap.size W4 W6 := by rw [e6]; exact below_setCells BW5.out (Nat.le_refl _) _ _
              have r6 : W6.rangeAt gA 0 (bcs (S.B q)) := rangeAt_of HR4.out (b6.block _ hA4)
              have HB6 := Lib.hid b6
              have hA6 : gA < W6.heap.size := Nat.lt_of_lt_of_le hA4 b6.size
              have hs1 := fun n => conv_bytes (W6.drewN n) gA 0 64 64 (S.B q) HLen.out.symm r6
              have hs2 := fun n => conv_bytes (W6.drewN n) W4.heap.size 0 64 64 (S.B q) HLen.out.symm hd6.1
              have HR6 := Lib.hid r6
              have HE6 := Lib.hid (show Below (wr.alloc (.cells #[.int .u8 kd, .int .i64 (q : Int), .slice B' l' c'] 41)).heap.size (wr.alloc (.cells #[.int .u8 kd, .int .i64 (q : Int), .slice B' l' c'] 41)) W6 from (HB3.out.trans (HB4.out.mono HB3.out.size)).trans (b6.mono (by have := HB3.out.size; have := HB4.out.size; omega)))
              have HF6 := Lib.hid (fun j => (b6.frozen (p := ⟨gA, j, none⟩) hA4).trans ((HB4.out.frozen (p := ⟨gA, j, none⟩) hA3).trans (HF3.out j)))
              obtain ⟨T, hT⟩ : ∃ T, (⟨(S.B q).toArray⟩ : ByteArray) = T := ⟨_, rfl⟩
              rw [hT] at hs1 hs2
              clear hT e6 hd6 b6 r6 HW6 DW5 BW5 zW5 HW5 hA4 hA3
              go_quiet (fail)
              clear hs1 hs2
              go_wp2_with fail
              go_loopg [127] 64 (PlRel3 W6 gA)
              case atStart => exact ⟨0, rfl, rfl, fun j hj => ⟨_, by have t := HR6.out j _ (List.getElem?_eq_getElem (by rw [bcs_len, HLen.out]; exact hj)); rw [Nat.zero_add] at t; rw [show (bcs (S.B q))[j]'(by rw [bcs_len, HLen.out]; exact hj) = .int .u8 (((S.B q)[j]'(by rw [HLen.out]; exact hj)).toNat : Int) by simp [bcs]] at t; exact t⟩, fun j _ => HF6.out j, (Oth.refl gA gA W6).step (drewN_below0 W6 _)⟩
              case round =>
                rename World => wq
                obtain ⟨i, hki, rfl, hz, hfz, hO⟩ := hrel
                have HZq := Lib.hid hz
                have HFq := Lib.hid hfz
                have HOq := Lib.hid hO
                clear hz hfz hO
                by_cases hi : i < 64
                · obtain ⟨z, kz⟩ := HZq.out i hi
                  have kf := HFq.out i hi
                  go_wp2_with fail
                  go_roundg (64 - (i + 1))
                  case rel =>
                    refine ⟨i + 1, by omega, by go_num, fun j hj => ?_, fun j hj => by rw [World.frozen?_setCell]; exact HFq.out j hj, HOq.out.put gA i (Or.inl rfl) _⟩
                    by_cases e : i = j
                    · subst e
                      exact ⟨_, World.cell?_setCell_same _ _ _ kz⟩
                    · obtain ⟨z', kz'⟩ := HZq.out j hj
                      exact ⟨z', by rw [World.cell?_setCell_other _ _ _ _ (fun he => e (by cases he; rfl))]; exact kz'⟩
                  case measure => omega
                · obtain rfl : i = 64 := by omega
                  have HEq := Lib.hid (HOq.out.on HE6.out (by rw [HgA.out]; exact Nat.le_refl _) (by rw [HgA.out]; exact Nat.le_refl _))
                  have D9 := Lib.hid (HE.out.below HEq.out)
                  have V9 := Lib.hid (VE.out.keep HGE.out HEq.out)
                  have M9 := Lib.hid (ME.out.keep HEq.out)
                  have B9 := Lib.hid (BE.out.trans (HEq.out.mono BE.out.size))
                  have hg9 : gV < wq.heap.size := Nat.lt_of_lt_of_le HGE.out HEq.out.size
                  go_wp2_with (first | ((with_reducible refine at_slot 156 ?_); refine wpList_loadG (by rfl) 35 _ rfl _ _ rfl (rcs R A c) _ V9.out.1 Tryd.underlying35 rfl ?_ ?_; (rw [size_D, rcs_len HRL.out])))
                  refine (is_any _ d bk S _ R D9.out ⟨A, c, rfl, M9.out, HRL.out⟩ HS.out (by omega)).mono ?_
                  rintro e Wy ⟨rfl, hby⟩
                  have Dy := Lib.hid (D9.out.below hby)
                  have Vy := Lib.hid (V9.out.keep hg9 hby)
                  have My := Lib.hid (M9.out.keep hby)
                  have By := Lib.hid (B9.out.trans (hby.mono B9.out.size))
                  have hgy : gV < Wy.heap.size := Nat.lt_of_lt_of_le hg9 hby.size
                  clear hby
                  go_wp2_with fail
                  go_roundg (m - (j + 1))
                  case rel => exact ⟨j + 1, S, R, A, c, d, bk, by omega, by go_num, rfl, by omega, by omega, HS.out, Dy.out, Vy.out, My.out, HRL.out, hgy, By.out, hw1, hw2, hgd1, hgd2⟩
                  case measure => omega
            · have hkn : k < 0 ∨ (S.n : Int) ≤ k := by
                have : ¬ (0 ≤ k ∧ k < (S.n : Int)) := by simpa [hasB] using hkb
                omega
              have hkf : hasB S.n k = false := by simpa using hkb
              have HKF := Lib.hid hkf
              have hcc := HCo.out _ BE.out 8
              rw [errV8] at hcc
              have HCC := Lib.hid hcc
              clear hcc hkb hkf
              by_cases hk0 : k < 0
              · go_wp2_with fail
                refine (read_no _ d bk S HE.out k HKF.out).mono ?_
                rintro e w' ⟨rfl, rfl⟩
                go_wp2_with fail
                refine HCC.out.mono ?_
                rintro e W4 ⟨rfl, hb4⟩
                have D9 := Lib.hid (HE.out.below hb4)
                have V9 := Lib.hid (VE.out.keep HGE.out hb4)
                have M9 := Lib.hid (ME.out.keep hb4)
                have B9 := Lib.hid (BE.out.trans (hb4.mono BE.out.size))
                have hg9 : gV < W4.heap.size := Nat.lt_of_lt_of_le HGE.out hb4.size
                clear hb4
                go_wp2_with fail
                go_roundg (m - (j + 1))
                case rel => exact ⟨j + 1, S, R, A, c, d, bk, by omega, by go_num, rfl, by omega, by omega, HS.out, D9.out, V9.out, M9.out, HRL.out, hg9, B9.out, hw1, hw2, hgd1, hgd2⟩
                case measure => omega
              · have hk1 : (S.n : Int) ≤ k := by omega
                go_wp2_with fail
                refine (read_no _ d bk S HE.out k HKF.out).mono ?_
                rintro e w' ⟨rfl, rfl⟩
                go_wp2_with fail
                refine HCC.out.mono ?_
                rintro e W4 ⟨rfl, hb4⟩
                have D9 := Lib.hid (HE.out.below hb4)
                have V9 := Lib.hid (VE.out.keep HGE.out hb4)
                have M9 := Lib.hid (ME.out.keep hb4)
                have B9 := Lib.hid (BE.out.trans (hb4.mono BE.out.size))
                have hg9 : gV < W4.heap.size := Nat.lt_of_lt_of_le HGE.out hb4.size
                clear hb4
                go_wp2_with fail
                go_roundg (m - (j + 1))
                case rel => exact ⟨j + 1, S, R, A, c, d, bk, by omega, by go_num, rfl, by omega, by omega, HS.out, D9.out, V9.out, M9.out, HRL.out, hg9, B9.out, hw1, hw2, hgd1, hgd2⟩
                case measure => omega
          by_cases q2 : kd % 4 = 2
          · have e0 : (kd % 4 == 0) = false := by simpa using q0
            have e1 : (kd % 4 == 1) = false := by simpa using q1
            have e2 : (kd % 4 == 2) = true := by simpa using q2
            have q2' := Lib.hid q2
            clear q0 q1 q2
            go_wp2_with fail
            refine (arm_any _ d bk S HE.out k (by omega)).mono ?_
            rintro e W3 ⟨rfl, hD3, ho3⟩
            have hsz : (wr.alloc (.cells #[.int .u8 kd, .int .i64 k, .slice B' l' c'] 41)).heap.size = wr.heap.size + 1 := new_size _ _
            have hwz : wr.heap.size < W3.heap.size := by have := ho3.1; omega
            have D3 := Lib.hid hD3
            have B3 := Lib.hid (ho3.on BE.out hw1 hw2)
            have hblk : W3.heap[wr.heap.size]? = (wr.alloc (.cells #[.int .u8 kd, .int .i64 k, .slice B' l' c'] 41)).heap[wr.heap.size]? := ho3.2.1 _ (by omega) (by omega) (by omega)
            have V3 := Lib.hid (VE.out.same (ho3.2.1 gV (by omega) hgd1 hgd2))
            have M3 := Lib.hid (ME.out.oth HE.out ho3)
            have hg3 : gV < W3.heap.size := by omega
            clear hD3 ho3
            go_wp2_with fail
            refine (HCo.out W3 B3.out _).mono ?_
            rintro e W4 ⟨rfl, hb4⟩
            have D4 := Lib.hid (D3.out.below hb4)
            have V4 := Lib.hid (V3.out.keep hg3 hb4)
            have M4 := Lib.hid (M3.out.keep hb4)
            have B4 := Lib.hid (B3.out.trans (hb4.mono B3.out.size))
            have hg4 : gV < W4.heap.size := Nat.lt_of_lt_of_le hg3 hb4.size
            have hblk4 : W4.heap[wr.heap.size]? = (wr.alloc (.cells #[.int .u8 kd, .int .i64 k, .slice B' l' c'] 41)).heap[wr.heap.size]? := (hb4.block _ hwz).trans hblk
            have c1 : W4.cell? ⟨wr.heap.size, 1, none⟩ = some (.int .i64 k) := (World.cell?_of_block (a := ⟨wr.heap.size, 1, none⟩) hblk4).trans (by rw [World.cell?_alloc_new]; rfl)
            have c2 : W4.cell? ⟨wr.heap.size, 2, none⟩ = some (.slice B' l' c') := (World.cell?_of_block (a := ⟨wr.heap.size, 2, none⟩) hblk4).trans (by rw [World.cell?_alloc_new]; rfl)
            clear hb4 hblk hblk4 D3 V3 M3 B3 hg3 hwz hsz
            go_wp2_with (first | ((with_reducible refine at_slot 145 ?_); refine wpList_load_mid rfl 35 _ rfl _ _ rfl (rcs R A c) _ V4.out.1 Tryd.underlying35 rfl ?_ ?_; (rw [size_D, rcs_len HRL.out])))
            refine (refArm_any W4 _ R ⟨A, c, rfl, M4.out, HRL.out⟩ k).mono ?_
            rintro e W5 ⟨v5, rfl, ⟨A5, c5, rfl, hm5, hl5⟩, hb5⟩
            have D5 := Lib.hid (D4.out.below hb5)
            have V5 := Lib.hid (V4.out.keep hg4 hb5)
            have M5 := Lib.hid hm5
            have L5 := Lib.hid hl5
            have B5 := Lib.hid (B4.out.trans (hb5.mono B4.out.size))
            have hg5 : gV < W5.heap.size := Nat.lt_of_lt_of_le hg4 hb5.size
            obtain ⟨sw1, sw2⟩ := sim_arm HS.out k
            have SW := Lib.hid sw1
            have HAr := Lib.hid (ar_same S R k)
            obtain ⟨cc, hcc⟩ : ∃ cc, (arR R k).2 = cc := ⟨_, rfl⟩
            rw [sw2, hcc]
            try rw [hcc]
            obtain ⟨S', hS'⟩ : ∃ S', (arSt S k).1 = S' := ⟨_, rfl⟩
            obtain ⟨R', hR'⟩ : ∃ R', (arR R k).1 = R' := ⟨_, rfl⟩
            rw [hS'] at SW D5 HAr
            rw [hR'] at SW M5 L5 HAr ⊢
            clear hm5 hl5 hb5 sw1 sw2 hcc hS' hR' c1 c2 D4 V4 M4 B4 hg4
            go_wp2_with (first | ((with_reducible refine at_store 35 ?_); refine wpList_storeH rfl 35 _ _ rfl _ _ _ rfl rfl ?_ ?_ (all_oneCell_toArray (rcs_one _ _ _)) ?_; (focus ((have t := V5.out.th; rw [rcs_len (HRL.out)] at t; rw [rcs_size (L5.out)]; exact t))); (focus (rw [size_D, rcs_size (L5.out)])); intro W9 HW9; have V9 := Lib.hid (show HdD W9 gV (rcs R' A5 c5) by rw [HW9.out]; exact V5.out.all (by rw [rcs_len L5.out, rcs_len HRL.out])); have O9 : Oth gV gV W5 W9 := (by rw [HW9.out]; exact (Oth.refl gV gV W5).puts gV (Or.inl rfl) _ 0); have D9 := Lib.hid (D5.out.oth O9 (by omega) (by omega) (by omega) (by omega)); have M9 := Lib.hid (M5.out.var V5.out HRL.out HW9.out); have B9 := Lib.hid (O9.on B5.out HgV.out HgV.out); have hg9 : gV < W9.heap.size := Nat.lt_of_lt_of_le hg5 O9.1; clear O9 HW9) | ((with_reducible refine at_slot 156 ?_); refine wpList_loadG (by rfl) 35 _ rfl _ _ rfl (rcs R' A5 c5) _ V9.out.1 Tryd.underlying35 rfl ?_ ?_; (rw [size_D, rcs_len L5.out])))
            refine (is_any _ d bk S' _ R' D9.out ⟨A5, c5, rfl, M9.out, L5.out⟩ SW.out (by have := congrArg List.length HAr.out.2.1; omega)).mono ?_
            rintro e Wy ⟨rfl, hby⟩
            have Dy := Lib.hid (D9.out.below hby)
            have Vy := Lib.hid (V9.out.keep hg9 hby)
            have My := Lib.hid (M9.out.keep hby)
            have By := Lib.hid (B9.out.trans (hby.mono B9.out.size))
            have hgy : gV < Wy.heap.size := Nat.lt_of_lt_of_le hg9 hby.size
            clear hby
            go_wp2_with fail
            go_roundg (m - (j + 1))
            case rel => exact ⟨j + 1, S', R', A5, c5, d, bk, by omega, by go_num, rfl, by have := HAr.out.1; omega, by have := congrArg List.length HAr.out.2.1; omega, SW.out, Dy.out, Vy.out, My.out, L5.out, hgy, By.out, hw1, hw2, hgd1, hgd2⟩
            case measure => omega
          · have e0 : (kd % 4 == 0) = false := by simpa using q0
            have e1 : (kd % 4 == 1) = false := by simpa using q1
            have e2 : (kd % 4 == 2) = false := by simpa using q2
            clear q0 q1 q2
            go_wp2_with fail
            refine (crash_any _ d bk S HE.out k).mono ?_
            rintro e W3 ⟨d5, b5, rfl, hd5, hb5, hC3, hb3⟩
            have hsz : (wr.alloc (.cells #[.int .u8 kd, .int .i64 k, .slice B' l' c'] 41)).heap.size = wr.heap.size + 1 := new_size _ _
            have D3 := Lib.hid hC3
            have B3 := Lib.hid (BE.out.trans (hb3.mono BE.out.size))
            have hblk : W3.heap[wr.heap.size]? = (wr.alloc (.cells #[.int .u8 kd, .int .i64 k, .slice B' l' c'] 41)).heap[wr.heap.size]? := hb3.block _ (by omega)
            have hgE : gV < (wr.alloc (.cells #[.int .u8 kd, .int .i64 k, .slice B' l' c'] 41)).heap.size := by omega
            have V3 := Lib.hid (VE.out.keep hgE hb3)
            have M3 := Lib.hid (ME.out.keep hb3)
            have hg3 : gV < W3.heap.size := Nat.lt_of_lt_of_le hgE hb3.size
            have hdg : w.heap.size ≤ d5 ∧ w.heap.size ≤ b5 ∧ gV ≠ d5 ∧ gV ≠ b5 := by have := HB.out.size; omega
            have c1 : W3.cell? ⟨wr.heap.size, 1, none⟩ = some (.int .i64 k) := (World.cell?_of_block (a := ⟨wr.heap.size, 1, none⟩) hblk).trans (by rw [World.cell?_alloc_new]; rfl)
            clear hC3 hb3 hblk hgE hsz hd5 hb5
            go_wp2_with (first | ((with_reducible refine at_slot 61 ?_); refine wpList_load_mid rfl 35 _ rfl _ _ rfl (rcs R A c) _ V3.out.1 Tryd.underlying35 rfl ?_ ?_; (rw [size_D, rcs_len HRL.out])))
            refine (refCrash_any W3 _ R ⟨A, c, rfl, M3.out, HRL.out⟩ k (by omega)).mono ?_
            rintro e W5 ⟨v5, rfl, ⟨A5, c5, rfl, hm5, hl5⟩, hb5⟩
            have D5 := Lib.hid (D3.out.below hb5)
            have V5 := Lib.hid (V3.out.keep hg3 hb5)
            have M5 := Lib.hid hm5
            have L5 := Lib.hid hl5
            have B5 := Lib.hid (B3.out.trans (hb5.mono B3.out.size))
            have hg5 : gV < W5.heap.size := Nat.lt_of_lt_of_le hg3 hb5.size
            have SW := Lib.hid (sim_crash HS.out (fun i hi => (HD.out.hb.1 i hi).2) HD.out.l6 k)
            have HCr := Lib.hid (show (crashSt S k).st = 0 ∧ (crashR R k).ws.length ≤ R.ws.length + 1 from ⟨rfl, crashR_len R k⟩)
            obtain ⟨S', hS'⟩ : ∃ S', crashSt S k = S' := ⟨_, rfl⟩
            obtain ⟨R', hR'⟩ : ∃ R', crashR R k = R' := ⟨_, rfl⟩
            rw [hS'] at SW D5 HCr
            rw [hR'] at SW M5 L5 HCr ⊢
            clear hm5 hl5 hb5 hS' hR' c1 D3 V3 M3 B3 hg3
            go_wp2_with (first | ((with_reducible refine at_store 35 ?_); refine wpList_storeH rfl 35 _ _ rfl _ _ _ rfl rfl ?_ ?_ (all_oneCell_toArray (rcs_one _ _ _)) ?_; (focus ((have t := V5.out.th; rw [rcs_len (HRL.out)] at t; rw [rcs_size (L5.out)]; exact t))); (focus (rw [size_D, rcs_size (L5.out)])); intro W9 HW9; have V9 := Lib.hid (show HdD W9 gV (rcs R' A5 c5) by rw [HW9.out]; exact V5.out.all (by rw [rcs_len L5.out, rcs_len HRL.out])); have O9 : Oth gV gV W5 W9 := (by rw [HW9.out]; exact (Oth.refl gV gV W5).puts gV (Or.inl rfl) _ 0); have D9 := Lib.hid (D5.out.oth O9 (Ne.symm hdg.2.2.1) (Ne.symm hdg.2.2.1) (Ne.symm hdg.2.2.2) (Ne.symm hdg.2.2.2)); have M9 := Lib.hid (M5.out.var V5.out HRL.out HW9.out); have B9 := Lib.hid (O9.on B5.out HgV.out HgV.out); have hg9 : gV < W9.heap.size := Nat.lt_of_lt_of_le hg5 O9.1; clear O9 HW9) | ((with_reducible refine at_slot 156 ?_); refine wpList_loadG (by rfl) 35 _ rfl _ _ rfl (rcs R' A5 c5) _ V9.out.1 Tryd.underlying35 rfl ?_ ?_; (rw [size_D, rcs_len L5.out])))
            refine (is_any _ d5 b5 S' _ R' D9.out ⟨A5, c5, rfl, M9.out, L5.out⟩ SW.out (by have := HCr.out.2; omega)).mono ?_
            rintro e Wy ⟨rfl, hby⟩
            have Dy := Lib.hid (D9.out.below hby)
            have Vy := Lib.hid (V9.out.keep hg9 hby)
            have My := Lib.hid (M9.out.keep hby)
            have By := Lib.hid (B9.out.trans (hby.mono B9.out.size))
            have hgy : gV < Wy.heap.size := Nat.lt_of_lt_of_le hg9 hby.size
            clear hby
            go_wp2_with fail
            go_roundg (m - (j + 1))
            case rel => exact ⟨j + 1, S', R', A5, c5, d5, b5, by omega, by go_num, rfl, by have := HCr.out.1; omega, by have := HCr.out.2; omega, SW.out, Dy.out, Vy.out, My.out, L5.out, hgy, By.out, hdg.1, hdg.2.1, hdg.2.2.1, hdg.2.2.2⟩
            case measure => omega
        · obtain rfl : j = m := by omega
          go_wp2_with fail
          go_ret
          exact ⟨rfl, HB.out⟩
end Go.Proofs.YtnbagklgagomfaaDoor
