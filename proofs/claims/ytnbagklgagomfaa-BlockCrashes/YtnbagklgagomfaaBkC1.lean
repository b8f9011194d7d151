/-
  BlockCrashes, walked: behind a crash at any step, torn anywhere, each block is as the writes that weren't refused left it, but one.
-/
import Derived.Test.YtnbagklgagomfaaBkU
import Derived.Test.YtnbagklgagomfaaBkB1
namespace Go.Proofs.Ytnbagklgagomfaa
open Go.RowKit Go.Lib
set_option linter.unusedVariables false
set_option linter.unusedSimpArgs false

/-- How many blocks are unlike. -/
def cntB (B B' : Nat → List UInt8) : Nat → Nat
  | 0 => 0
  | k + 1 => cntB B B' k + if B k = B' k then 0 else 1
theorem cnt_le (B B' : Nat → List UInt8) (r : Nat) (h : ∀ i, i ≠ r → B' i = B i) : ∀ k, cntB B B' k ≤ (if r < k then 1 else 0)
  | 0 => by simp [cntB]
  | k + 1 => by
    have ih := cnt_le B B' r h k
    rw [cntB]
    by_cases e : k = r
    · subst e
      rw [if_neg (Nat.lt_irrefl k)] at ih
      rw [if_pos (show k < k + 1 by omega)]
      split <;> omega
    · rw [if_pos (h k e).symm]
      split at ih <;> split <;> omega
theorem cnt_same (B B' : Nat → List UInt8) (h : ∀ i, B' i = B i) : ∀ k, cntB B B' k = 0
  | 0 => rfl
  | k + 1 => by rw [cntB, cnt_same B B' h k, if_pos (h k).symm]
theorem cnt_crash (S : St) (torn : Int) : cntB S.B (crashSt S torn).B 8 ≤ 1 ∧ (cntB S.B (crashSt S torn).B 8 = 0 ∨ S.de = true) := by
  by_cases hd : S.de = true
  · refine ⟨?_, .inr hd⟩
    have := cnt_le S.B (crashSt S torn).B S.ra (fun i hi => crash_one S torn i (fun _ => hi)) 8
    split at this <;> omega
  · have := cnt_same S.B (crashSt S torn).B (fun i => crash_one S torn i (fun h => absurd h hd)) 8
    omega
theorem cnt_le9 (B B' : Nat → List UInt8) : ∀ k, cntB B B' k ≤ k
  | 0 => Nat.le_refl _
  | k + 1 => by
    have := cnt_le9 B B' k
    rw [cntB]
    split <;> omega
def CrRel (w : World) (d bk gV m : Nat) (kk : Nat) (i : Value) (wr : World) : Prop :=
  ∃ (j : Nat) (S : St) (R : RD) (A : Option Addr) (c : Nat), j + kk = m ∧ i = .int .i64 (j : Int) ∧ S.n = 8 ∧ S.st ≤ j ∧ R.ws.length ≤ j ∧ Sim S R ∧ Dk wr d bk S ∧ HdD wr gV (rcs R A c) ∧ Rm wr A c R.ws ∧ R.rf.b.length = 64 ∧ gV < wr.heap.size ∧ Below w.heap.size w wr
def CrRel2 (w W : World) (d bk d5 b5 : Nat) (S S5 : St) (kk : Nat) (u i : Value) (wr : World) : Prop :=
  ∃ (j : Nat), j + kk = 8 ∧ i = .int .i64 (j : Int) ∧ u = .int .i64 ((cntB S.B S5.B j : Nat) : Int) ∧ Below W.heap.size W wr
set_option maxRecDepth 100000 in
set_option maxHeartbeats 8000000 in
theorem lawCrashes_any (L : Option Addr) (m cl : Nat) (f : Nat) (torn : Int) (w : World) (hf : f ≤ 255) (hL : Acts w L m) (hml : m ≤ cl) (hcl : cl ≤ maxLen) :
    Calls Try.prog 3 #[.slice L m cl, .int .u8 (f : Int), .int .i64 torn] w fun e w' => e = .returned (.bool true) ∧ Below w.heap.size w w' := by
  have HA := Lib.hid hL
  have HF := Lib.hid (fun W (hW : Below w.heap.size w W) => few_acts W L m cl (hL.keep hW) hml hcl)
  have HAw := Lib.hid (fun (W : World) (hW : Below w.heap.size w W) => awake_blk W)
  unfold maxLen at hcl
  have wf : IntKind.i64.wrap (f : Int) = (f : Int) := IntWalk.i64_in _ (by omega)
  clear hL
  go_enter Try.func3, Try.ntmps3
  go_wp2_with fail
  refine (awake_blk w).mono ?_
  rintro e W0 ⟨rfl, hb0⟩
  have B0 := Lib.hid hb0
  clear hb0
  go_wp2_with fail
  refine (HF.out W0 B0.out).mono ?_
  rintro e W1 ⟨r, rfl, hr, hb1⟩
  have B1 := Lib.hid (B0.out.trans (hb1.mono B0.out.size))
  have HR := Lib.hid hr
  clear hb1 hr
  cases r with
  | false =>
    go_wp2_with fail
    refine (HAw.out W1 B1.out).mono ?_
    rintro e W2 ⟨rfl, hb2⟩
    have B2 := Lib.hid (B1.out.trans (hb2.mono B1.out.size))
    clear hb2
    go_wp2_with fail
    go_ret
    exact ⟨rfl, B2.out⟩
  | true =>
    have hm40 : m ≤ 40 := (HR.out rfl).1
    go_wp2_with fail
    refine (new_yes W1 8 (by decide) (by decide)).mono ?_
    rintro e W2 ⟨rfl, hD2, hb2⟩
    have D2 := Lib.hid hD2
    have B2 := Lib.hid (B1.out.trans (hb2.mono B1.out.size))
    have hs0 := B1.out.size
    clear hD2 hb2
    go_wp2_with fail
    refine (refNew_any W2 8 (by decide) (by decide)).mono ?_
    rintro e W3 ⟨v3, rfl, ⟨A3, c3, rfl, hm3, hl3⟩, hb3⟩
    have D3 := Lib.hid (D2.out.below hb3)
    have B3 := Lib.hid (B2.out.trans (hb3.mono B2.out.size))
    have M3 := Lib.hid hm3
    clear hm3 hb3 hl3
    obtain ⟨bk, hbk⟩ : ∃ bk, W1.heap.size = bk := ⟨_, rfl⟩
    rw [hbk] at D3 hs0 ⊢
    clear hbk B1 D2 B2
    go_wp2_with (first | ((with_reducible refine at_slot 9 ?_); refine wpList_allocH rfl 35 rfl _ zero_D ?_; intro W4 HW4; have DW4 := Lib.hid (show HdD W4 W3.heap.size (rcs zR none 0) by rw [HW4.out]; exact hd_new W3 _ _); have BW4 := Lib.hid (show Below W3.heap.size W3 W4 by rw [HW4.out]; exact new_below W3 _); have zW4 := Lib.hid (show W4.heap.size = W3.heap.size + 1 by rw [HW4.out, new_size])) | ((with_reducible refine at_store 35 ?_); refine wpList_storeH rfl 35 _ _ rfl _ _ _ rfl rfl ?_ ?_ (all_oneCell_toArray (rcs_one _ _ _)) ?_; (focus ((have t := DW4.out.th; rw [rcs_len (show zR.rf.b.length = 64 from rfl)] at t; rw [rcs_size (newR_len 8)]; exact t))); (focus (rw [size_D, rcs_size (newR_len 8)])); intro W5 HW5))
    have hbelow5 : Below W3.heap.size W3 W5 := by rw [HW5.out]; exact below_setCells BW4.out (Nat.le_refl _) _ _
    have V5 := Lib.hid (show HdD W5 W3.heap.size (rcs (newR 8) A3 c3) by rw [HW5.out]; exact DW4.out.all (by rw [rcs_len (newR_len 8), rcs_len (R := zR) rfl]))
    have D5 := Lib.hid (D3.out.below hbelow5)
    have M5 := Lib.hid (M3.out.keep hbelow5)
    have B5 := Lib.hid (B3.out.trans (hbelow5.mono B3.out.size))
    have hg5 : W3.heap.size < W5.heap.size := by rw [HW5.out, size_setCells]; have := zW4.out; omega
    have hgd : bk + 1 < W3.heap.size := D3.out.ld
    obtain ⟨gV, hgV⟩ : ∃ g, W3.heap.size = g := ⟨_, rfl⟩
    rw [hgV] at V5 hg5 hgd ⊢
    have HgV := Lib.hid (show w.heap.size ≤ gV by rw [← hgV]; exact B3.out.size)
    clear hgV hbelow5 HW5 HW4 DW4 BW4 zW4 D3 M3 B3
    have ha := arm_any W5 _ _ _ D5.out (f : Int) (by omega)
    rw [show arSt (newSt 8) (f : Int) = ({ newSt 8 with fu := true, lf := f }, 0) by simp [arSt, newSt]] at ha
    refine ha.mono ?_
    clear ha
    rintro e W6 ⟨rfl, hD6, ho6⟩
    have D6 := Lib.hid hD6
    have B6 := Lib.hid (ho6.on B5.out (by omega) (by omega))
    have V6 := Lib.hid (V5.out.same (ho6.2.1 gV hg5 (by omega) (by omega)))
    have M6 := Lib.hid (M5.out.oth D5.out ho6)
    have hg6 : gV < W6.heap.size := Nat.lt_of_lt_of_le hg5 ho6.1
    clear hD6 ho6 hg5
    simp only [errV0]
    go_wp2_with (first | ((with_reducible refine at_slot 50 ?_); refine wpList_load_mid rfl 35 _ rfl _ _ rfl (rcs (newR 8) A3 c3) _ V6.out.1 Try.underlying35 rfl ?_ ?_; (rw [size_D, rcs_len (newR_len 8)])))
    refine (refArm_any W6 _ (newR 8) ⟨A3, c3, rfl, M6.out, newR_len 8⟩ (f : Int)).mono ?_
    rintro e W7 ⟨v7, rfl, ⟨A7, c7, rfl, hm7, hl7⟩, hb7⟩
    have har : (arR (newR 8) (f : Int)).1 = { newR 8 with fu := (f : Int) } := by unfold arR; rw [if_neg (by omega), if_neg (by simp [newR])]
    rw [har] at hm7 hl7 ⊢
    have M7 := Lib.hid hm7
    have V7 := Lib.hid (V6.out.keep hg6 hb7)
    have D7 := Lib.hid (D6.out.below hb7)
    have B7 := Lib.hid (B6.out.trans (hb7.mono B6.out.size))
    have hg7 : gV < W7.heap.size := Nat.lt_of_lt_of_le hg6 hb7.size
    clear hm7 hb7 hl7 har
    go_wp2_with (first | ((with_reducible refine at_store 35 ?_); refine wpList_storeH rfl 35 _ _ rfl _ _ _ rfl rfl ?_ ?_ (all_oneCell_toArray (rcs_one _ _ _)) ?_; (focus ((have t := V7.out.th; rw [rcs_len (newR_len 8)] at t; rw [rcs_size (show ({ newR 8 with fu := (f : Int) } : RD).rf.b.length = 64 from newR_len 8)]; exact t))); (focus (rw [size_D, rcs_size (show ({ newR 8 with fu := (f : Int) } : RD).rf.b.length = 64 from newR_len 8)])); intro W8 HW8))
    have V8 := Lib.hid (show HdD W8 gV (rcs { newR 8 with fu := (f : Int) } A7 c7) by rw [HW8.out]; exact V7.out.all (by rw [rcs_len (show ({ newR 8 with fu := (f : Int) } : RD).rf.b.length = 64 from newR_len 8), rcs_len (newR_len 8)]))
    have O8 : Oth gV gV W7 W8 := by rw [HW8.out]; exact (Oth.refl gV gV W7).puts gV (Or.inl rfl) _ 0
    have D8 := Lib.hid (D7.out.oth O8 (by omega) (by omega) (by omega) (by omega))
    have M8 := Lib.hid (M7.out.var V7.out (newR_len 8) HW8.out)
    have B8 := Lib.hid (O8.on B7.out HgV.out HgV.out)
    have hg8 : gV < W8.heap.size := Nat.lt_of_lt_of_le hg7 O8.1
    have S8 := Lib.hid (show Sim { newSt 8 with fu := true, lf := f } { newR 8 with fu := (f : Int) } from ⟨rfl, rfl, rfl, fun _ _ => rfl, by simp, (fun h => by cases h), fun _ => rfl⟩)
    clear O8 HW8 D7 V7 M7 B7 hg7 hg6 D6 V6 M6 B6 D5 V5 M5 B5
    go_loopg [58] m (CrRel w (bk + 1) bk gV m)
    case atStart => exact ⟨0, _, _, A7, c7, by omega, rfl, rfl, Nat.le_refl _, Nat.le_refl _, S8.out, D8.out, V8.out, M8.out, newR_len 8, hg8, B8.out⟩
    case round =>
      obtain ⟨j, S, R, A, c, hk, rfl, hn, hst, hws, hS, hD, hV, hM, hrl, hgw, hB⟩ := hrel
      have HD := Lib.hid hD
      have HV := Lib.hid hV
      have HM := Lib.hid hM
      have HB := Lib.hid hB
      have HS := Lib.hid hS
      have HRL := Lib.hid hrl
      have HN := Lib.hid hn
      clear hD hV hM hB hS hrl hn
      by_cases hlt : j < m
      · obtain ⟨b, off, rfl, hacts⟩ := HA.out (by omega)
        obtain ⟨kd, k, B', x', c', h0, h1, h2, hbt, -, -, -, -⟩ := hacts j hlt
        have hbl : b < w.heap.size := block_lt_of_cell h0
        have HBt := Lib.hid (hbt.keep (HB.out.alloc HB.out.size (.cells #[.int .u8 kd, .int .i64 k, .slice B' x'.length c'] 42)))
        have HBt0 := Lib.hid hbt
        have k0 : wr.cell? ⟨b, off + j * 3, none⟩ = some (.int .u8 kd) := (HB.out.cell (p := ⟨b, off + j * 3, none⟩) hbl).trans h0
        have k1 : wr.cell? ⟨b, off + j * 3 + 1, none⟩ = some (.int .i64 k) := (HB.out.cell (p := ⟨b, off + j * 3 + 1, none⟩) hbl).trans h1
        have k2 : wr.cell? ⟨b, off + j * 3 + 2, none⟩ = some (.slice B' x'.length c') := (HB.out.cell (p := ⟨b, off + j * 3 + 2, none⟩) hbl).trans h2
        obtain ⟨l', hl'⟩ : ∃ l', l' = x'.length := ⟨_, rfl⟩
        have HL' := Lib.hid hl'
        rw [← hl'] at k2 HBt
        clear h0 h1 h2 hbt hl' hacts
        go_wp2_with fail
        have hE := HD.out.below (new_below wr (.cells #[.int .u8 kd, .int .i64 k, .slice B' l' c'] 42))
        have HE := Lib.hid hE
        have ha := write_any _ _ _ _ hE k B' x' l' c' HL'.out HBt.out (by omega)
        refine ha.mono ?_
        clear ha hE
        rintro e W3 ⟨rfl, hD3, ho3⟩
        have hwz : wr.heap.size < W3.heap.size := Nat.lt_of_lt_of_le (by rw [new_size]; exact Nat.lt_succ_self _) ho3.1
        have D3 := Lib.hid hD3
        have B3 := Lib.hid (ho3.on (HB.out.alloc HB.out.size _) (by omega) (by omega))
        have hnb := HD.out.ld
        have hgk : wr.heap.size ≠ bk + 1 ∧ wr.heap.size ≠ bk ∧ gV ≠ bk + 1 ∧ gV ≠ bk := by omega
        have hblk : W3.heap[wr.heap.size]? = (wr.alloc (.cells #[.int .u8 kd, .int .i64 k, .slice B' l' c'] 42)).heap[wr.heap.size]? := ho3.2.1 _ (by rw [new_size]; exact Nat.lt_succ_self _) hgk.1 hgk.2.1
        have c1 : W3.cell? ⟨wr.heap.size, 1, none⟩ = some (.int .i64 k) := (World.cell?_of_block (a := ⟨wr.heap.size, 1, none⟩) hblk).trans (by rw [World.cell?_alloc_new]; rfl)
        have c2 : W3.cell? ⟨wr.heap.size, 2, none⟩ = some (.slice B' l' c') := (World.cell?_of_block (a := ⟨wr.heap.size, 2, none⟩) hblk).trans (by rw [World.cell?_alloc_new]; rfl)
        have V3 := Lib.hid ((HV.out.keep hgw (new_below wr (.cells #[.int .u8 kd, .int .i64 k, .slice B' l' c'] 42))).same (ho3.2.1 gV (by rw [new_size]; omega) hgk.2.2.1 hgk.2.2.2))
        have M3 := Lib.hid ((HM.out.keep (new_below wr (.cells #[.int .u8 kd, .int .i64 k, .slice B' l' c'] 42))).oth HE.out ho3)
        have hg3 : gV < W3.heap.size := by omega
        clear hD3 ho3 hblk HE k0 k1 k2
        go_wp2_with (first | ((with_reducible refine at_slot 69 ?_); refine wpList_load_mid rfl 35 _ rfl _ _ rfl (rcs R A c) _ V3.out.1 Try.underlying35 rfl ?_ ?_; (rw [size_D, rcs_len HRL.out])))
        have hfu := sim_fu HS.out HD.out.lfb
        refine (refWrite_any W3 _ R ⟨A, c, rfl, M3.out, HRL.out⟩ k B' x' l' c' HL'.out (HBt0.out.keep B3.out) hfu (by rw [HS.out.st]; omega) (by omega)).mono ?_
        clear hfu
        rintro e W4 ⟨v4, rfl, ⟨A4, c4, rfl, hm4, hl4⟩, hb4⟩
        have D4 := Lib.hid (D3.out.below hb4)
        have V4 := Lib.hid (V3.out.keep hg3 hb4)
        have M4 := Lib.hid hm4
        have L4 := Lib.hid hl4
        have B4 := Lib.hid (B3.out.trans (hb4.mono B3.out.size))
        have hg4 : gV < W4.heap.size := Nat.lt_of_lt_of_le hg3 hb4.size
        obtain ⟨sw1, sw2⟩ := sim_write HS.out (fun i hi => (HD.out.hb.1 i hi).2) k x'
        have SW := Lib.hid sw1
        have hn' := (wr_n S k x').1
        have hst' := (wr_n S k x').2
        have hws' := wrR_len R k x'
        have HWr := Lib.hid (And.intro hn' (And.intro hst' hws'))
        obtain ⟨S', hS'⟩ : ∃ S', (wrSt S k x').1 = S' := ⟨_, rfl⟩
        obtain ⟨R', hR'⟩ : ∃ R', (wrR R k x').1 = R' := ⟨_, rfl⟩
        rw [hS'] at SW D4 HWr
        rw [hR'] at SW M4 L4 HWr ⊢
        clear hm4 hl4 hb4 sw1 sw2 hn' hst' hws' hS' hR' c1 c2 D3 V3 M3 B3 hg3
        go_wp2_with (first | ((with_reducible refine at_store 35 ?_); refine wpList_storeH rfl 35 _ _ rfl _ _ _ rfl rfl ?_ ?_ (all_oneCell_toArray (rcs_one _ _ _)) ?_; (focus ((have t := V4.out.th; rw [rcs_len (HRL.out)] at t; rw [rcs_size (L4.out)]; exact t))); (focus (rw [size_D, rcs_size (L4.out)])); intro W6 HW6))
        have V6 := Lib.hid (show HdD W6 gV (rcs R' A4 c4) by rw [HW6.out]; exact V4.out.all (by rw [rcs_len L4.out, rcs_len HRL.out]))
        have O6 : Oth gV gV W4 W6 := by rw [HW6.out]; exact (Oth.refl gV gV W4).puts gV (Or.inl rfl) _ 0
        have D6 := Lib.hid (D4.out.oth O6 (by omega) (by omega) (by omega) (by omega))
        have M6 := Lib.hid (M4.out.var V4.out HRL.out HW6.out)
        have B6 := Lib.hid (O6.on B4.out HgV.out HgV.out)
        have hg6 : gV < W6.heap.size := Nat.lt_of_lt_of_le hg4 O6.1
        clear O6 HW6 HBt HBt0
        go_roundg (m - (j + 1))
        case rel => exact ⟨j + 1, S', R', A4, c4, by omega, by go_num, HWr.out.1.trans HN.out, by have := HWr.out.2.1; omega, by have := HWr.out.2.2; omega, SW.out, D6.out, V6.out, M6.out, L4.out, hg6, B6.out⟩
        case measure => omega
      · obtain rfl : j = m := by omega
        have hfu := sim_fu HS.out HD.out.lfb
        go_wp2_with fail
        refine (crash_any wr _ _ S HD.out torn).mono ?_
        rintro e W3 ⟨d5, b5, rfl, hd5, hb5, hD3, hb3⟩
        have D3 := Lib.hid (HD.out.below hb3)
        have C3 := Lib.hid hD3
        have V3 := Lib.hid (HV.out.keep hgw hb3)
        have M3 := Lib.hid (HM.out.keep hb3)
        have B3 := Lib.hid (HB.out.trans (hb3.mono HB.out.size))
        have hg3 : gV < W3.heap.size := Nat.lt_of_lt_of_le hgw hb3.size
        have SC := Lib.hid (sim_crash HS.out (fun i hi => (HD.out.hb.1 i hi).2) HD.out.l6 torn)
        clear hD3 hb3 hfu
        go_wp2_with (first | ((with_reducible refine at_slot 82 ?_); refine wpList_load_mid rfl 35 _ rfl _ _ rfl (rcs R A c) _ V3.out.1 Try.underlying35 rfl ?_ ?_; (rw [size_D, rcs_len HRL.out])))
        refine (refCrash_any W3 _ R ⟨A, c, rfl, M3.out, HRL.out⟩ torn (by omega)).mono ?_
        rintro e W4 ⟨v4, rfl, hv4, hb4⟩
        have D4 := Lib.hid (D3.out.below hb4)
        have C4 := Lib.hid (C3.out.below hb4)
        have V4 := Lib.hid (V3.out.keep hg3 hb4)
        have M4 := Lib.hid (M3.out.keep hb4)
        have B4 := Lib.hid (B3.out.trans (hb4.mono B3.out.size))
        have R4 := Lib.hid hv4
        have hg4 : gV < W4.heap.size := Nat.lt_of_lt_of_le hg3 hb4.size
        have hcl4 : (crashR R torn).ws.length ≤ 900000 := by
          unfold crashR
          split
          · rw [List.length_append]
            show R.ws.length + 1 ≤ 900000
            omega
          · show R.ws.length ≤ 900000
            omega
        clear hv4 hb4 D3 C3 V3 M3 B3 hg3
        go_wp2_with fail
        refine (is_any W4 d5 b5 _ v4 _ C4.out R4.out SC.out hcl4).mono ?_
        rintro e W5 ⟨rfl, hb5'⟩
        have D5 := Lib.hid (D4.out.below hb5')
        have C5 := Lib.hid (C4.out.below hb5')
        have V5 := Lib.hid (V4.out.keep hg4 hb5')
        have M5 := Lib.hid (M4.out.keep hb5')
        have B5 := Lib.hid (B4.out.trans (hb5'.mono B4.out.size))
        clear hb5' D4 C4 V4 M4 B4 R4 hcl4
        go_wp2_with (first | ((with_reducible refine at_slot 89 ?_); refine wpList_loadG (by rfl) 35 _ rfl _ _ rfl (rcs R A c) _ V5.out.1 Try.underlying35 rfl ?_ ?_; (rw [size_D, rcs_len HRL.out])))
        refine (is_any W5 (bk + 1) bk S _ R D5.out ⟨A, c, rfl, M5.out, HRL.out⟩ HS.out (by omega)).mono ?_
        rintro e W6 ⟨rfl, hb6⟩
        have D6 := Lib.hid (D5.out.below hb6)
        have C6 := Lib.hid (C5.out.below hb6)
        have B6 := Lib.hid (B5.out.trans (hb6.mono B5.out.size))
        clear hb6 D5 C5 V5 M5 B5
        go_wp2_with fail
        have hd := dead_disk W6 d5 b5 _ C6.out
        rw [show (crashSt S torn).de = false from rfl] at hd
        refine hd.mono ?_
        clear hd
        rintro e w' ⟨rfl, rfl⟩
        go_wp2_with fail
        have HC := Lib.hid (cnt_crash S torn)
        have hC5n : (crashSt S torn).n = 8 := HN.out
        have HCn := Lib.hid hC5n
        clear hC5n HS SC
        obtain ⟨S5, hS5⟩ : ∃ S5, crashSt S torn = S5 := ⟨_, rfl⟩
        have HF5 := Lib.hid (show FreeSt 0 (crashSt S torn) from ⟨HN.out, rfl, rfl, Nat.le_refl _⟩)
        rw [hS5] at HC HCn C6 HF5
        clear hS5
        go_loopg [14, 97] 8 (CrRel2 w W6 (bk + 1) bk d5 b5 S S5)
        case atStart => exact ⟨0, rfl, rfl, rfl, Below.refl _ _⟩
        case round =>
          obtain ⟨i, hki, rfl, rfl, hB7⟩ := hrel
          have HB7 := Lib.hid hB7
          clear hB7
          by_cases hi8 : i < 8
          · go_wp2_with fail
            refine (read_yes _ _ _ _ (D6.out.below HB7.out) i (by rw [HN.out]; exact hi8)).mono ?_
            rintro e W7 ⟨rfl, hr7, hb7⟩
            have hlen : (S.B i).length = 64 := (D6.out.hb.1 i (by rw [HN.out]; exact hi8)).2
            have HR7 := Lib.hid hr7
            have HLen := Lib.hid hlen
            have hgA := block_lt_of_cell (hr7 0 _ (List.getElem?_eq_getElem (by rw [bcs_len, hlen]; omega)))
            have B7 := Lib.hid (HB7.out.trans (hb7.mono HB7.out.size))
            clear hr7 hb7 hlen
            go_wp2_with fail
            refine (read_yes _ _ _ _ (C6.out.below B7.out) i (by rw [HCn.out]; exact hi8)).mono ?_
            rintro e W8' ⟨rfl, hr8, hb8⟩
            have hlen5 : (S5.B i).length = 64 := (C6.out.hb.1 i (by rw [HCn.out]; exact hi8)).2
            have hs1 := conv_bytes W8' _ 0 64 64 (S.B i) HLen.out.symm (rangeAt_of HR7.out (hb8.block _ hgA))
            have hs2 := conv_bytes W8' _ 0 64 64 (S5.B i) hlen5.symm hr8
            have B8' := Lib.hid (B7.out.trans (hb8.mono B7.out.size))
            have hcl := cnt_le9 S.B S5.B i
            obtain ⟨cn, hcn⟩ : ∃ cn, cntB S.B S5.B i = cn := ⟨_, rfl⟩
            rw [hcn] at hcl ⊢
            have HCN := Lib.hid hcn
            clear hr8 hb8 hlen5 hgA hcn
            by_cases he : S.B i = S5.B i
            · rw [← he] at hs2
              obtain ⟨T, hT⟩ : ∃ T, (⟨(S.B i).toArray⟩ : ByteArray) = T := ⟨_, rfl⟩
              rw [hT] at hs1 hs2
              have HE := Lib.hid he
              clear hT he
              go_wp2_with fail
              go_roundg (8 - (i + 1))
              case rel => exact ⟨i + 1, by omega, by go_num, by rw [cntB, if_pos HE.out, HCN.out]; rfl, B8'.out⟩
              case measure => omega
            · have hne : ¬ (⟨(S.B i).toArray⟩ : ByteArray).toList = (⟨(S5.B i).toArray⟩ : ByteArray).toList := fun h => he (by simpa [Go.ByteArray.toList_eq] using h)
              obtain ⟨T, hT⟩ : ∃ T, (⟨(S.B i).toArray⟩ : ByteArray) = T := ⟨_, rfl⟩
              obtain ⟨T', hT'⟩ : ∃ T', (⟨(S5.B i).toArray⟩ : ByteArray) = T' := ⟨_, rfl⟩
              rw [hT] at hs1 hne
              rw [hT'] at hs2 hne
              have HE := Lib.hid he
              have hne1 : decide (T.toList = T'.toList) = false := decide_eq_false hne
              have hne2 : (T.toList == T'.toList) = false := by simpa using hne
              clear hT hT' he
              go_wp2_with fail
              go_roundg (8 - (i + 1))
              case rel => exact ⟨i + 1, by omega, by go_num, by rw [cntB, if_neg HE.out, HCN.out]; go_num, B8'.out⟩
              case measure => omega
          · obtain rfl : i = 8 := by omega
            have hc1 := HC.out.1
            have hc2 := HC.out.2
            obtain ⟨cn, hcn⟩ : ∃ cn, cntB S.B S5.B 8 = cn := ⟨_, rfl⟩
            rw [hcn] at hc1 hc2 ⊢
            have hd1 := dead_disk wr _ _ S (D6.out.below HB7.out)
            have HD1 := Lib.hid hd1
            have ha := write_any _ _ _ _ ((C6.out.below HB7.out).below (new_below wr (.cells #[.int .u8 120] 5 (1, 2)))) 0 (some ⟨wr.heap.size, 0, none⟩) [120] 1 1 rfl (bt_new rfl) (by have := HF5.out.2.2.2; omega)
            rw [show (0 : Int) = ((0 : Nat) : Int) from rfl, wr_free HF5.out (k := 0) (by decide) (by decide)] at ha
            have HWA := Lib.hid ha
            have hcv := fun (w : World) (C : Array Value) (n c : Nat) => Lib.run_convert_bytes_const (P := Try.prog) w 40 5 C n c (by kernel_rfl) (by kernel_rfl)
            clear hcn hd1 ha
            have BB := Lib.hid (B6.out.trans (HB7.out.mono B6.out.size))
            have hdw : w.heap.size ≤ d5 ∧ w.heap.size ≤ b5 := by have := HB.out.size; omega
            by_cases h0 : cn = 0
            · subst h0
              go_wp2_with fail
              refine HWA.out.mono ?_
              rintro e W9 ⟨rfl, -, ho9⟩
              have B9 := Lib.hid (ho9.on (BB.out.alloc BB.out.size _) hdw.1 hdw.2)
              clear ho9
              simp only [errV0]
              go_wp2_with fail
              go_ret
              exact ⟨rfl, B9.out⟩
            · have hde : S.de = true := hc2.resolve_left h0
              have hcn1 : cn = 1 := by omega
              subst hcn1
              rw [hde] at HD1
              go_wp2_with fail
              refine HD1.out.mono ?_
              rintro e w' ⟨rfl, rfl⟩
              go_wp2_with fail
              refine HWA.out.mono ?_
              rintro e W9 ⟨rfl, -, ho9⟩
              have B9 := Lib.hid (ho9.on (BB.out.alloc BB.out.size _) hdw.1 hdw.2)
              clear ho9
              simp only [errV0]
              go_wp2_with fail
              go_ret
              exact ⟨rfl, B9.out⟩
end Go.Proofs.Ytnbagklgagomfaa
