/-
  BlockFuse, walked: of as many writes as are asked just so many as the fuse has aren't refused.
-/
import Derived.Test.YtlgkopcadbifmaaBk8
import Derived.Deep.LoopGhost
namespace Go.Proofs.Ytlgkopcadbifmaa
open Go.RowKit Go.Lib
set_option linter.unusedVariables false
set_option linter.unusedSimpArgs false

/-- A disk with a fuse of f steps, behind j writes. -/
def FuseSt (f j : Nat) (S : St) : Prop := S.n = 3 ∧ S.fu = true ∧ S.st = min f j ∧ S.lf = f - min f j ∧ S.de = decide (f < j)
theorem fuse_step {f j : Nat} {S : St} (h : FuseSt f j S) (k : Nat) (hk : k < 3) (b : UInt8) : FuseSt f (j + 1) (wrSt S (k : Int) [b]).1 ∧ (wrSt S (k : Int) [b]).2 = if j < f then 0 else 19 := by
  obtain ⟨h1, h2, h3, h4, h5⟩ := h
  have hb : hasB S.n (k : Int) = true := by simp [hasB]; omega
  unfold wrSt
  rw [if_neg (by simp [hb]), if_neg (by simp), h5]
  by_cases hj : f < j
  · rw [if_pos (by simpa using hj)]
    refine ⟨⟨h1, h2, by show S.st = _; omega, by show S.lf = _; omega, by show S.de = _; rw [h5]; simp; omega⟩, by rw [if_neg (by omega)]⟩
  · rw [if_neg (by simpa using hj)]
    by_cases hz : S.lf = 0
    · rw [if_pos ⟨h2, hz⟩]
      refine ⟨⟨h1, h2, by show S.st = _; omega, by show S.lf = _; omega, by show true = _; simp; omega⟩, by rw [if_neg (by omega)]⟩
    · rw [if_neg (fun h => hz h.2)]
      refine ⟨⟨h1, h2, by show S.st + 1 = _; omega, by show (if S.fu = true then S.lf - 1 else S.lf) = _; rw [h2, if_pos rfl]; omega, by show decide (f < j) = _; simp; omega⟩, by show (0 : Nat) = _; rw [if_pos (by omega)]⟩
def FuseRel (w : World) (f d bk m : Nat) (kk : Nat) (dn i : Value) (wr : World) : Prop :=
  ∃ (j : Nat) (S : St), j + kk = m ∧ i = .int .i64 (j : Int) ∧ dn = .int .i64 ((min f j : Nat) : Int) ∧ FuseSt f j S ∧ Dk wr d bk S ∧ Below w.heap.size w wr

set_option maxRecDepth 100000 in
set_option maxHeartbeats 2000000 in
theorem lawFuse_any (f m : Nat) (hf : f ≤ 255) (hm : m ≤ 255) (w : World) : Calls Try.prog 4 #[.int .u8 (f : Int), .int .u8 (m : Int)] w fun e w' => e = .returned (.bool true) ∧ Below w.heap.size w w' := by
  have wf : IntKind.i64.wrap (f : Int) = (f : Int) := IntWalk.i64_in _ (by omega)
  have wm : IntKind.i64.wrap (m : Int) = (m : Int) := IntWalk.i64_in _ (by omega)
  go_enter Try.func4, Try.ntmps4
  go_wp2_with fail
  refine (awake_blk w).mono ?_
  rintro e W0 ⟨rfl, hb0⟩
  have B0 := Lib.hid hb0
  clear hb0
  go_wp2_with fail
  refine (new_yes W0 3 (by decide) (by decide)).mono ?_
  rintro e W1 ⟨rfl, hD1, hb1⟩
  have D1 := Lib.hid hD1
  have B1 := Lib.hid (B0.out.trans (hb1.mono B0.out.size))
  clear hD1 hb1
  go_wp2_with fail
  have ha := arm_any W1 _ _ _ D1.out (f : Int) (by omega)
  rw [show arSt (newSt 3) (f : Int) = ({ newSt 3 with fu := true, lf := f }, 0) by simp [arSt, newSt]] at ha
  refine ha.mono ?_
  clear ha
  rintro e W2 ⟨rfl, hD2, ho2⟩
  have hs0 := B0.out.size
  have D2 := Lib.hid hD2
  have B2 := Lib.hid (ho2.on B1.out (by omega) (by omega))
  clear hD2 ho2
  simp only [errV0]
  go_wp2_with fail
  obtain ⟨bk, hbk⟩ : ∃ bk, W0.heap.size = bk := ⟨_, rfl⟩
  rw [hbk] at D2 hs0 ⊢
  clear hbk D1 B1 B0
  go_loopg [7, 31] m (FuseRel w f (bk + 1) bk m)
  case atStart => exact ⟨0, { newSt 3 with fu := true, lf := f }, by omega, rfl, by simp, ⟨rfl, rfl, by simp [newSt], by simp, by simp [newSt]⟩, D2.out, B2.out⟩
  case round =>
    obtain ⟨j, S, hk, rfl, rfl, hS, hD, hB⟩ := hrel
    have HD := Lib.hid hD
    have HB := Lib.hid hB
    have HS := Lib.hid hS
    clear hD hB hS
    by_cases hlt : j < m
    · have hst := HS.out.2.2.1
      have hwr := fun b => fuse_step HS.out (j % 3) (by omega) b
      go_wp2_with fail
      have hcs : (#[Value.int .u8 (j : Int)] : Array Value).toList = bcs [UInt8.ofNat j] := by simp [bcs]; omega
      have ha := write_any _ _ _ _ (HD.out.below (new_below wr (.cells #[.int .u8 (j : Int)] 5))) ((j : Int) % 3) (some ⟨wr.heap.size, 0, none⟩) [UInt8.ofNat j] 1 1 rfl (bt_new hcs) (by omega)
      have hw3 := hwr (UInt8.ofNat j)
      rw [show ((j % 3 : Nat) : Int) = (j : Int) % 3 by omega] at hw3
      obtain ⟨S', c, hSc⟩ : ∃ S' c, wrSt S ((j : Int) % 3) [UInt8.ofNat j] = (S', c) := ⟨_, _, rfl⟩
      rw [hSc] at ha hw3
      have HS' := Lib.hid hw3.1
      have hc : c = if j < f then 0 else 19 := hw3.2
      have HA := Lib.hid ha
      clear ha hw3 hSc hwr hcs
      by_cases hjf : j < f
      · rw [if_pos hjf] at hc
        subst hc
        refine HA.out.mono ?_
        rintro e W3 ⟨rfl, hD3, ho3⟩
        have D3 := Lib.hid hD3
        have B3 := Lib.hid (ho3.on (HB.out.alloc HB.out.size _) (by omega) (by omega))
        clear hD3 ho3 hst
        simp only [errV0]
        go_wp2_with fail
        go_roundg (m - (j + 1))
        case rel => exact ⟨j + 1, S', by omega, by go_num, by rw [show min f (j + 1) = min f j + 1 by omega]; go_num, HS'.out, D3.out, B3.out⟩
        case measure => omega
      · rw [if_neg hjf] at hc
        subst hc
        refine HA.out.mono ?_
        rintro e W3 ⟨rfl, hD3, ho3⟩
        have D3 := Lib.hid hD3
        have B3 := Lib.hid (ho3.on (HB.out.alloc HB.out.size _) (by omega) (by omega))
        clear hD3 ho3 hst
        simp only [errV19]
        go_wp2_with fail
        refine (is_self 19 W3).mono ?_
        rintro e w' ⟨rfl, rfl⟩
        go_wp2_with fail
        go_roundg (m - (j + 1))
        case rel => exact ⟨j + 1, S', by omega, by go_num, by rw [show min f (j + 1) = min f j by omega], HS'.out, D3.out, B3.out⟩
        case measure => omega
    · obtain rfl : j = m := by omega
      have hst := HS.out.2.2.1
      have hde := HS.out.2.2.2.2
      have h1 := steps_disk wr _ _ S HD.out
      have h2 := dead_disk wr _ _ S HD.out
      rw [hst] at h1
      rw [hde] at h2
      have H1 := Lib.hid h1
      have H2 := Lib.hid h2
      clear h1 h2 hst hde
      have hmin : min (f : Int) (j : Int) = ((min f j : Nat) : Int) := by omega
      go_wp2_with (first | (go_at_call 20; refine (H1.out).mono ?_; rintro e w' ⟨rfl, rfl⟩) | (go_at_call 17; refine (H2.out).mono ?_; rintro e w' ⟨rfl, rfl⟩))
      go_ret
      exact ⟨by simp, HB.out⟩
end Go.Proofs.Ytlgkopcadbifmaa
