/-
  Disks: the law's fixed fact, walked.
-/
import Derived.Test.YtnbagklgagomfaaBk7
import Derived.Test.YtnbagklgagomfaaBkE
import Derived.Lib.SlBytesConst
namespace Go.Proofs.Ytnbagklgagomfaa
open Go.RowKit Go.Lib
set_option linter.unusedVariables false
set_option linter.unusedSimpArgs false

theorem bt_new {w : World} {cs : Array Value} {t : TypeId} {fr : Nat × Nat} {x : List UInt8} (h : cs.toList = bcs x) : Bt (w.alloc (.cells cs t fr)) (some ⟨w.heap.size, 0, none⟩) x := fun _ => ⟨_, rfl, fun j v hv => by
  rw [Addr.add_mid, Nat.zero_add, World.cell?_alloc_mark, ← Array.getElem?_toList, h]
  exact hv⟩
theorem conv_bytes (W : World) (g q c n : Nat) (l : List UInt8) (hn : n = l.length) (h : W.rangeAt g q (bcs l)) : (Go.convert 40 9 (.slice (some ⟨g, q, none⟩) n c)).run Try.prog W = .ok (.string ⟨l.toArray⟩) W := by
  subst hn
  refine run_convert_bytes_back W 40 9 5 ⟨g, q, none⟩ c l (by kernel_rfl) (by kernel_rfl) (by kernel_rfl) fun j hj => ?_
  rw [Addr.add_mid]
  exact h j _ (by rw [bcs_get, List.getElem?_eq_getElem hj]; rfl)
/-- Behind a call that turns a disk, in a world that had grown. -/
theorem Oth.on {d bk : Nat} {w W W' : World} (h : Oth d bk W W') (hb : Below w.heap.size w W) (a : w.heap.size ≤ d) (b : w.heap.size ≤ bk) : Below w.heap.size w W' := h.2.2 _ _ hb a b hb.size
theorem errV0 : errV 0 = .nilIface := rfl
theorem errV19 : errV 19 = .iface 52 (.int .i64 19) := rfl
def S1 : St := { newSt 2 with fu := true, lf := 1 }
def S2 : St := (wrSt S1 0 [97, 98, 99, 100, 101, 102]).1
def S3 : St := (wrSt S2 0 [118, 119, 120, 121, 122]).1
theorem s1_is : arSt (newSt 2) 1 = (S1, 0) := rfl
theorem s2_is : wrSt S1 0 [97, 98, 99, 100, 101, 102] = (S2, 0) := rfl
theorem s3_is : wrSt S2 0 [118, 119, 120, 121, 122] = (S3, 19) := rfl
def exB : List UInt8 := [118, 119, 120, 100, 101, 102]
theorem s4_is : (crashSt S3 3).B 0 = exB ++ List.replicate 58 0 := by decide +kernel
set_option maxRecDepth 100000 in
set_option maxHeartbeats 2000000 in
theorem awake_blk (w : World) : Calls Try.prog 6 #[] w fun e w' => e = .returned (.bool true) ∧ Below w.heap.size w w' := by
  have hcv := fun (w : World) (C : Array Value) (n c : Nat) => Lib.run_convert_bytes_const (P := Try.prog) w 40 5 C n c (by kernel_rfl) (by kernel_rfl)
  go_enter Try.func6, Try.ntmps6
  go_wp2_with fail
  refine (new_yes w 2 (by decide) (by decide)).mono ?_
  rintro e W1 ⟨rfl, hD1, hb1⟩
  have D1 := Lib.hid hD1
  have B1 := Lib.hid hb1
  clear hD1 hb1
  go_wp2_with fail
  have ha := arm_any W1 _ _ _ D1.out 1 (by decide)
  rw [s1_is] at ha
  refine ha.mono ?_
  clear ha
  rintro e W2 ⟨rfl, hD2, ho2⟩
  have D2 := Lib.hid hD2
  have B2 := Lib.hid (ho2.on B1.out (by omega) (by omega))
  clear hD2 ho2
  simp only [errV0]
  go_wp2_with fail
  have ha := write_any _ _ _ _ (D2.out.below (new_below W2 (.cells #[.int .u8 97, .int .u8 98, .int .u8 99, .int .u8 100, .int .u8 101, .int .u8 102] 5 (6, 7)))) 0 (some ⟨W2.heap.size, 0, none⟩) [97, 98, 99, 100, 101, 102] 6 6 rfl (bt_new rfl) (by decide)
  rw [s2_is] at ha
  refine ha.mono ?_
  clear ha
  rintro e W3 ⟨rfl, hD3, ho3⟩
  have D3 := Lib.hid hD3
  have B3 := Lib.hid (ho3.on (B2.out.alloc B2.out.size _) (by omega) (by omega))
  clear hD3 ho3
  simp only [errV0]
  go_wp2_with fail
  have ha := write_any _ _ _ _ (D3.out.below (new_below W3 (.cells #[.int .u8 118, .int .u8 119, .int .u8 120, .int .u8 121, .int .u8 122] 5 (5, 6)))) 0 (some ⟨W3.heap.size, 0, none⟩) [118, 119, 120, 121, 122] 5 5 rfl (bt_new rfl) (by decide)
  rw [s3_is] at ha
  refine ha.mono ?_
  clear ha
  rintro e W4 ⟨rfl, hD4, ho4⟩
  have D4 := Lib.hid hD4
  have B4 := Lib.hid (ho4.on (B3.out.alloc B3.out.size _) (by omega) (by omega))
  clear hD4 ho4
  simp only [errV19]
  go_wp2_with fail
  refine (is_self 19 W4).mono ?_
  rintro e w' ⟨rfl, rfl⟩
  go_wp2_with fail
  refine (crash_any W4 _ _ _ D4.out 3).mono ?_
  rintro e W5 ⟨d5, b5, rfl, h5, h5', hD5, hb5⟩
  have D5 := Lib.hid hD5
  have B5 := Lib.hid (B4.out.trans (hb5.mono B4.out.size))
  clear hD5 hb5
  go_wp2_with fail
  refine (read_yes W5 _ _ _ D5.out 0 (by decide)).mono ?_
  rintro e W6 ⟨rfl, hr6, hb6⟩
  have B6 := Lib.hid (B5.out.trans (hb6.mono B5.out.size))
  rw [s4_is, bcs_app] at hr6
  have hs := conv_bytes W6 W5.heap.size 0 64 6 exB rfl (range_part hr6).1
  clear hr6 hb6
  go_wp2_with fail
  go_ret
  exact ⟨rfl, B6.out⟩
end Go.Proofs.Ytnbagklgagomfaa
