/-
  Disks: the program's Crash of a dead disk, walked.
-/
import Derived.Test.YtnbagklgagomfaaBk5
namespace Go.Proofs.Ytnbagklgagomfaa
open Go.RowKit Go.Lib
set_option linter.unusedVariables false
set_option linter.unusedSimpArgs false

theorem laidN_le (t : Int) : laidN t ≤ 64 := by unfold laidN; omega
theorem laidN_int (t : Int) : ((laidN t : Nat) : Int) = min (max t 0) 64 := by unfold laidN; omega
theorem Dk.part {w W4 : World} {d bk : Nat} {S : St} (h : Dk w d bk S) {k : Nat} (hk : k < S.n) {x : List UInt8} (hx : x.length ≤ 64) (h4 : W4 = w.drew.setCells bk (k * 64) (bcs x)) : Dk W4 d bk { S with B := upd S.B k (x ++ (S.B k).drop x.length) } := by
  subst h4
  have h1 : Dk w.drew d bk S := h.same rfl rfl (Nat.le_refl _)
  obtain ⟨c, hc, h0⟩ := h1.hd
  refine ⟨⟨c, hc, h0.same ?_⟩, h1.hb.part hk hx, h.l6, h.ne, h.pos, h.most, h.at_, h.few, h.lfb, by rw [size_setCells]; exact h1.ld, by rw [size_setCells]; exact h1.lb⟩
  rw [heap_setCells _ _ _ _ _ h.ne]
set_option maxHeartbeats 2000000 in
set_option maxRecDepth 100000 in
theorem crash_dead (w : World) (d bk : Nat) (S : St) (h : Dk w d bk S) (torn : Int) (hd : S.de = true) :
    Calls Try.prog 14 #[.pointer (some ⟨d, 0, none⟩), .int .i64 torn] w (CrashAns w S torn) := by
  obtain ⟨c, hc, h0⟩ := h.c0
  have h4 := h.c4
  rw [hd] at h4
  have hCl := Lib.hid (clone_any w bk S.n c S.B h.hb h.pos h.most)
  have H := Lib.hid h
  have hld := h.ld
  have HE := Lib.hid (show crashSt S torn = { newSt S.n with B := upd S.B S.ra (S.rf.take (laidN torn) ++ (S.B S.ra).drop (laidN torn)) } by simp [crashSt, hd])
  have hra := h.at_ hd
  have hm := h.most
  clear h hd
  go_enter Try.func14, Try.ntmps14
  go_wp2_with fail
  refine (hCl.out).mono ?_
  rintro e W1 ⟨g, c2, rfl, hc2, hg, hg2, hB, hb1⟩
  have HB := Lib.hid hB
  have h4' : W1.cell? ⟨d, 4, none⟩ = some (.bool true) := (hb1.cell (p := ⟨d, 4, none⟩) hld).trans h4
  have hld1 : d < W1.heap.size := Nat.lt_of_lt_of_le hld hb1.size
  have HB1 := Lib.hid hb1
  clear hB hb1 h4 h0
  go_wp2_with (first | ((with_reducible refine at_slot 12 ?_); go_must (refine wpList_buildH rfl 61 #[(0, .tmp 11)] rfl #[(0, .slice (some ⟨g, 0, none⟩) S.n c2)] ?hp (.agg (dcs (newSt S.n) g c2).toArray) ?hr ?_; (case hr => (exact build_disk2 _ _ _ _)); (case hp => (first | rfl | (simp [Act.eval]; done) | (go_simp; done) | kernel_rfl)))) | ((with_reducible refine at_slot 13 ?_); refine wpList_boxH rfl 61 _ rfl _ rfl ?_; intro W2 HW2; have h4'' : W2.cell? ⟨d, 4, none⟩ = some (.bool true) := (by rw [HW2.out, World.cell?_alloc_lt _ _ _ hld1]; exact h4')))
  rw [← laidN_int]
  obtain ⟨L, HL⟩ : ∃ L, Hid (laidN torn = L) := ⟨_, rfl⟩
  have hL : L ≤ 64 := by rw [← HL.out]; exact laidN_le torn
  rw [HL.out]
  have D2 := Lib.hid (crash_box H.out.pos H.out.most hc2 hg2 HB.out HW2.out)
  have b2 : Below W1.heap.size W1 W2 := by rw [HW2.out]; exact new_below W1 _
  have D0 := Lib.hid (H.out.below (HB1.out.trans (b2.mono HB1.out.size)))
  have HB2 := Lib.hid (HB1.out.trans (b2.mono HB1.out.size))
  have hgW : g < W2.heap.size := Nat.lt_of_lt_of_le hg2 b2.size
  clear h4' h4'' HW2 b2
  have hL1 : ¬ (64 : Int) < (L : Int) := by omega
  have hL2 : (L : Int) ≤ 64 := by omega
  have hL3 : ¬ 64 < L := by omega
  refine wp_region_still_tail 15 (by kernel_rfl) (by kernel_rfl) ?_
  change wpStill _ _ W2.drew (fun a' => wpList _ _ _ _ a' W2.drew) _ _
  obtain ⟨c3, hc3, k0⟩ := D2.out.c0
  have k5 : W2.drew.cell? ⟨d, 5, none⟩ = some (.int .i64 (S.ra : Int)) := D0.out.c5
  have k0' : W2.drew.cell? ⟨W1.heap.size, 0, none⟩ = some (.slice (some ⟨g, 0, none⟩) S.n c3) := k0
  clear k0
  obtain ⟨W3, HW3⟩ : ∃ W3, Hid (W3 = W2.drew) := ⟨_, rfl⟩
  rw [← HW3.out] at k0' k5 ⊢
  simp only [List.take_succ_cons, List.take_zero, List.drop_succ_cons, List.drop_zero]
  repeat still_step
  refine wpStill_nil ?_
  have hlen : (bcs (S.rf.take L)).length = L := by rw [bcs_len, List.length_take, H.out.l6]; omega
  have HLen := Lib.hid hlen
  have HS := Lib.hid (show W3.rangeAt d 6 (bcs (S.rf.take L)) by
    rw [HW3.out]
    have h6 := D0.out.c6
    rw [← List.take_append_drop L S.rf, bcs_app] at h6
    exact (range_part h6).1)
  have HT := Lib.hid (show W3.there g (S.ra * 64) 64 by rw [HW3.out]; exact D2.out.hb.there hra (Nat.le_refl _))
  clear hlen
  go_wp2_with ((with_reducible refine at_slot 36 ?_); refine wpList_copyH rfl (.tmp 30) (.tmp 35) 40 40 rfl 5 (by kernel_rfl) (by kernel_rfl) _ _ _ _ _ _ _ rfl rfl (bcs (S.rf.take L)) ?c1 ?c2 ?c3 (bcs_one _) ?_; (case c1 => (rw [HLen.out]; exact (Nat.min_eq_left hL).symm)); (case c2 => (exact fun _ => ⟨_, rfl, fun j v hv => (by rw [Addr.add_mid]; exact HS.out j v hv)⟩)); (case c3 => (rw [HLen.out]; exact fun j hj => HT.out j (by omega))); intro W4 HW4)
  go_ret
  have hk : (S.rf.take L).length = L := by rw [List.length_take, H.out.l6]; omega
  have e4 := HW4.out
  rw [HW3.out] at e4
  refine ⟨W1.heap.size, g, rfl, HB1.out.size, hg, ?_, ?_⟩
  · rw [HE.out, HL.out]
    have := D2.out.part hra (by rw [hk]; exact hL) e4
    rw [hk] at this
    exact this
  · rw [e4]
    exact below_setCells (HB2.out.drew) hg _ _
/-- The program's Crash. -/
theorem crash_any (w : World) (d bk : Nat) (S : St) (h : Dk w d bk S) (torn : Int) :
    Calls Try.prog 14 #[.pointer (some ⟨d, 0, none⟩), .int .i64 torn] w (CrashAns w S torn) := by
  cases hd : S.de with
  | true => exact crash_dead w d bk S h torn hd
  | false => exact crash_live w d bk S h torn hd
end Go.Proofs.Ytnbagklgagomfaa
