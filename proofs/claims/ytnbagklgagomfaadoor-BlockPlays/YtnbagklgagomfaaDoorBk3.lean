/-
  Disks: the program's Write that isn't refused, walked.
-/
import Derived.Test.YtnbagklgagomfaaDoorBk2
namespace Go.Proofs.YtnbagklgagomfaaDoor
open Go.RowKit Go.Lib
set_option linter.unusedVariables false
set_option linter.unusedSimpArgs false

theorem Dk.left {w : World} {d bk : Nat} {S : St} (h : Dk w d bk S) (m : Nat) (hm : m ≤ 9223372036854775807) : Dk (w.setCell ⟨d, 3, none⟩ (.int .i64 (m : Int))) d bk { S with lf := m } := by
  obtain ⟨c, hc, h0⟩ := h.hd
  refine ⟨⟨c, hc, ?_⟩, ?_, h.l6, h.ne, h.pos, h.most, h.at_, h.few, hm, by simpa [World.setCell] using h.ld, by simpa [World.setCell] using h.lb⟩
  · exact h0.put 3 (by rw [dcs_len]; omega) (.int .i64 (m : Int))
  · refine h.hb.same ?_
    rw [Below.heap_setCell _ _ _ _ (Ne.symm h.ne)]
theorem Dk.laid {w W4 : World} {d bk : Nat} {S : St} (h : Dk w d bk S) {k : Nat} (hk : k < S.n) {x : List UInt8} (hx : x.length = 64) (h4 : W4 = w.drew.setCells bk (k * 64) (bcs x)) : Dk W4 d bk { S with B := upd S.B k x } := by
  subst h4
  have h1 : Dk w.drew d bk S := h.same rfl rfl (Nat.le_refl _)
  obtain ⟨c, hc, h0⟩ := h1.hd
  refine ⟨⟨c, hc, h0.same ?_⟩, h1.hb.puts hk hx, h.l6, h.ne, h.pos, h.most, h.at_, h.few, h.lfb, by rw [size_setCells]; exact h1.ld, by rw [size_setCells]; exact h1.lb⟩
  rw [heap_setCells _ _ _ _ _ h.ne]
theorem Dk.step {w : World} {d bk : Nat} {S : St} (h : Dk w d bk S) (hf : S.st + 1 ≤ 1000000000) : Dk (w.setCell ⟨d, 1, none⟩ (.int .i64 ((S.st : Int) + 1))) d bk { S with st := S.st + 1 } := by
  obtain ⟨c, hc, h0⟩ := h.hd
  refine ⟨⟨c, hc, ?_⟩, ?_, h.l6, h.ne, h.pos, h.most, h.at_, hf, h.lfb, by simpa [World.setCell] using h.ld, by simpa [World.setCell] using h.lb⟩
  · exact h0.put 1 (by rw [dcs_len]; omega) (.int .i64 ((S.st : Int) + 1))
  · refine h.hb.same ?_
    rw [Below.heap_setCell _ _ _ _ (Ne.symm h.ne)]

set_option maxHeartbeats 2000000 in
set_option maxRecDepth 100000 in
theorem write_free (w : World) (d bk : Nat) (S : St) (h : Dk w d bk S) (k : Nat) (hk : k < S.n) (A : Option Addr) (x : List UInt8) (c : Nat) (hl : x.length ≤ 64) (hB : Bt w A x) (hd : S.de = false) (hf : S.fu = false) (hst : S.st + 1 ≤ 1000000000) :
    Calls Tryd.prog 9 #[.pointer (some ⟨d, 0, none⟩), .int .i64 (k : Int), .slice A x.length c] w fun e w' => e = .returned .nilIface ∧ Dk w' d bk { S with B := upd S.B k (pad x), st := S.st + 1 } ∧ Oth d bk w w' := by
  have hh := has_disk w d bk S h k
  rw [hasB_yes hk] at hh
  have HH := Lib.hid hh
  have H := Lib.hid h
  have h4 := h.c4
  rw [hd] at h4
  have h2 := h.c2
  rw [hf] at h2
  obtain ⟨cp, hcp, h0⟩ := h.c0
  have hm := h.most
  have hld := h.ld
  have HBt := Lib.hid hB
  obtain ⟨l, HL⟩ : ∃ l, Hid (l = x.length) := ⟨_, rfl⟩
  have hl' : l ≤ 64 := by rw [HL.out]; exact hl
  rw [show Value.slice A x.length c = Value.slice A l c by rw [HL.out]]
  clear hh hd hf hB h
  go_enter Tryd.func9, Tryd.ntmps9
  go_wp2_with (first | (go_at_call 20; refine (HH.out).mono ?_; rintro e w' ⟨rfl, rfl⟩) | ((with_reducible refine at_slot 7 ?_); refine wpList_allocH rfl 56 rfl zero64 zero_block ?_; intro W1 HW1) | ((with_reducible refine at_slot 24 ?_); refine wpList_copyH rfl (.tmp 22) (.tmp 23) 39 39 rfl 5 (by kernel_rfl) (by kernel_rfl) _ _ _ _ _ _ _ rfl rfl (bcs x) ?c1 ?c2 ?c3 (bcs_one _) ?_; (case c1 => (rw [bcs_len, ← HL.out]; exact (Nat.min_eq_left hl').symm)); (case c2 => (rw [bcs_len]; rw [HW1.out]; exact HBt.out.keep (new_below w _))); (case c3 => (rw [HW1.out, bcs_len]; exact new_there w _ _ _ (by rw [zero64_cells]; simp [bcs_len]; omega))); intro W2 HW2; obtain ⟨r2, b2, s2⟩ := whole_of hl HW1.out HW2.out; obtain ⟨g0, g1⟩ : (∀ j, W2.cell? ⟨d, j, none⟩ = w.cell? ⟨d, j, none⟩) ∧ (∀ j, W2.frozen? ⟨d, j, none⟩ = w.frozen? ⟨d, j, none⟩) := ⟨fun j => b2.cell (p := ⟨d, j, none⟩) hld, fun j => b2.frozen (p := ⟨d, j, none⟩) hld⟩))
  have D2 := Lib.hid (H.out.below b2)
  have O2 := Lib.hid ((Oth.refl d bk w).step b2)
  clear HW1 HW2
  refine wp_region_still_tail 7 (by kernel_rfl) (by kernel_rfl) ?_
  change wpStill _ _ W2.drew (fun a' => wpList _ _ _ _ a' W2.drew) _ _
  have k0 : W2.drew.cell? ⟨d, 0, none⟩ = some (.slice (some ⟨bk, 0, none⟩) S.n cp) := (g0 0).trans h0
  have HR := Lib.hid (show W2.drew.rangeAt w.heap.size 0 (bcs (pad x)) from r2)
  have HT := Lib.hid (show W2.drew.there bk (k * 64) 64 from D2.out.hb.there hk (Nat.le_refl _))
  clear g0 g1 r2
  obtain ⟨W3, HW3⟩ : ∃ W3, Hid (W3 = W2.drew) := ⟨_, rfl⟩
  rw [← HW3.out] at k0 HR HT ⊢
  simp only [List.take_succ_cons, List.take_zero, List.drop_succ_cons, List.drop_zero]
  repeat (first | ((with_reducible refine still_slot 64 ?_); refine wpStill_loadH rfl 56 _ rfl _ _ rfl (bcs (pad x)) _ HR.out Tryd.underlying56 rfl ?c1 ?_; (case c1 => (rw [size_block, bcs_len, pad_len hl]))) | still_step)
  refine wpStill_nil ?_
  go_wp2_with ((with_reducible refine at_store 56 ?_); refine wpList_storeH rfl 56 _ _ rfl _ _ _ rfl rfl ?c4 ?c5 (all_oneCell_toArray (bcs_one _)) ?_; (case c4 => (rw [List.size_toArray, bcs_len, pad_len hl]; exact HT.out)); (case c5 => (rw [size_block, List.size_toArray, bcs_len, pad_len hl])); intro W4 HW4; have D4 := Lib.hid (D2.out.laid hk (pad_len hl) (HW4.out.trans (by rw [HW3.out]))); have c1 := D4.out.c1; have f1 := D4.out.td 1 (by omega))
  go_ret
  have e4 := HW4.out
  rw [HW3.out] at e4
  subst e4
  exact ⟨rfl, D4.out.step hst, (((O2.out.step ((Below.refl _ _).drew)).puts bk (Or.inr rfl) _ _).put d 1 (Or.inl rfl) _)⟩
set_option maxHeartbeats 2000000 in
set_option maxRecDepth 100000 in
theorem write_fused (w : World) (d bk : Nat) (S : St) (h : Dk w d bk S) (k : Nat) (hk : k < S.n) (A : Option Addr) (x : List UInt8) (c : Nat) (hl : x.length ≤ 64) (hB : Bt w A x) (hd : S.de = false) (hf : S.fu = true) (m : Nat) (hz : S.lf = m + 1) (hst : S.st + 1 ≤ 1000000000) :
    Calls Tryd.prog 9 #[.pointer (some ⟨d, 0, none⟩), .int .i64 (k : Int), .slice A x.length c] w fun e w' => e = .returned .nilIface ∧ Dk w' d bk { S with lf := m, B := upd S.B k (pad x), st := S.st + 1 } ∧ Oth d bk w w' := by
  have hh := has_disk w d bk S h k
  rw [hasB_yes hk] at hh
  have HH := Lib.hid hh
  have H := Lib.hid h
  have h4 := h.c4
  rw [hd] at h4
  have h2 := h.c2
  rw [hf] at h2
  have h3 := h.c3
  rw [hz, show (((m + 1 : Nat)) : Int) = (m : Int) + 1 from rfl] at h3
  have f3 := h.td 3 (by omega)
  have hmb : m + 1 ≤ 9223372036854775807 := by have := h.lfb; omega
  obtain ⟨cp, hcp, h0⟩ := h.c0
  have hm := h.most
  have hld := h.ld
  have HBt := Lib.hid hB
  obtain ⟨l, HL⟩ : ∃ l, Hid (l = x.length) := ⟨_, rfl⟩
  have hl' : l ≤ 64 := by rw [HL.out]; exact hl
  rw [show Value.slice A x.length c = Value.slice A l c by rw [HL.out]]
  clear hh hd hf hB h hz
  go_enter Tryd.func9, Tryd.ntmps9
  go_wp2_with (first | (go_at_call 20; refine (HH.out).mono ?_; rintro e w' ⟨rfl, rfl⟩) | ((with_reducible refine at_slot 7 ?_); refine wpList_allocH rfl 56 rfl zero64 zero_block ?_; intro W1 HW1) | ((with_reducible refine at_slot 24 ?_); refine wpList_copyH rfl (.tmp 22) (.tmp 23) 39 39 rfl 5 (by kernel_rfl) (by kernel_rfl) _ _ _ _ _ _ _ rfl rfl (bcs x) ?c1 ?c2 ?c3 (bcs_one _) ?_; (case c1 => (rw [bcs_len, ← HL.out]; exact (Nat.min_eq_left hl').symm)); (case c2 => (rw [bcs_len]; rw [HW1.out]; exact HBt.out.keep (new_below w _))); (case c3 => (rw [HW1.out, bcs_len]; exact new_there w _ _ _ (by rw [zero64_cells]; simp [bcs_len]; omega))); intro W2 HW2; obtain ⟨r2, b2, s2⟩ := whole_of hl HW1.out HW2.out; obtain ⟨g0, g1⟩ : (∀ j, W2.cell? ⟨d, j, none⟩ = w.cell? ⟨d, j, none⟩) ∧ (∀ j, W2.frozen? ⟨d, j, none⟩ = w.frozen? ⟨d, j, none⟩) := ⟨fun j => b2.cell (p := ⟨d, j, none⟩) hld, fun j => b2.frozen (p := ⟨d, j, none⟩) hld⟩))
  obtain ⟨V, HV⟩ : ∃ V, Hid (V = W2.setCell ⟨d, 3, none⟩ (.int .i64 (m : Int))) := ⟨_, rfl⟩
  have r3 : V.rangeAt w.heap.size 0 (bcs (pad x)) := by
    rw [HV.out]
    exact World.rangeAt_setCells_apart r2 d 3 [.int .i64 (m : Int)] (Or.inl (by omega))
  rw [← HV.out]
  have D2 := Lib.hid (show Dk V d bk { S with lf := m } by rw [HV.out]; exact (H.out.below b2).left m (by omega))
  have O2 := Lib.hid (show Oth d bk w V by rw [HV.out]; exact ((Oth.refl d bk w).step b2).put d 3 (Or.inl rfl) _)
  clear HW1 HW2 g0 g1 r2 b2 s2 h0 HV hcp
  obtain ⟨cp, hcp, h0⟩ := D2.out.c0
  refine wp_region_still_tail 7 (by kernel_rfl) (by kernel_rfl) ?_
  change wpStill _ _ V.drew (fun a' => wpList _ _ _ _ a' V.drew) _ _
  have k0 : V.drew.cell? ⟨d, 0, none⟩ = some (.slice (some ⟨bk, 0, none⟩) S.n cp) := h0
  have HR := Lib.hid (show V.drew.rangeAt w.heap.size 0 (bcs (pad x)) from r3)
  have HT := Lib.hid (show V.drew.there bk (k * 64) 64 from D2.out.hb.there hk (Nat.le_refl _))
  clear r3
  obtain ⟨W3, HW3⟩ : ∃ W3, Hid (W3 = V.drew) := ⟨_, rfl⟩
  rw [← HW3.out] at k0 HR HT ⊢
  simp only [List.take_succ_cons, List.take_zero, List.drop_succ_cons, List.drop_zero]
  repeat (first | ((with_reducible refine still_slot 64 ?_); refine wpStill_loadH rfl 56 _ rfl _ _ rfl (bcs (pad x)) _ HR.out Tryd.underlying56 rfl ?c1 ?_; (case c1 => (rw [size_block, bcs_len, pad_len hl]))) | still_step)
  refine wpStill_nil ?_
  go_wp2_with ((with_reducible refine at_store 56 ?_); refine wpList_storeH rfl 56 _ _ rfl _ _ _ rfl rfl ?c4 ?c5 (all_oneCell_toArray (bcs_one _)) ?_; (case c4 => (rw [List.size_toArray, bcs_len, pad_len hl]; exact HT.out)); (case c5 => (rw [size_block, List.size_toArray, bcs_len, pad_len hl])); intro W4 HW4; have D4 := Lib.hid (D2.out.laid hk (pad_len hl) (HW4.out.trans (by rw [HW3.out]))); have c1 := D4.out.c1; have f1 := D4.out.td 1 (by omega))
  go_ret
  have e4 := HW4.out
  rw [HW3.out] at e4
  subst e4
  exact ⟨rfl, D4.out.step hst, (((O2.out.step ((Below.refl _ _).drew)).puts bk (Or.inr rfl) _ _).put d 1 (Or.inl rfl) _)⟩
end Go.Proofs.YtnbagklgagomfaaDoor
