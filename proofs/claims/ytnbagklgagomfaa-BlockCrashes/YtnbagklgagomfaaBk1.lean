/-
  Disks: the program's Arm and Read, walked.
-/
import Derived.Test.YtnbagklgagomfaaBk0
import Derived.Outline
namespace Go.Proofs.Ytnbagklgagomfaa
open Go.RowKit Go.Lib
set_option linter.unusedVariables false
set_option linter.unusedSimpArgs false

theorem Dk.put2 {w : World} {d bk : Nat} {S : St} (h : Dk w d bk S) (k : Nat) (hk : k ≤ 9223372036854775807) : Dk ((w.setCell ⟨d, 2, none⟩ (.bool true)).setCell ⟨d, 3, none⟩ (.int .i64 (k : Int))) d bk { S with fu := true, lf := k } := by
  obtain ⟨c, hc, h0⟩ := h.hd
  refine ⟨⟨c, hc, ?_⟩, ?_, h.l6, h.ne, h.pos, h.most, h.at_, h.few, hk, by simpa [World.setCell] using h.ld, by simpa [World.setCell] using h.lb⟩
  · exact (h0.put 2 (by rw [dcs_len]; omega) (.bool true)).put 3 (by rw [List.length_set, dcs_len]; omega) (.int .i64 (k : Int))
  · refine h.hb.same ?_
    rw [Below.heap_setCell _ _ _ _ (Ne.symm h.ne), Below.heap_setCell _ _ _ _ (Ne.symm h.ne)]
theorem arm_neg (w : World) (d : Nat) (k : Int) (hk : k < 0) : Calls Try.prog 10 #[.pointer (some ⟨d, 0, none⟩), .int .i64 k] w fun e w' => e = .returned (.iface 52 (.int .i64 8)) ∧ w = w' := by
  go_enter Try.func10, Try.ntmps10
  go_wp2
  go_ret
  exact ⟨rfl, rfl⟩
theorem arm_dead (w : World) (d bk : Nat) (S : St) (h : Dk w d bk S) (k : Int) (hk : 0 ≤ k) (hd : S.de = true) : Calls Try.prog 10 #[.pointer (some ⟨d, 0, none⟩), .int .i64 k] w fun e w' => e = .returned (.iface 52 (.int .i64 19)) ∧ w = w' := by
  have h4 := h.c4
  rw [hd] at h4
  clear h hd
  go_enter Try.func10, Try.ntmps10
  go_wp2
  go_ret
  exact ⟨rfl, rfl⟩
theorem arm_ok (w : World) (d bk : Nat) (S : St) (h : Dk w d bk S) (k : Nat) (hk : k ≤ 9223372036854775807) (hd : S.de = false) : Calls Try.prog 10 #[.pointer (some ⟨d, 0, none⟩), .int .i64 (k : Int)] w fun e w' => e = .returned .nilIface ∧ Dk w' d bk { S with fu := true, lf := k } ∧ Oth d bk w w' := by
  have h4 := h.c4
  rw [hd] at h4
  have h2 := h.c2
  have h3 := h.c3
  have f2 := h.td 2 (by omega)
  have f3 := h.td 3 (by omega)
  have H := Lib.hid h
  clear hd
  go_enter Try.func10, Try.ntmps10
  go_wp2
  go_ret
  exact ⟨rfl, H.out.put2 k hk, ((Oth.refl d bk w).put d 2 (Or.inl rfl) _).put d 3 (Or.inl rfl) _⟩

theorem read_no (w : World) (d bk : Nat) (S : St) (h : Dk w d bk S) (k : Int) (hk : hasB S.n k = false) : Calls Try.prog 18 #[.pointer (some ⟨d, 0, none⟩), .int .i64 k] w fun e w' => e = .returned (.tuple #[.slice none 0 0, .iface 52 (.int .i64 8)]) ∧ w = w' := by
  have hh := has_disk w d bk S h k
  rw [hk] at hh
  have HH := Lib.hid hh
  clear hh hk
  go_enter Try.func18, Try.ntmps18
  go_wp2_with (go_at_call 21; refine (HH.out).mono ?_; rintro e w' ⟨rfl, rfl⟩)
  go_ret2
  exact ⟨rfl, rfl⟩
theorem hasB_yes {n k : Nat} (h : k < n) : hasB n (k : Int) = true := by
  simp [hasB]
  exact h
/-- A block's bytes behind a new row's. -/
theorem read_end {w W1 W2 : World} {bk n k : Nat} {B : Nat → List UInt8} {cs : Array Value} {t : TypeId} (hk : k < n) (h : HdB w bk n B) (hb : bk < w.heap.size) (hc : 64 ≤ cs.size) (h1 : W1 = w.alloc (.cells cs t)) (h2 : W2 = W1.setCells w.heap.size 0 (bcs (B k))) :
    W2.rangeAt w.heap.size 0 (bcs (B k)) ∧ Below w.heap.size w W2 := by
  subst h1 h2
  refine ⟨World.rangeAt_setCells_same _ _ _ _ (new_there w _ _ _ ?_), below_setCells (new_below w _) (Nat.le_refl _) _ _⟩
  rw [bcs_len, (h.1 k hk).2]
  exact hc
set_option maxHeartbeats 1000000 in
set_option maxRecDepth 100000 in
theorem read_yes (w : World) (d bk : Nat) (S : St) (h : Dk w d bk S) (k : Nat) (hk : k < S.n) : Calls Try.prog 18 #[.pointer (some ⟨d, 0, none⟩), .int .i64 (k : Int)] w fun e w' => e = .returned (.tuple #[.slice (some ⟨w.heap.size, 0, none⟩) 64 64, .nilIface]) ∧ w'.rangeAt w.heap.size 0 (bcs (S.B k)) ∧ Below w.heap.size w w' := by
  have hh := has_disk w d bk S h k
  rw [hasB_yes hk] at hh
  have HH := Lib.hid hh
  have H := Lib.hid h
  obtain ⟨c, hc, h0⟩ := h.c0
  have hp := h.pos
  have hm := h.most
  have hld := h.ld
  have hlen : (bcs (S.B k)).length = 64 := by rw [bcs_len]; exact (h.hb.1 k hk).2
  have HL := Lib.hid hlen
  clear hh h hlen
  go_enter Try.func18, Try.ntmps18
  go_wp2_with (first | (go_at_call 21; refine (HH.out).mono ?_; rintro e w' ⟨rfl, rfl⟩) | ((with_reducible refine at_slot 12 ?_); refine wpList_makeH rfl 40 5 _ _ rfl (.int .u8 0) 1 1 64 (by kernel_rfl) (by kernel_rfl) .i64 .i64 _ _ rfl rfl rfl rfl (by decide) (by decide) ?_; intro W1 HW1; have h0' : W1.cell? ⟨d, 0, none⟩ = some (.slice (some ⟨bk, 0, none⟩) S.n c) := (by rw [HW1.out, World.cell?_alloc_lt _ _ _ hld]; exact h0)) | ((with_reducible refine at_slot 21 ?_); refine wpList_copyH rfl (.tmp 13) (.tmp 20) 40 40 rfl 5 (by kernel_rfl) (by kernel_rfl) _ _ _ _ _ _ _ rfl rfl (bcs (S.B k)) ?c1 ?c2 ?c3 (bcs_one _) ?_; (case c1 => (rw [HL.out]; rfl)); (case c2 => (exact fun _ => ⟨_, rfl, fun j v hv => (by rw [HW1.out, Addr.add_mid, World.cell?_alloc_lt _ _ _ H.out.lb]; exact (H.out.hb.1 k hk).1 j v hv)⟩)); (case c3 => (rw [HW1.out, HL.out]; exact new_there w _ _ _ (by rw [size_madeCells]; omega))); intro W2 HW2))
  go_ret2
  exact ⟨rfl, read_end hk H.out.hb H.out.lb (by rw [size_madeCells]; omega) HW1.out HW2.out⟩
end Go.Proofs.Ytnbagklgagomfaa
