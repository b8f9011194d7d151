/-
  The program's Read, once more: the bytes that it hands out may be written.
-/
import Derived.Test.YtnbagklgagomfaaDoorBkU
namespace Go.Proofs.YtnbagklgagomfaaDoor
open Go.RowKit Go.Lib
set_option linter.unusedVariables false
set_option linter.unusedSimpArgs false

theorem errV8 : errV 8 = .iface 54 (.int .i64 8) := rfl
def ReadAns (w : World) (l : List UInt8) (e : Ending) (w' : World) : Prop := e = .returned (.tuple #[.slice (some ⟨w.heap.size, 0, none⟩) 64 64, .nilIface]) ∧ w'.rangeAt w.heap.size 0 (bcs l) ∧ Below w.heap.size w w' ∧ ∀ j, w'.frozen? ⟨w.heap.size, j, none⟩ = false
set_option maxHeartbeats 1000000 in
set_option maxRecDepth 100000 in
theorem read_fz (w : World) (d bk : Nat) (S : St) (h : Dk w d bk S) (k : Nat) (hk : k < S.n) : Calls Tryd.prog 11 #[.pointer (some ⟨d, 0, none⟩), .int .i64 (k : Int)] w (ReadAns w (S.B k)) := by
  have hh := has_disk w d bk S h k
  rw [hasB_yes hk] at hh
  have HH := Lib.hid hh
  have H := Lib.hid h
  obtain ⟨c, hc, h0⟩ := h.c0
  have hp := h.pos
  have hm := h.most
  have hld := h.ld
  have hlen : (bcs (S.B k)).length = 64 := by rw [bcs_len]; exact (h.hb.1 k hk).2
  have HL := Lib.hid hlen
  clear hh h hlen
  go_enter Tryd.func11, Tryd.ntmps11
  go_wp2_with (first | (go_at_call 20; refine (HH.out).mono ?_; rintro e w' ⟨rfl, rfl⟩) | ((with_reducible refine at_slot 12 ?_); refine wpList_makeH rfl 39 5 _ _ rfl (.int .u8 0) 1 1 64 (by kernel_rfl) (by kernel_rfl) .i64 .i64 _ _ rfl rfl rfl rfl (by decide) (by decide) ?_; intro W1 HW1; have h0' : W1.cell? ⟨d, 0, none⟩ = some (.slice (some ⟨bk, 0, none⟩) S.n c) := (by rw [HW1.out, World.cell?_alloc_lt _ _ _ hld]; exact h0)) | ((with_reducible refine at_slot 21 ?_); refine wpList_copyH rfl (.tmp 13) (.tmp 20) 39 39 rfl 5 (by kernel_rfl) (by kernel_rfl) _ _ _ _ _ _ _ rfl rfl (bcs (S.B k)) ?c1 ?c2 ?c3 (bcs_one _) ?_; (case c1 => (rw [HL.out]; rfl)); (case c2 => (exact fun _ => ⟨_, rfl, fun j v hv => (by rw [HW1.out, Addr.add_mid, World.cell?_alloc_lt _ _ _ H.out.lb]; exact (H.out.hb.1 k hk).1 j v hv)⟩)); (case c3 => (rw [HW1.out, HL.out]; exact new_there w _ _ _ (by rw [size_madeCells]; omega))); intro W2 HW2))
  go_ret2
  have hre := read_end hk H.out.hb H.out.lb (by rw [size_madeCells]; omega) HW1.out HW2.out
  exact ⟨rfl, hre.1, hre.2, fun j => by rw [HW2.out, World.frozen?_setCells, HW1.out]; simp⟩
end Go.Proofs.YtnbagklgagomfaaDoor
