/-
  Disks: the program's Write, walked.
-/
import Derived.Test.YtnbagklgagomfaaDoorBk1
import Derived.StillTailTactics
namespace Go.Proofs.YtnbagklgagomfaaDoor
open Go.RowKit Go.Lib
set_option linter.unusedVariables false
set_option linter.unusedSimpArgs false

/-- The bytes, and noughts behind. -/
def pad (x : List UInt8) : List UInt8 := x ++ List.replicate (64 - x.length) 0
theorem pad_len {x : List UInt8} (h : x.length ≤ 64) : (pad x).length = 64 := by simp [pad]; omega
def zero64 : Value := .agg (bcs (List.replicate 64 0)).toArray
theorem zero_block : (Tryd.prog.info? 56).map (·.zero) = some (some zero64) := by kernel_rfl
theorem size_block : (Tryd.prog.info? 56).map (·.size) = some 64 := by kernel_rfl
theorem zero64_cells : zero64.cells = (bcs (List.replicate 64 0)).toArray := rfl
/-- A new block of noughts, the bytes laid on it. -/
theorem whole_of {w W1 W2 : World} {x : List UInt8} (hx : x.length ≤ 64) (h1 : W1 = w.alloc (.cells zero64.cells 56)) (h2 : W2 = W1.setCells w.heap.size 0 (bcs x)) :
    W2.rangeAt w.heap.size 0 (bcs (pad x)) ∧ Below w.heap.size w W2 ∧ w.heap.size < W2.heap.size := by
  subst h1 h2
  refine ⟨?_, below_setCells (new_below w _) (Nat.le_refl _) _ _, by rw [size_setCells, new_size]; omega⟩
  unfold pad
  rw [bcs_app]
  have h3 := new_range w zero64.cells 56
  refine range_join (World.rangeAt_setCells_same _ _ _ _ (new_there w _ _ _ (by rw [zero64_cells]; simp [bcs_len]; omega))) ?_
  rw [zero64_cells] at h3
  have e : List.replicate 64 (0 : UInt8) = List.replicate x.length 0 ++ List.replicate (64 - x.length) 0 := by
    rw [List.replicate_append_replicate]
    congr 1
    omega
  rw [e, List.toList_toArray, bcs_app] at h3
  have h4 := (range_part h3).2
  have e1 : (bcs (List.replicate x.length 0)).length = (bcs x).length := by simp [bcs_len]
  rw [e1] at h4
  rw [zero64_cells, e, bcs_app]
  exact World.rangeAt_setCells_apart h4 _ _ _ (Or.inr (Or.inr (Nat.le_refl _)))

theorem write_no (w : World) (d bk : Nat) (S : St) (h : Dk w d bk S) (k : Int) (hk : hasB S.n k = false) (A : Option Addr) (l c : Nat) : Calls Tryd.prog 9 #[.pointer (some ⟨d, 0, none⟩), .int .i64 k, .slice A l c] w fun e w' => e = .returned (.iface 54 (.int .i64 8)) ∧ w = w' := by
  have hh := has_disk w d bk S h k
  rw [hk] at hh
  have HH := Lib.hid hh
  clear hh hk
  go_enter Tryd.func9, Tryd.ntmps9
  go_wp2_with (go_at_call 20; refine (HH.out).mono ?_; rintro e w' ⟨rfl, rfl⟩)
  go_ret
  exact ⟨rfl, rfl⟩
theorem write_long (w : World) (d bk : Nat) (S : St) (h : Dk w d bk S) (k : Nat) (hk : k < S.n) (A : Option Addr) (l c : Nat) (hl : 64 < l) : Calls Tryd.prog 9 #[.pointer (some ⟨d, 0, none⟩), .int .i64 (k : Int), .slice A l c] w fun e w' => e = .returned (.iface 54 (.int .i64 2)) ∧ w = w' := by
  have hh := has_disk w d bk S h k
  rw [hasB_yes hk] at hh
  have HH := Lib.hid hh
  clear hh hk
  go_enter Tryd.func9, Tryd.ntmps9
  go_wp2_with (go_at_call 20; refine (HH.out).mono ?_; rintro e w' ⟨rfl, rfl⟩)
  go_ret
  exact ⟨rfl, rfl⟩
theorem write_dead (w : World) (d bk : Nat) (S : St) (h : Dk w d bk S) (k : Nat) (hk : k < S.n) (A : Option Addr) (l c : Nat) (hl : l ≤ 64) (hd : S.de = true) : Calls Tryd.prog 9 #[.pointer (some ⟨d, 0, none⟩), .int .i64 (k : Int), .slice A l c] w fun e w' => e = .returned (.iface 54 (.int .i64 19)) ∧ w = w' := by
  have hh := has_disk w d bk S h k
  rw [hasB_yes hk] at hh
  have HH := Lib.hid hh
  have h4 := h.c4
  rw [hd] at h4
  clear hh hk hd
  go_enter Tryd.func9, Tryd.ntmps9
  go_wp2_with (go_at_call 20; refine (HH.out).mono ?_; rintro e w' ⟨rfl, rfl⟩)
  go_ret
  exact ⟨rfl, rfl⟩
/-- The refused write is kept. -/
theorem Dk.refuse {w W2 W3 : World} {d bk : Nat} {S : St} {k : Nat} {x : List UInt8} (h : Dk w d bk S) (hb : Below w.heap.size w W2) (hk : k < S.n) (hx : x.length = 64) (h3 : W3 = ((W2.setCell ⟨d, 4, none⟩ (.bool true)).setCell ⟨d, 5, none⟩ (.int .i64 (k : Int))).setCells d 6 (bcs x)) :
    Dk W3 d bk { S with de := true, ra := k, rf := x } ∧ Oth d bk w W3 := by
  have h2 := h.below hb
  obtain ⟨c, hc, h0⟩ := h2.hd
  have e0 : (dcs S bk c).length = 70 := by rw [dcs_len, h.l6]
  have g1 := (h0.put 4 (by omega) (.bool true)).put 5 (by rw [List.length_set]; omega) (.int .i64 (k : Int))
  have g2 := HdD.tail (X := [.slice (some ⟨bk, 0, none⟩) S.n c, .int .i64 (S.st : Int), .bool S.fu, .int .i64 (S.lf : Int), .bool true, .int .i64 (k : Int)]) (Y := bcs S.rf) (Z := bcs x) g1 (by rw [bcs_len, bcs_len, h.l6, hx])
  subst h3
  refine ⟨⟨⟨c, hc, g2⟩, h2.hb.same ?_, hx, h.ne, h.pos, h.most, fun _ => hk, h.few, h.lfb, by rw [size_setCells]; simpa [World.setCell] using h2.ld, by rw [size_setCells]; simpa [World.setCell] using h2.lb⟩, ?_⟩
  · rw [heap_setCells _ _ _ _ _ (Ne.symm h.ne), Below.heap_setCell _ _ _ _ (Ne.symm h.ne), Below.heap_setCell _ _ _ _ (Ne.symm h.ne)]
  · exact ((((Oth.refl d bk w).step hb).put d 4 (Or.inl rfl) _).put d 5 (Or.inl rfl) _).puts d (Or.inl rfl) _ 6
theorem Dk.there6 {w : World} {d bk : Nat} {S : St} (h : Dk w d bk S) (v4 v5 : Value) : ((w.setCell ⟨d, 4, none⟩ v4).setCell ⟨d, 5, none⟩ v5).there d 6 64 := by
  have h1 : w.there d 6 64 := fun j hj => by
    refine ⟨?_, h.td _ (by omega)⟩
    rw [h.c6 j _ (List.getElem?_eq_getElem (by rw [bcs_len, h.l6]; exact hj))]
    rfl
  exact World.there_setCells (World.there_setCells h1 d 4 [v4]) d 5 [v5]
set_option maxHeartbeats 2000000 in
set_option maxRecDepth 100000 in
theorem write_refuse (w : World) (d bk : Nat) (S : St) (h : Dk w d bk S) (k : Nat) (hk : k < S.n) (A : Option Addr) (x : List UInt8) (c : Nat) (hl : x.length ≤ 64) (hB : Bt w A x) (hd : S.de = false) (hf : S.fu = true) (hz : S.lf = 0) :
    Calls Tryd.prog 9 #[.pointer (some ⟨d, 0, none⟩), .int .i64 (k : Int), .slice A x.length c] w fun e w' => e = .returned (.iface 54 (.int .i64 19)) ∧ Dk w' d bk { S with de := true, ra := k, rf := pad x } ∧ Oth d bk w w' := by
  have hh := has_disk w d bk S h k
  rw [hasB_yes hk] at hh
  have HH := Lib.hid hh
  have H := Lib.hid h
  have h4 := h.c4
  rw [hd] at h4
  have h2 := h.c2
  rw [hf] at h2
  have h3 := h.c3
  rw [hz] at h3
  have h5 := h.c5
  have f4 := h.td 4 (by omega)
  have f5 := h.td 5 (by omega)
  have hld := h.ld
  have HBt := Lib.hid hB
  obtain ⟨l, HL⟩ : ∃ l, Hid (l = x.length) := ⟨_, rfl⟩
  have hl' : l ≤ 64 := by rw [HL.out]; exact hl
  rw [show Value.slice A x.length c = Value.slice A l c by rw [HL.out]]
  clear hh hd hf hz hB
  go_enter Tryd.func9, Tryd.ntmps9
  go_wp2_with (first | (go_at_call 20; refine (HH.out).mono ?_; rintro e w' ⟨rfl, rfl⟩) | ((with_reducible refine at_slot 7 ?_); refine wpList_allocH rfl 56 rfl zero64 zero_block ?_; intro W1 HW1) | ((with_reducible refine at_slot 24 ?_); refine wpList_copyH rfl (.tmp 22) (.tmp 23) 39 39 rfl 5 (by kernel_rfl) (by kernel_rfl) _ _ _ _ _ _ _ rfl rfl (bcs x) ?c1 ?c2 ?c3 (bcs_one _) ?_; (case c1 => (rw [bcs_len, ← HL.out]; exact (Nat.min_eq_left hl').symm)); (case c2 => (rw [bcs_len]; rw [HW1.out]; exact HBt.out.keep (new_below w _))); (case c3 => (rw [HW1.out, bcs_len]; exact new_there w _ _ _ (by rw [zero64_cells]; simp [bcs_len]; omega))); intro W2 HW2; obtain ⟨r2, b2, s2⟩ := whole_of hl HW1.out HW2.out; obtain ⟨g0, g1⟩ : (∀ j, W2.cell? ⟨d, j, none⟩ = w.cell? ⟨d, j, none⟩) ∧ (∀ j, W2.frozen? ⟨d, j, none⟩ = w.frozen? ⟨d, j, none⟩) := ⟨fun j => b2.cell (p := ⟨d, j, none⟩) hld, fun j => b2.frozen (p := ⟨d, j, none⟩) hld⟩) | ((with_reducible refine at_slot 40 ?_); refine wpList_load_mid rfl 56 _ rfl _ _ rfl (bcs (pad x)) _ r2 Tryd.underlying56 rfl ?_ ?_; (rw [size_block, bcs_len, pad_len hl])) | ((with_reducible refine at_store 56 ?_); refine wpList_storeH rfl 56 _ _ rfl _ _ _ rfl rfl ?c4 ?c5 (all_oneCell_toArray (bcs_one _)) ?_; (case c4 => (have := pad_len hl; simp only [List.size_toArray, bcs_len, this]; exact (H.out.below b2).there6 _ _)); (case c5 => (rw [size_block, List.size_toArray, bcs_len, pad_len hl])); intro W3 HW3))
  go_ret
  exact ⟨rfl, H.out.refuse b2 hk (pad_len hl) HW3.out⟩
end Go.Proofs.YtnbagklgagomfaaDoor
