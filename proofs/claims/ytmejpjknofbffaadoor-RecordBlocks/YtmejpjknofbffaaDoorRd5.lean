/-
  The document's Block, walked.
-/
import Derived.Test.YtmejpjknofbffaaDoorRd2
import Derived.Test.YtmejpjknofbffaaDoorRd1b
import Derived.Test.YtmejpjknofbffaaDoorRe7
import Derived.Test.YtmejpjknofbffaaDoorStp
namespace Go.Proofs.YtmejpjknofbffaaDoor
open Go.RowKit Go.Lib
set_option linter.unusedVariables false
set_option linter.unusedSimpArgs false

theorem str_cat (a b : List UInt8) : (⟨a.toArray⟩ : ByteArray) ++ ⟨b.toArray⟩ = ⟨(a ++ b).toArray⟩ := by
  apply ByteArray.ext
  rw [ByteArray.data_append]
  simp
theorem str_sz (a : List UInt8) : (⟨a.toArray⟩ : ByteArray).size = a.length := List.size_toArray
/-- The condition that is held may be made stronger on the way. -/
theorem wpAnyH_more {P : Program} {md : Region.Mode} {ops : Array Oper} {Q : Exit → Act → World → Prop} {S S' : World → Prop} (hS : ∀ w, S' w → S w) : ∀ (fuel : Nat) (listed : Array Bool) (a : Act) (w : World), wpAnyH P md ops Q S' fuel listed a w → wpAnyH P md ops Q S fuel listed a w
  | 0, _, _, _, h => h
  | fuel + 1, _, _, _, h => ⟨h.1, fun i hi => wpOp_mono (fun a' w' h' => ⟨hS w' h'.1, wpAnyH_more hS fuel _ a' w' h'.2⟩) (h.2 i hi)⟩
theorem build1 (z : Int) (w : World) : (Instr.buildSlice 28 1 #[(0, .int .u8 z)]).run Tryd.prog w = .ok (.slice (some ⟨w.heap.size, 0, none⟩) 1 1) (w.alloc (.cells #[.int .u8 z] 5)) := by kernel_rfl
theorem build3 (x y z : Int) (w : World) : (Instr.buildSlice 28 3 #[(0, .int .u8 x), (1, .int .u8 y), (2, .int .u8 z)]).run Tryd.prog w = .ok (.slice (some ⟨w.heap.size, 0, none⟩) 3 3) (w.alloc (.cells #[.int .u8 x, .int .u8 y, .int .u8 z] 5)) := by kernel_rfl
theorem byte_of {k : Nat} (h : k < 256) : ((UInt8.ofNat (k % 256)).toNat : Int) = (k : Int) := by rw [UInt8.toNat_ofNat']; omega
theorem bt_row (W : World) (l : List UInt8) : Bt (W.alloc (.cells (bcs l).toArray 5)) (some ⟨W.heap.size, 0, none⟩) l := fun _ => ⟨_, rfl, fun j v hv => by
  rw [Addr.add_mid]
  exact new_range W (bcs l).toArray 5 j v (by rw [List.toList_toArray]; exact hv)⟩
theorem slice1 (k : Nat) (h : k < 256) (W : World) : ∃ v w1, (Instr.buildSlice 28 1 #[(0, .int .u8 (k : Int))]).run Tryd.prog W = .ok v w1 ∧ ∃ g, v = .slice (some ⟨g, 0, none⟩) 1 1 ∧ Bt w1 (some ⟨g, 0, none⟩) [UInt8.ofNat (k % 256)] ∧ Below W.heap.size W w1 := by
  refine ⟨_, _, build1 _ W, _, rfl, ?_, new_below W _⟩
  have h1 := bt_row W [UInt8.ofNat (k % 256)]
  have e : (bcs [UInt8.ofNat (k % 256)]).toArray = #[.int .u8 (k : Int)] := by
    show #[Value.int .u8 ((UInt8.ofNat (k % 256)).toNat : Int)] = _
    rw [byte_of h]
  rwa [e] at h1
theorem slice3 (a s l : Nat) (ha : a < 256) (hs : s < 256) (hl : l < 256) (W : World) : ∃ v w1, (Instr.buildSlice 28 3 #[(0, .int .u8 (a : Int)), (1, .int .u8 (s : Int)), (2, .int .u8 (l : Int))]).run Tryd.prog W = .ok v w1 ∧ ∃ g, v = .slice (some ⟨g, 0, none⟩) 3 3 ∧ Bt w1 (some ⟨g, 0, none⟩) [UInt8.ofNat (a % 256), UInt8.ofNat (s % 256), UInt8.ofNat (l % 256)] ∧ Below W.heap.size W w1 := by
  refine ⟨_, _, build3 _ _ _ W, _, rfl, ?_, new_below W _⟩
  have h1 := bt_row W [UInt8.ofNat (a % 256), UInt8.ofNat (s % 256), UInt8.ofNat (l % 256)]
  have e : (bcs [UInt8.ofNat (a % 256), UInt8.ofNat (s % 256), UInt8.ofNat (l % 256)]).toArray = #[.int .u8 (a : Int), .int .u8 (s : Int), .int .u8 (l : Int)] := by
    show #[Value.int .u8 ((UInt8.ofNat (a % 256)).toNat : Int), .int .u8 ((UInt8.ofNat (s % 256)).toNat : Int), .int .u8 ((UInt8.ofNat (l % 256)).toNat : Int)] = _
    rw [byte_of ha, byte_of hs, byte_of hl]
  rwa [e] at h1
def FillRel (B : List UInt8) (l : Nat) (W3 : World) (kk : Nat) (o : Value) (wr : World) : Prop := ∃ j : Nat, j + kk = 42 - l ∧ o = .string ⟨(B ++ List.replicate j 0).toArray⟩ ∧ W3 = wr
set_option maxRecDepth 100000 in
set_option maxHeartbeats 16000000 in
theorem refblock_any (k e u a s : Nat) (da : List UInt8) (mk : UInt8) (hk : k < 256) (he : e ≤ 2147483647) (hu : u ≤ 2147483647) (ha : a < 256) (hs : s < 256) (hl : da.length ≤ 42) (w : World) :
    Calls Tryd.prog 11 #[.agg #[.int .i64 (k : Int), .int .i64 (e : Int), .int .i64 (u : Int), .int .i64 (a : Int), .int .i64 (s : Int), .string ⟨da.toArray⟩], .int .u8 (mk.toNat : Int)] w fun ed w' => ed = .returned (.string ⟨(Pc.blk ⟨k, e, u, a, s, da⟩ mk).toArray⟩) ∧ Below w.heap.size w w' := by
  obtain ⟨l, hll⟩ : ∃ l, da.length = l := ⟨_, rfl⟩
  obtain ⟨hd, hhd⟩ : ∃ h, Pc.head ⟨k, e, u, a, s, da⟩ = h := ⟨_, rfl⟩
  have hhl : hd.length = 12 := by rw [← hhd]; exact Pc.head_len _
  have hcat : ([UInt8.ofNat (k % 256)] ++ be 4 e) ++ be 4 u ++ [UInt8.ofNat (a % 256), UInt8.ofNat (s % 256), UInt8.ofNat (l % 256)] = hd := by rw [← hhd, ← hll]; simp [Pc.head, be]
  have HF1 := Lib.hid (fun W => four_any e he W)
  have HF2 := Lib.hid (fun W => four_any u hu W)
  have HS1 := Lib.hid (fun W => slice1 k hk W)
  have HS3 := Lib.hid (fun W => slice3 a s l ha hs (by omega) W)
  have HV1 := Lib.hid (fun (V : World) (g : Nat) (h : Bt V (some ⟨g, 0, none⟩) [UInt8.ofNat (k % 256)]) => (show Sem.run Tryd.prog (convert 28 9 (.slice (some ⟨g, 0, none⟩) 1 1)) V = .ok (.string ⟨[UInt8.ofNat (k % 256)].toArray⟩) V from str_of h 1))
  have HV3 := Lib.hid (fun (V : World) (g : Nat) (h : Bt V (some ⟨g, 0, none⟩) [UInt8.ofNat (a % 256), UInt8.ofNat (s % 256), UInt8.ofNat (l % 256)]) => (show Sem.run Tryd.prog (convert 28 9 (.slice (some ⟨g, 0, none⟩) 3 3)) V = .ok (.string ⟨[UInt8.ofNat (a % 256), UInt8.ofNat (s % 256), UInt8.ofNat (l % 256)].toArray⟩) V from str_of h 3))
  have c1 := str_cat [UInt8.ofNat (k % 256)] (be 4 e)
  have c2 := str_cat ([UInt8.ofNat (k % 256)] ++ be 4 e) (be 4 u)
  have c3 := str_cat ([UInt8.ofNat (k % 256)] ++ be 4 e ++ be 4 u) [UInt8.ofNat (a % 256), UInt8.ofNat (s % 256), UInt8.ofNat (l % 256)]
  have z1 : (⟨[UInt8.ofNat (k % 256)].toArray⟩ : ByteArray).size = 1 := rfl
  have z2 : (⟨(be 4 e).toArray⟩ : ByteArray).size = 4 := by rw [str_sz, be_len]
  have z12 : (⟨([UInt8.ofNat (k % 256)] ++ be 4 e).toArray⟩ : ByteArray).size = 5 := by rw [str_sz, List.length_append, be_len]; rfl
  have z3 : (⟨(be 4 u).toArray⟩ : ByteArray).size = 4 := by rw [str_sz, be_len]
  have z123 : (⟨([UInt8.ofNat (k % 256)] ++ be 4 e ++ be 4 u).toArray⟩ : ByteArray).size = 9 := by rw [str_sz, List.length_append, List.length_append, be_len, be_len]; rfl
  have z4 : (⟨[UInt8.ofNat (a % 256), UInt8.ofNat (s % 256), UInt8.ofNat (l % 256)].toArray⟩ : ByteArray).size = 3 := rfl
  rw [hcat] at c3
  obtain ⟨T1, hT1⟩ : ∃ T : ByteArray, (⟨[UInt8.ofNat (k % 256)].toArray⟩ : ByteArray) = T := ⟨_, rfl⟩
  obtain ⟨T2, hT2⟩ : ∃ T : ByteArray, (⟨(be 4 e).toArray⟩ : ByteArray) = T := ⟨_, rfl⟩
  obtain ⟨T12, hT12⟩ : ∃ T : ByteArray, (⟨([UInt8.ofNat (k % 256)] ++ be 4 e).toArray⟩ : ByteArray) = T := ⟨_, rfl⟩
  obtain ⟨T3, hT3⟩ : ∃ T : ByteArray, (⟨(be 4 u).toArray⟩ : ByteArray) = T := ⟨_, rfl⟩
  obtain ⟨T123, hT123⟩ : ∃ T : ByteArray, (⟨([UInt8.ofNat (k % 256)] ++ be 4 e ++ be 4 u).toArray⟩ : ByteArray) = T := ⟨_, rfl⟩
  obtain ⟨T4, hT4⟩ : ∃ T : ByteArray, (⟨[UInt8.ofNat (a % 256), UInt8.ofNat (s % 256), UInt8.ofNat (l % 256)].toArray⟩ : ByteArray) = T := ⟨_, rfl⟩
  obtain ⟨TH, hTH⟩ : ∃ T : ByteArray, (⟨hd.toArray⟩ : ByteArray) = T := ⟨_, rfl⟩
  obtain ⟨SD, hSD⟩ : ∃ T : ByteArray, (⟨da.toArray⟩ : ByteArray) = T := ⟨_, rfl⟩
  have hsz : SD.size = l := by rw [← hSD, ← hll]; exact List.size_toArray
  rw [hT1] at HV1 z1 c1
  rw [hT2] at HF1 z2 c1
  rw [hT12] at c1 c2 z12
  rw [hT3] at HF2 c2 z3
  rw [hT123] at c2 c3 z123
  rw [hT4] at HV3 c3 z4
  rw [hTH] at c3
  rw [hSD]
  have f1 : ¬ (9223372036854775807 < T1.size + T2.size) := by omega
  have f2 : ¬ (9223372036854775807 < T12.size + T3.size) := by omega
  have f3 : ¬ (9223372036854775807 < T123.size + T4.size) := by omega
  have wk : IntKind.u8.wrap (k : Int) = (k : Int) := by rw [IntKind.wrap_u8']; omega
  have wa : IntKind.u8.wrap (a : Int) = (a : Int) := by rw [IntKind.wrap_u8']; omega
  have ws : IntKind.u8.wrap (s : Int) = (s : Int) := by rw [IntKind.wrap_u8']; omega
  have wl : IntKind.u8.wrap (l : Int) = (l : Int) := by rw [IntKind.wrap_u8']; omega
  obtain ⟨M, hM⟩ : ∃ M : Int, (mk.toNat : Int) = M := ⟨_, rfl⟩
  rw [hM]
  have HEnd := Lib.hid (And.intro hTH (And.intro hSD (And.intro hM (And.intro hll (And.intro hhd hhl)))))
  have hl42 : l ≤ 42 := by omega
  clear z1 z2 z12 z3 z123 z4 hcat hT1 hT2 hT12 hT3 hT123 hT4 hTH hSD hM hll hhd hhl hk he hu ha hs hl
  go_enter Tryd.func11, Tryd.ntmps11
  go_upto_region 1 with (fail)
  obtain ⟨W1, hW1⟩ : ∃ W1, W1 = w.alloc (.cells #[.int .i64 (k : Int), .int .i64 (e : Int), .int .i64 (u : Int), .int .i64 (a : Int), .int .i64 (s : Int), .string SD] 23) := ⟨_, rfl⟩
  rw [← hW1]
  have hp1 : HdD W1 w.heap.size [.int .i64 (k : Int), .int .i64 (e : Int), .int .i64 (u : Int), .int .i64 (a : Int), .int .i64 (s : Int), .string SD] := by rw [hW1]; exact hd_new w _ _
  have HBw := Lib.hid (show Below w.heap.size w W1 by rw [hW1]; exact new_below w _)
  have HC := Lib.hid (fun V (hV : Below W1.heap.size W1 V) => show V.cell? ⟨w.heap.size, 0, none⟩ = some (.int .i64 (k : Int)) ∧ V.cell? ⟨w.heap.size, 1, none⟩ = some (.int .i64 (e : Int)) ∧ V.cell? ⟨w.heap.size, 2, none⟩ = some (.int .i64 (u : Int)) ∧ V.cell? ⟨w.heap.size, 3, none⟩ = some (.int .i64 (a : Int)) ∧ V.cell? ⟨w.heap.size, 4, none⟩ = some (.int .i64 (s : Int)) ∧ V.cell? ⟨w.heap.size, 5, none⟩ = some (.string SD) from by
    have h := hp1.keep (hp1.lt (by simp)) hV
    exact ⟨h.cell 0 _ rfl, h.cell 1 _ rfl, h.cell 2 _ rfl, h.cell 3 _ rfl, h.cell 4 _ rfl, h.cell 5 _ rfl⟩)
  clear hW1 hp1
  go_cut [5] from 7 to 32 (fun v5 wx => v5 = .string TH ∧ Below W1.heap.size W1 wx)
  case first =>
    have HB := Lib.hid (show Below W1.heap.size W1 W1.drew from (Below.refl _ _).drew)
    refine wp_region_held_drew (S := fun V => Below W1.drew.heap.size W1.drew V) (by kernel_rfl) (Below.refl _ _) (fun hS => ?_)
    refine wpAnyH_take (i := 0) (v := .pointer (some ⟨w.heap.size, 0, none⟩)) rfl (by kernel_rfl) (by kernel_rfl) (by kernel_rfl) (fun _ _ _ h => h) (Or.inl ⟨by rfl, ?_⟩) hS ?_
    · intro V hV
      obtain ⟨x0, x1, x2, x3, x4, x5⟩ := HC.out V (HB.out.trans (hV.mono HB.out.size))
      go_simp
    try simp only [List.getElem_toArray, List.getElem_cons_succ, List.getElem_cons_zero, Act.put, List.setIfInBounds_toArray, List.set_cons_zero, List.set_cons_succ]
    refine wpAnyH_take (i := 1) (v := .int .i64 (k : Int)) rfl (by kernel_rfl) (by kernel_rfl) (by kernel_rfl) (fun _ _ _ h => h) (Or.inl ⟨by rfl, ?_⟩) hS ?_
    · intro V hV
      obtain ⟨x0, x1, x2, x3, x4, x5⟩ := HC.out V (HB.out.trans (hV.mono HB.out.size))
      go_simp
    try simp only [List.getElem_toArray, List.getElem_cons_succ, List.getElem_cons_zero, Act.put, List.setIfInBounds_toArray, List.set_cons_zero, List.set_cons_succ]
    refine wpAnyH_take (i := 2) (v := .int .u8 (k : Int)) rfl (by kernel_rfl) (by kernel_rfl) (by kernel_rfl) (fun _ _ _ h => h) (Or.inl ⟨by rfl, ?_⟩) hS ?_
    · intro V hV
      obtain ⟨x0, x1, x2, x3, x4, x5⟩ := HC.out V (HB.out.trans (hV.mono HB.out.size))
      go_simp
    try simp only [List.getElem_toArray, List.getElem_cons_succ, List.getElem_cons_zero, Act.put, List.setIfInBounds_toArray, List.set_cons_zero, List.set_cons_succ]
    refine wpAnyH_take (i := 5) (v := .pointer (some ⟨w.heap.size, 1, none⟩)) rfl (by kernel_rfl) (by kernel_rfl) (by kernel_rfl) (fun _ _ _ h => h) (Or.inl ⟨by rfl, ?_⟩) hS ?_
    · intro V hV
      obtain ⟨x0, x1, x2, x3, x4, x5⟩ := HC.out V (HB.out.trans (hV.mono HB.out.size))
      go_simp
    try simp only [List.getElem_toArray, List.getElem_cons_succ, List.getElem_cons_zero, Act.put, List.setIfInBounds_toArray, List.set_cons_zero, List.set_cons_succ]
    refine wpAnyH_take (i := 6) (v := .int .i64 (e : Int)) rfl (by kernel_rfl) (by kernel_rfl) (by kernel_rfl) (fun _ _ _ h => h) (Or.inl ⟨by rfl, ?_⟩) hS ?_
    · intro V hV
      obtain ⟨x0, x1, x2, x3, x4, x5⟩ := HC.out V (HB.out.trans (hV.mono HB.out.size))
      go_simp
    try simp only [List.getElem_toArray, List.getElem_cons_succ, List.getElem_cons_zero, Act.put, List.setIfInBounds_toArray, List.set_cons_zero, List.set_cons_succ]
    refine wpAnyH_take (i := 9) (v := .pointer (some ⟨w.heap.size, 2, none⟩)) rfl (by kernel_rfl) (by kernel_rfl) (by kernel_rfl) (fun _ _ _ h => h) (Or.inl ⟨by rfl, ?_⟩) hS ?_
    · intro V hV
      obtain ⟨x0, x1, x2, x3, x4, x5⟩ := HC.out V (HB.out.trans (hV.mono HB.out.size))
      go_simp
    try simp only [List.getElem_toArray, List.getElem_cons_succ, List.getElem_cons_zero, Act.put, List.setIfInBounds_toArray, List.set_cons_zero, List.set_cons_succ]
    refine wpAnyH_take (i := 10) (v := .int .i64 (u : Int)) rfl (by kernel_rfl) (by kernel_rfl) (by kernel_rfl) (fun _ _ _ h => h) (Or.inl ⟨by rfl, ?_⟩) hS ?_
    · intro V hV
      obtain ⟨x0, x1, x2, x3, x4, x5⟩ := HC.out V (HB.out.trans (hV.mono HB.out.size))
      go_simp
    try simp only [List.getElem_toArray, List.getElem_cons_succ, List.getElem_cons_zero, Act.put, List.setIfInBounds_toArray, List.set_cons_zero, List.set_cons_succ]
    refine wpAnyH_take (i := 13) (v := .pointer (some ⟨w.heap.size, 3, none⟩)) rfl (by kernel_rfl) (by kernel_rfl) (by kernel_rfl) (fun _ _ _ h => h) (Or.inl ⟨by rfl, ?_⟩) hS ?_
    · intro V hV
      obtain ⟨x0, x1, x2, x3, x4, x5⟩ := HC.out V (HB.out.trans (hV.mono HB.out.size))
      go_simp
    try simp only [List.getElem_toArray, List.getElem_cons_succ, List.getElem_cons_zero, Act.put, List.setIfInBounds_toArray, List.set_cons_zero, List.set_cons_succ]
    refine wpAnyH_take (i := 14) (v := .int .i64 (a : Int)) rfl (by kernel_rfl) (by kernel_rfl) (by kernel_rfl) (fun _ _ _ h => h) (Or.inl ⟨by rfl, ?_⟩) hS ?_
    · intro V hV
      obtain ⟨x0, x1, x2, x3, x4, x5⟩ := HC.out V (HB.out.trans (hV.mono HB.out.size))
      go_simp
    try simp only [List.getElem_toArray, List.getElem_cons_succ, List.getElem_cons_zero, Act.put, List.setIfInBounds_toArray, List.set_cons_zero, List.set_cons_succ]
    refine wpAnyH_take (i := 15) (v := .int .u8 (a : Int)) rfl (by kernel_rfl) (by kernel_rfl) (by kernel_rfl) (fun _ _ _ h => h) (Or.inl ⟨by rfl, ?_⟩) hS ?_
    · intro V hV
      obtain ⟨x0, x1, x2, x3, x4, x5⟩ := HC.out V (HB.out.trans (hV.mono HB.out.size))
      go_simp
    try simp only [List.getElem_toArray, List.getElem_cons_succ, List.getElem_cons_zero, Act.put, List.setIfInBounds_toArray, List.set_cons_zero, List.set_cons_succ]
    refine wpAnyH_take (i := 16) (v := .pointer (some ⟨w.heap.size, 4, none⟩)) rfl (by kernel_rfl) (by kernel_rfl) (by kernel_rfl) (fun _ _ _ h => h) (Or.inl ⟨by rfl, ?_⟩) hS ?_
    · intro V hV
      obtain ⟨x0, x1, x2, x3, x4, x5⟩ := HC.out V (HB.out.trans (hV.mono HB.out.size))
      go_simp
    try simp only [List.getElem_toArray, List.getElem_cons_succ, List.getElem_cons_zero, Act.put, List.setIfInBounds_toArray, List.set_cons_zero, List.set_cons_succ]
    refine wpAnyH_take (i := 17) (v := .int .i64 (s : Int)) rfl (by kernel_rfl) (by kernel_rfl) (by kernel_rfl) (fun _ _ _ h => h) (Or.inl ⟨by rfl, ?_⟩) hS ?_
    · intro V hV
      obtain ⟨x0, x1, x2, x3, x4, x5⟩ := HC.out V (HB.out.trans (hV.mono HB.out.size))
      go_simp
    try simp only [List.getElem_toArray, List.getElem_cons_succ, List.getElem_cons_zero, Act.put, List.setIfInBounds_toArray, List.set_cons_zero, List.set_cons_succ]
    refine wpAnyH_take (i := 18) (v := .int .u8 (s : Int)) rfl (by kernel_rfl) (by kernel_rfl) (by kernel_rfl) (fun _ _ _ h => h) (Or.inl ⟨by rfl, ?_⟩) hS ?_
    · intro V hV
      obtain ⟨x0, x1, x2, x3, x4, x5⟩ := HC.out V (HB.out.trans (hV.mono HB.out.size))
      go_simp
    try simp only [List.getElem_toArray, List.getElem_cons_succ, List.getElem_cons_zero, Act.put, List.setIfInBounds_toArray, List.set_cons_zero, List.set_cons_succ]
    refine wpAnyH_take (i := 19) (v := .pointer (some ⟨w.heap.size, 5, none⟩)) rfl (by kernel_rfl) (by kernel_rfl) (by kernel_rfl) (fun _ _ _ h => h) (Or.inl ⟨by rfl, ?_⟩) hS ?_
    · intro V hV
      obtain ⟨x0, x1, x2, x3, x4, x5⟩ := HC.out V (HB.out.trans (hV.mono HB.out.size))
      go_simp
    try simp only [List.getElem_toArray, List.getElem_cons_succ, List.getElem_cons_zero, Act.put, List.setIfInBounds_toArray, List.set_cons_zero, List.set_cons_succ]
    refine wpAnyH_take (i := 20) (v := .string SD) rfl (by kernel_rfl) (by kernel_rfl) (by kernel_rfl) (fun _ _ _ h => h) (Or.inl ⟨by rfl, ?_⟩) hS ?_
    · intro V hV
      obtain ⟨x0, x1, x2, x3, x4, x5⟩ := HC.out V (HB.out.trans (hV.mono HB.out.size))
      go_simp
    try simp only [List.getElem_toArray, List.getElem_cons_succ, List.getElem_cons_zero, Act.put, List.setIfInBounds_toArray, List.set_cons_zero, List.set_cons_succ]
    refine wpAnyH_take (i := 21) (v := .int .i64 (l : Int)) rfl (by kernel_rfl) (by kernel_rfl) (by kernel_rfl) (fun _ _ _ h => h) (Or.inl ⟨by rfl, ?_⟩) hS ?_
    · intro V hV
      obtain ⟨x0, x1, x2, x3, x4, x5⟩ := HC.out V (HB.out.trans (hV.mono HB.out.size))
      go_simp
    try simp only [List.getElem_toArray, List.getElem_cons_succ, List.getElem_cons_zero, Act.put, List.setIfInBounds_toArray, List.set_cons_zero, List.set_cons_succ]
    refine wpAnyH_take (i := 22) (v := .int .u8 (l : Int)) rfl (by kernel_rfl) (by kernel_rfl) (by kernel_rfl) (fun _ _ _ h => h) (Or.inl ⟨by rfl, ?_⟩) hS ?_
    · intro V hV
      obtain ⟨x0, x1, x2, x3, x4, x5⟩ := HC.out V (HB.out.trans (hV.mono HB.out.size))
      go_simp
    try simp only [List.getElem_toArray, List.getElem_cons_succ, List.getElem_cons_zero, Act.put, List.setIfInBounds_toArray, List.set_cons_zero, List.set_cons_succ]
    refine wpAnyH_ready (rs := [3, 7, 23]) (by kernel_rfl) (by simp) ?_
    refine AllReadyH.cons rfl (fun K hK => ?_) ?_
    · refine step_sliceR rfl 28 1 _ rfl #[(0, .int .u8 (k : Int))] (by first | rfl | (simp [Act.eval]; done) | (go_simp; done) | kernel_rfl) _ (HS1.out _) ?_
      rintro _ W6 ⟨g6, rfl, hB6, hb6⟩
      have HB6 := Lib.hid hb6
      have HBt := Lib.hid hB6
      clear hb6 hB6
      refine hK.out _ _ HB6.out (fun hS => ?_)
      clear hK K hS
      try simp only [List.getElem_toArray, List.getElem_cons_succ, List.getElem_cons_zero, Act.put, List.setIfInBounds_toArray, List.set_cons_zero, List.set_cons_succ]
      refine wpAnyH_more (S' := fun V => Below W6.heap.size W6 V) (fun V hV => HB6.out.trans (hV.mono HB6.out.size)) _ _ _ _ ?_
      have hS := Below.refl W6.heap.size W6
      have HB := Lib.hid (HB.out.trans (HB6.out.mono HB.out.size))
      refine wpAnyH_take (i := 4) (v := .string T1) rfl (by kernel_rfl) (by kernel_rfl) (by kernel_rfl) (fun _ _ _ h => h) (Or.inl ⟨by rfl, ?_⟩) hS ?_
      · intro V hV
        have hcv := HV1.out _ _ (HBt.out.keep hV)
        go_simp
      try simp only [List.getElem_toArray, List.getElem_cons_succ, List.getElem_cons_zero, Act.put, List.setIfInBounds_toArray, List.set_cons_zero, List.set_cons_succ]
      refine wpAnyH_ready (rs := [7, 23]) (by kernel_rfl) (by simp) ?_
      refine AllReadyH.cons rfl (fun K hK => ?_) ?_
      · go_simp
        with_reducible refine (HF1.out _).mono ?_
        rintro e W6 ⟨rfl, hb6⟩
        have HB6 := Lib.hid hb6
        clear hb6
        refine hK.out _ _ HB6.out (fun hS => ?_)
        clear hK K hS
        try simp only [List.getElem_toArray, List.getElem_cons_succ, List.getElem_cons_zero, Act.put, List.setIfInBounds_toArray, List.set_cons_zero, List.set_cons_succ]
        refine wpAnyH_more (S' := fun V => Below W6.heap.size W6 V) (fun V hV => HB6.out.trans (hV.mono HB6.out.size)) _ _ _ _ ?_
        have hS := Below.refl W6.heap.size W6
        have HB := Lib.hid (HB.out.trans (HB6.out.mono HB.out.size))
        refine wpAnyH_take (i := 8) (v := .string T12) rfl (by kernel_rfl) (by kernel_rfl) (by kernel_rfl) (fun _ _ _ h => h) (Or.inl ⟨by rfl, ?_⟩) hS ?_
        · intro V hV
          obtain ⟨x0, x1, x2, x3, x4, x5⟩ := HC.out V (HB.out.trans (hV.mono HB.out.size))
          go_simp
        try simp only [List.getElem_toArray, List.getElem_cons_succ, List.getElem_cons_zero, Act.put, List.setIfInBounds_toArray, List.set_cons_zero, List.set_cons_succ]
        refine wpAnyH_ready (rs := [11, 23]) (by kernel_rfl) (by simp) ?_
        refine AllReadyH.cons rfl (fun K hK => ?_) ?_
        · go_simp
          with_reducible refine (HF2.out _).mono ?_
          rintro e W6 ⟨rfl, hb6⟩
          have HB6 := Lib.hid hb6
          clear hb6
          refine hK.out _ _ HB6.out (fun hS => ?_)
          clear hK K hS
          try simp only [List.getElem_toArray, List.getElem_cons_succ, List.getElem_cons_zero, Act.put, List.setIfInBounds_toArray, List.set_cons_zero, List.set_cons_succ]
          refine wpAnyH_more (S' := fun V => Below W6.heap.size W6 V) (fun V hV => HB6.out.trans (hV.mono HB6.out.size)) _ _ _ _ ?_
          have hS := Below.refl W6.heap.size W6
          have HB := Lib.hid (HB.out.trans (HB6.out.mono HB.out.size))
          refine wpAnyH_take (i := 12) (v := .string T123) rfl (by kernel_rfl) (by kernel_rfl) (by kernel_rfl) (fun _ _ _ h => h) (Or.inl ⟨by rfl, ?_⟩) hS ?_
          · intro V hV
            obtain ⟨x0, x1, x2, x3, x4, x5⟩ := HC.out V (HB.out.trans (hV.mono HB.out.size))
            go_simp
          try simp only [List.getElem_toArray, List.getElem_cons_succ, List.getElem_cons_zero, Act.put, List.setIfInBounds_toArray, List.set_cons_zero, List.set_cons_succ]
          refine wpAnyH_ready (rs := [23]) (by kernel_rfl) (by simp) ?_
          refine AllReadyH.cons rfl (fun K hK => ?_) (AllReadyH.nil)
          refine step_sliceR rfl 28 3 _ rfl #[(0, .int .u8 (a : Int)), (1, .int .u8 (s : Int)), (2, .int .u8 (l : Int))] (by first | rfl | (simp [Act.eval]; done) | (go_simp; done) | kernel_rfl) _ (HS3.out _) ?_
          rintro _ W6 ⟨g6, rfl, hB6, hb6⟩
          have HB6 := Lib.hid hb6
          have HBt := Lib.hid hB6
          clear hb6 hB6
          refine hK.out _ _ HB6.out (fun hS => ?_)
          clear hK K hS
          try simp only [List.getElem_toArray, List.getElem_cons_succ, List.getElem_cons_zero, Act.put, List.setIfInBounds_toArray, List.set_cons_zero, List.set_cons_succ]
          refine wpAnyH_more (S' := fun V => Below W6.heap.size W6 V) (fun V hV => HB6.out.trans (hV.mono HB6.out.size)) _ _ _ _ ?_
          have hS := Below.refl W6.heap.size W6
          have HB := Lib.hid (HB.out.trans (HB6.out.mono HB.out.size))
          refine wpAnyH_take (i := 24) (v := .string T4) rfl (by kernel_rfl) (by kernel_rfl) (by kernel_rfl) (fun _ _ _ h => h) (Or.inl ⟨by rfl, ?_⟩) hS ?_
          · intro V hV
            have hcv := HV3.out _ _ (HBt.out.keep hV)
            go_simp
          try simp only [List.getElem_toArray, List.getElem_cons_succ, List.getElem_cons_zero, Act.put, List.setIfInBounds_toArray, List.set_cons_zero, List.set_cons_succ]
          refine wpAnyH_take (i := 25) (v := .string TH) rfl (by kernel_rfl) (by kernel_rfl) (by kernel_rfl) (fun _ _ _ h => h) (Or.inl ⟨by rfl, ?_⟩) hS ?_
          · intro V hV
            obtain ⟨x0, x1, x2, x3, x4, x5⟩ := HC.out V (HB.out.trans (hV.mono HB.out.size))
            go_simp
          try simp only [List.getElem_toArray, List.getElem_cons_succ, List.getElem_cons_zero, Act.put, List.setIfInBounds_toArray, List.set_cons_zero, List.set_cons_succ]
          refine wpAnyH_take (i := 26) (v := .string TH) rfl (by kernel_rfl) (by kernel_rfl) (by kernel_rfl) (fun _ _ _ h => h) (Or.inl ⟨by rfl, ?_⟩) hS ?_
          · intro V hV
            obtain ⟨x0, x1, x2, x3, x4, x5⟩ := HC.out V (HB.out.trans (hV.mono HB.out.size))
            go_simp
          try simp only [List.getElem_toArray, List.getElem_cons_succ, List.getElem_cons_zero, Act.put, List.setIfInBounds_toArray, List.set_cons_zero, List.set_cons_succ]
          refine wpAnyH_done (by kernel_rfl) ?_ _
          go_wp2_with fail
          go_meet
          exact ⟨rfl, HB.out⟩
        refine AllReadyH.cons rfl (fun K hK => ?_) (AllReadyH.nil)
        refine step_sliceR rfl 28 3 _ rfl #[(0, .int .u8 (a : Int)), (1, .int .u8 (s : Int)), (2, .int .u8 (l : Int))] (by first | rfl | (simp [Act.eval]; done) | (go_simp; done) | kernel_rfl) _ (HS3.out _) ?_
        rintro _ W6 ⟨g6, rfl, hB6, hb6⟩
        have HB6 := Lib.hid hb6
        have HBt := Lib.hid hB6
        clear hb6 hB6
        refine hK.out _ _ HB6.out (fun hS => ?_)
        clear hK K hS
        try simp only [List.getElem_toArray, List.getElem_cons_succ, List.getElem_cons_zero, Act.put, List.setIfInBounds_toArray, List.set_cons_zero, List.set_cons_succ]
        refine wpAnyH_more (S' := fun V => Below W6.heap.size W6 V) (fun V hV => HB6.out.trans (hV.mono HB6.out.size)) _ _ _ _ ?_
        have hS := Below.refl W6.heap.size W6
        have HB := Lib.hid (HB.out.trans (HB6.out.mono HB.out.size))
        refine wpAnyH_take (i := 24) (v := .string T4) rfl (by kernel_rfl) (by kernel_rfl) (by kernel_rfl) (fun _ _ _ h => h) (Or.inl ⟨by rfl, ?_⟩) hS ?_
        · intro V hV
          have hcv := HV3.out _ _ (HBt.out.keep hV)
          go_simp
        try simp only [List.getElem_toArray, List.getElem_cons_succ, List.getElem_cons_zero, Act.put, List.setIfInBounds_toArray, List.set_cons_zero, List.set_cons_succ]
        refine wpAnyH_ready (rs := [11]) (by kernel_rfl) (by simp) ?_
        refine AllReadyH.cons rfl (fun K hK => ?_) (AllReadyH.nil)
        go_simp
        with_reducible refine (HF2.out _).mono ?_
        rintro e W6 ⟨rfl, hb6⟩
        have HB6 := Lib.hid hb6
        clear hb6
        refine hK.out _ _ HB6.out (fun hS => ?_)
        clear hK K hS
        try simp only [List.getElem_toArray, List.getElem_cons_succ, List.getElem_cons_zero, Act.put, List.setIfInBounds_toArray, List.set_cons_zero, List.set_cons_succ]
        refine wpAnyH_more (S' := fun V => Below W6.heap.size W6 V) (fun V hV => HB6.out.trans (hV.mono HB6.out.size)) _ _ _ _ ?_
        have hS := Below.refl W6.heap.size W6
        have HB := Lib.hid (HB.out.trans (HB6.out.mono HB.out.size))
        refine wpAnyH_take (i := 12) (v := .string T123) rfl (by kernel_rfl) (by kernel_rfl) (by kernel_rfl) (fun _ _ _ h => h) (Or.inl ⟨by rfl, ?_⟩) hS ?_
        · intro V hV
          obtain ⟨x0, x1, x2, x3, x4, x5⟩ := HC.out V (HB.out.trans (hV.mono HB.out.size))
          go_simp
        try simp only [List.getElem_toArray, List.getElem_cons_succ, List.getElem_cons_zero, Act.put, List.setIfInBounds_toArray, List.set_cons_zero, List.set_cons_succ]
        refine wpAnyH_take (i := 25) (v := .string TH) rfl (by kernel_rfl) (by kernel_rfl) (by kernel_rfl) (fun _ _ _ h => h) (Or.inl ⟨by rfl, ?_⟩) hS ?_
        · intro V hV
          obtain ⟨x0, x1, x2, x3, x4, x5⟩ := HC.out V (HB.out.trans (hV.mono HB.out.size))
          go_simp
        try simp only [List.getElem_toArray, List.getElem_cons_succ, List.getElem_cons_zero, Act.put, List.setIfInBounds_toArray, List.set_cons_zero, List.set_cons_succ]
        refine wpAnyH_take (i := 26) (v := .string TH) rfl (by kernel_rfl) (by kernel_rfl) (by kernel_rfl) (fun _ _ _ h => h) (Or.inl ⟨by rfl, ?_⟩) hS ?_
        · intro V hV
          obtain ⟨x0, x1, x2, x3, x4, x5⟩ := HC.out V (HB.out.trans (hV.mono HB.out.size))
          go_simp
        try simp only [List.getElem_toArray, List.getElem_cons_succ, List.getElem_cons_zero, Act.put, List.setIfInBounds_toArray, List.set_cons_zero, List.set_cons_succ]
        refine wpAnyH_done (by kernel_rfl) ?_ _
        go_wp2_with fail
        go_meet
        exact ⟨rfl, HB.out⟩
      refine AllReadyH.cons rfl (fun K hK => ?_) (AllReadyH.nil)
      refine step_sliceR rfl 28 3 _ rfl #[(0, .int .u8 (a : Int)), (1, .int .u8 (s : Int)), (2, .int .u8 (l : Int))] (by first | rfl | (simp [Act.eval]; done) | (go_simp; done) | kernel_rfl) _ (HS3.out _) ?_
      rintro _ W6 ⟨g6, rfl, hB6, hb6⟩
      have HB6 := Lib.hid hb6
      have HBt := Lib.hid hB6
      clear hb6 hB6
      refine hK.out _ _ HB6.out (fun hS => ?_)
      clear hK K hS
      try simp only [List.getElem_toArray, List.getElem_cons_succ, List.getElem_cons_zero, Act.put, List.setIfInBounds_toArray, List.set_cons_zero, List.set_cons_succ]
      refine wpAnyH_more (S' := fun V => Below W6.heap.size W6 V) (fun V hV => HB6.out.trans (hV.mono HB6.out.size)) _ _ _ _ ?_
      have hS := Below.refl W6.heap.size W6
      have HB := Lib.hid (HB.out.trans (HB6.out.mono HB.out.size))
      refine wpAnyH_take (i := 24) (v := .string T4) rfl (by kernel_rfl) (by kernel_rfl) (by kernel_rfl) (fun _ _ _ h => h) (Or.inl ⟨by rfl, ?_⟩) hS ?_
      · intro V hV
        have hcv := HV3.out _ _ (HBt.out.keep hV)
        go_simp
      try simp only [List.getElem_toArray, List.getElem_cons_succ, List.getElem_cons_zero, Act.put, List.setIfInBounds_toArray, List.set_cons_zero, List.set_cons_succ]
      refine wpAnyH_ready (rs := [7]) (by kernel_rfl) (by simp) ?_
      refine AllReadyH.cons rfl (fun K hK => ?_) (AllReadyH.nil)
      go_simp
      with_reducible refine (HF1.out _).mono ?_
      rintro e W6 ⟨rfl, hb6⟩
      have HB6 := Lib.hid hb6
      clear hb6
      refine hK.out _ _ HB6.out (fun hS => ?_)
      clear hK K hS
      try simp only [List.getElem_toArray, List.getElem_cons_succ, List.getElem_cons_zero, Act.put, List.setIfInBounds_toArray, List.set_cons_zero, List.set_cons_succ]
      refine wpAnyH_more (S' := fun V => Below W6.heap.size W6 V) (fun V hV => HB6.out.trans (hV.mono HB6.out.size)) _ _ _ _ ?_
      have hS := Below.refl W6.heap.size W6
      have HB := Lib.hid (HB.out.trans (HB6.out.mono HB.out.size))
      refine wpAnyH_take (i := 8) (v := .string T12) rfl (by kernel_rfl) (by kernel_rfl) (by kernel_rfl) (fun _ _ _ h => h) (Or.inl ⟨by rfl, ?_⟩) hS ?_
      · intro V hV
        obtain ⟨x0, x1, x2, x3, x4, x5⟩ := HC.out V (HB.out.trans (hV.mono HB.out.size))
        go_simp
      try simp only [List.getElem_toArray, List.getElem_cons_succ, List.getElem_cons_zero, Act.put, List.setIfInBounds_toArray, List.set_cons_zero, List.set_cons_succ]
      refine wpAnyH_ready (rs := [11]) (by kernel_rfl) (by simp) ?_
      refine AllReadyH.cons rfl (fun K hK => ?_) (AllReadyH.nil)
      go_simp
      with_reducible refine (HF2.out _).mono ?_
      rintro e W6 ⟨rfl, hb6⟩
      have HB6 := Lib.hid hb6
      clear hb6
      refine hK.out _ _ HB6.out (fun hS => ?_)
      clear hK K hS
      try simp only [List.getElem_toArray, List.getElem_cons_succ, List.getElem_cons_zero, Act.put, List.setIfInBounds_toArray, List.set_cons_zero, List.set_cons_succ]
      refine wpAnyH_more (S' := fun V => Below W6.heap.size W6 V) (fun V hV => HB6.out.trans (hV.mono HB6.out.size)) _ _ _ _ ?_
      have hS := Below.refl W6.heap.size W6
      have HB := Lib.hid (HB.out.trans (HB6.out.mono HB.out.size))
      refine wpAnyH_take (i := 12) (v := .string T123) rfl (by kernel_rfl) (by kernel_rfl) (by kernel_rfl) (fun _ _ _ h => h) (Or.inl ⟨by rfl, ?_⟩) hS ?_
      · intro V hV
        obtain ⟨x0, x1, x2, x3, x4, x5⟩ := HC.out V (HB.out.trans (hV.mono HB.out.size))
        go_simp
      try simp only [List.getElem_toArray, List.getElem_cons_succ, List.getElem_cons_zero, Act.put, List.setIfInBounds_toArray, List.set_cons_zero, List.set_cons_succ]
      refine wpAnyH_take (i := 25) (v := .string TH) rfl (by kernel_rfl) (by kernel_rfl) (by kernel_rfl) (fun _ _ _ h => h) (Or.inl ⟨by rfl, ?_⟩) hS ?_
      · intro V hV
        obtain ⟨x0, x1, x2, x3, x4, x5⟩ := HC.out V (HB.out.trans (hV.mono HB.out.size))
        go_simp
      try simp only [List.getElem_toArray, List.getElem_cons_succ, List.getElem_cons_zero, Act.put, List.setIfInBounds_toArray, List.set_cons_zero, List.set_cons_succ]
      refine wpAnyH_take (i := 26) (v := .string TH) rfl (by kernel_rfl) (by kernel_rfl) (by kernel_rfl) (fun _ _ _ h => h) (Or.inl ⟨by rfl, ?_⟩) hS ?_
      · intro V hV
        obtain ⟨x0, x1, x2, x3, x4, x5⟩ := HC.out V (HB.out.trans (hV.mono HB.out.size))
        go_simp
      try simp only [List.getElem_toArray, List.getElem_cons_succ, List.getElem_cons_zero, Act.put, List.setIfInBounds_toArray, List.set_cons_zero, List.set_cons_succ]
      refine wpAnyH_done (by kernel_rfl) ?_ _
      go_wp2_with fail
      go_meet
      exact ⟨rfl, HB.out⟩
    refine AllReadyH.cons rfl (fun K hK => ?_) ?_
    · go_simp
      with_reducible refine (HF1.out _).mono ?_
      rintro e W6 ⟨rfl, hb6⟩
      have HB6 := Lib.hid hb6
      clear hb6
      refine hK.out _ _ HB6.out (fun hS => ?_)
      clear hK K hS
      try simp only [List.getElem_toArray, List.getElem_cons_succ, List.getElem_cons_zero, Act.put, List.setIfInBounds_toArray, List.set_cons_zero, List.set_cons_succ]
      refine wpAnyH_more (S' := fun V => Below W6.heap.size W6 V) (fun V hV => HB6.out.trans (hV.mono HB6.out.size)) _ _ _ _ ?_
      have hS := Below.refl W6.heap.size W6
      have HB := Lib.hid (HB.out.trans (HB6.out.mono HB.out.size))
      refine wpAnyH_ready (rs := [3, 11, 23]) (by kernel_rfl) (by simp) ?_
      refine AllReadyH.cons rfl (fun K hK => ?_) ?_
      · refine step_sliceR rfl 28 1 _ rfl #[(0, .int .u8 (k : Int))] (by first | rfl | (simp [Act.eval]; done) | (go_simp; done) | kernel_rfl) _ (HS1.out _) ?_
        rintro _ W6 ⟨g6, rfl, hB6, hb6⟩
        have HB6 := Lib.hid hb6
        have HBt := Lib.hid hB6
        clear hb6 hB6
        refine hK.out _ _ HB6.out (fun hS => ?_)
        clear hK K hS
        try simp only [List.getElem_toArray, List.getElem_cons_succ, List.getElem_cons_zero, Act.put, List.setIfInBounds_toArray, List.set_cons_zero, List.set_cons_succ]
        refine wpAnyH_more (S' := fun V => Below W6.heap.size W6 V) (fun V hV => HB6.out.trans (hV.mono HB6.out.size)) _ _ _ _ ?_
        have hS := Below.refl W6.heap.size W6
        have HB := Lib.hid (HB.out.trans (HB6.out.mono HB.out.size))
        refine wpAnyH_take (i := 4) (v := .string T1) rfl (by kernel_rfl) (by kernel_rfl) (by kernel_rfl) (fun _ _ _ h => h) (Or.inl ⟨by rfl, ?_⟩) hS ?_
        · intro V hV
          have hcv := HV1.out _ _ (HBt.out.keep hV)
          go_simp
        try simp only [List.getElem_toArray, List.getElem_cons_succ, List.getElem_cons_zero, Act.put, List.setIfInBounds_toArray, List.set_cons_zero, List.set_cons_succ]
        refine wpAnyH_take (i := 8) (v := .string T12) rfl (by kernel_rfl) (by kernel_rfl) (by kernel_rfl) (fun _ _ _ h => h) (Or.inl ⟨by rfl, ?_⟩) hS ?_
        · intro V hV
          obtain ⟨x0, x1, x2, x3, x4, x5⟩ := HC.out V (HB.out.trans (hV.mono HB.out.size))
          go_simp
        try simp only [List.getElem_toArray, List.getElem_cons_succ, List.getElem_cons_zero, Act.put, List.setIfInBounds_toArray, List.set_cons_zero, List.set_cons_succ]
        refine wpAnyH_ready (rs := [11, 23]) (by kernel_rfl) (by simp) ?_
        refine AllReadyH.cons rfl (fun K hK => ?_) ?_
        · go_simp
          with_reducible refine (HF2.out _).mono ?_
          rintro e W6 ⟨rfl, hb6⟩
          have HB6 := Lib.hid hb6
          clear hb6
          refine hK.out _ _ HB6.out (fun hS => ?_)
          clear hK K hS
          try simp only [List.getElem_toArray, List.getElem_cons_succ, List.getElem_cons_zero, Act.put, List.setIfInBounds_toArray, List.set_cons_zero, List.set_cons_succ]
          refine wpAnyH_more (S' := fun V => Below W6.heap.size W6 V) (fun V hV => HB6.out.trans (hV.mono HB6.out.size)) _ _ _ _ ?_
          have hS := Below.refl W6.heap.size W6
          have HB := Lib.hid (HB.out.trans (HB6.out.mono HB.out.size))
          refine wpAnyH_take (i := 12) (v := .string T123) rfl (by kernel_rfl) (by kernel_rfl) (by kernel_rfl) (fun _ _ _ h => h) (Or.inl ⟨by rfl, ?_⟩) hS ?_
          · intro V hV
            obtain ⟨x0, x1, x2, x3, x4, x5⟩ := HC.out V (HB.out.trans (hV.mono HB.out.size))
            go_simp
          try simp only [List.getElem_toArray, List.getElem_cons_succ, List.getElem_cons_zero, Act.put, List.setIfInBounds_toArray, List.set_cons_zero, List.set_cons_succ]
          refine wpAnyH_ready (rs := [23]) (by kernel_rfl) (by simp) ?_
          refine AllReadyH.cons rfl (fun K hK => ?_) (AllReadyH.nil)
          refine step_sliceR rfl 28 3 _ rfl #[(0, .int .u8 (a : Int)), (1, .int .u8 (s : Int)), (2, .int .u8 (l : Int))] (by first | rfl | (simp [Act.eval]; done) | (go_simp; done) | kernel_rfl) _ (HS3.out _) ?_
          rintro _ W6 ⟨g6, rfl, hB6, hb6⟩
          have HB6 := Lib.hid hb6
          have HBt := Lib.hid hB6
          clear hb6 hB6
          refine hK.out _ _ HB6.out (fun hS => ?_)
          clear hK K hS
          try simp only [List.getElem_toArray, List.getElem_cons_succ, List.getElem_cons_zero, Act.put, List.setIfInBounds_toArray, List.set_cons_zero, List.set_cons_succ]
          refine wpAnyH_more (S' := fun V => Below W6.heap.size W6 V) (fun V hV => HB6.out.trans (hV.mono HB6.out.size)) _ _ _ _ ?_
          have hS := Below.refl W6.heap.size W6
          have HB := Lib.hid (HB.out.trans (HB6.out.mono HB.out.size))
          refine wpAnyH_take (i := 24) (v := .string T4) rfl (by kernel_rfl) (by kernel_rfl) (by kernel_rfl) (fun _ _ _ h => h) (Or.inl ⟨by rfl, ?_⟩) hS ?_
          · intro V hV
            have hcv := HV3.out _ _ (HBt.out.keep hV)
            go_simp
          try simp only [List.getElem_toArray, List.getElem_cons_succ, List.getElem_cons_zero, Act.put, List.setIfInBounds_toArray, List.set_cons_zero, List.set_cons_succ]
          refine wpAnyH_take (i := 25) (v := .string TH) rfl (by kernel_rfl) (by kernel_rfl) (by kernel_rfl) (fun _ _ _ h => h) (Or.inl ⟨by rfl, ?_⟩) hS ?_
          · intro V hV
            obtain ⟨x0, x1, x2, x3, x4, x5⟩ := HC.out V (HB.out.trans (hV.mono HB.out.size))
            go_simp
          try simp only [List.getElem_toArray, List.getElem_cons_succ, List.getElem_cons_zero, Act.put, List.setIfInBounds_toArray, List.set_cons_zero, List.set_cons_succ]
          refine wpAnyH_take (i := 26) (v := .string TH) rfl (by kernel_rfl) (by kernel_rfl) (by kernel_rfl) (fun _ _ _ h => h) (Or.inl ⟨by rfl, ?_⟩) hS ?_
          · intro V hV
            obtain ⟨x0, x1, x2, x3, x4, x5⟩ := HC.out V (HB.out.trans (hV.mono HB.out.size))
            go_simp
          try simp only [List.getElem_toArray, List.getElem_cons_succ, List.getElem_cons_zero, Act.put, List.setIfInBounds_toArray, List.set_cons_zero, List.set_cons_succ]
          refine wpAnyH_done (by kernel_rfl) ?_ _
          go_wp2_with fail
          go_meet
          exact ⟨rfl, HB.out⟩
        refine AllReadyH.cons rfl (fun K hK => ?_) (AllReadyH.nil)
        refine step_sliceR rfl 28 3 _ rfl #[(0, .int .u8 (a : Int)), (1, .int .u8 (s : Int)), (2, .int .u8 (l : Int))] (by first | rfl | (simp [Act.eval]; done) | (go_simp; done) | kernel_rfl) _ (HS3.out _) ?_
        rintro _ W6 ⟨g6, rfl, hB6, hb6⟩
        have HB6 := Lib.hid hb6
        have HBt := Lib.hid hB6
        clear hb6 hB6
        refine hK.out _ _ HB6.out (fun hS => ?_)
        clear hK K hS
        try simp only [List.getElem_toArray, List.getElem_cons_succ, List.getElem_cons_zero, Act.put, List.setIfInBounds_toArray, List.set_cons_zero, List.set_cons_succ]
        refine wpAnyH_more (S' := fun V => Below W6.heap.size W6 V) (fun V hV => HB6.out.trans (hV.mono HB6.out.size)) _ _ _ _ ?_
        have hS := Below.refl W6.heap.size W6
        have HB := Lib.hid (HB.out.trans (HB6.out.mono HB.out.size))
        refine wpAnyH_take (i := 24) (v := .string T4) rfl (by kernel_rfl) (by kernel_rfl) (by kernel_rfl) (fun _ _ _ h => h) (Or.inl ⟨by rfl, ?_⟩) hS ?_
        · intro V hV
          have hcv := HV3.out _ _ (HBt.out.keep hV)
          go_simp
        try simp only [List.getElem_toArray, List.getElem_cons_succ, List.getElem_cons_zero, Act.put, List.setIfInBounds_toArray, List.set_cons_zero, List.set_cons_succ]
        refine wpAnyH_ready (rs := [11]) (by kernel_rfl) (by simp) ?_
        refine AllReadyH.cons rfl (fun K hK => ?_) (AllReadyH.nil)
        go_simp
        with_reducible refine (HF2.out _).mono ?_
        rintro e W6 ⟨rfl, hb6⟩
        have HB6 := Lib.hid hb6
        clear hb6
        refine hK.out _ _ HB6.out (fun hS => ?_)
        clear hK K hS
        try simp only [List.getElem_toArray, List.getElem_cons_succ, List.getElem_cons_zero, Act.put, List.setIfInBounds_toArray, List.set_cons_zero, List.set_cons_succ]
        refine wpAnyH_more (S' := fun V => Below W6.heap.size W6 V) (fun V hV => HB6.out.trans (hV.mono HB6.out.size)) _ _ _ _ ?_
        have hS := Below.refl W6.heap.size W6
        have HB := Lib.hid (HB.out.trans (HB6.out.mono HB.out.size))
        refine wpAnyH_take (i := 12) (v := .string T123) rfl (by kernel_rfl) (by kernel_rfl) (by kernel_rfl) (fun _ _ _ h => h) (Or.inl ⟨by rfl, ?_⟩) hS ?_
        · intro V hV
          obtain ⟨x0, x1, x2, x3, x4, x5⟩ := HC.out V (HB.out.trans (hV.mono HB.out.size))
          go_simp
        try simp only [List.getElem_toArray, List.getElem_cons_succ, List.getElem_cons_zero, Act.put, List.setIfInBounds_toArray, List.set_cons_zero, List.set_cons_succ]
        refine wpAnyH_take (i := 25) (v := .string TH) rfl (by kernel_rfl) (by kernel_rfl) (by kernel_rfl) (fun _ _ _ h => h) (Or.inl ⟨by rfl, ?_⟩) hS ?_
        · intro V hV
          obtain ⟨x0, x1, x2, x3, x4, x5⟩ := HC.out V (HB.out.trans (hV.mono HB.out.size))
          go_simp
        try simp only [List.getElem_toArray, List.getElem_cons_succ, List.getElem_cons_zero, Act.put, List.setIfInBounds_toArray, List.set_cons_zero, List.set_cons_succ]
        refine wpAnyH_take (i := 26) (v := .string TH) rfl (by kernel_rfl) (by kernel_rfl) (by kernel_rfl) (fun _ _ _ h => h) (Or.inl ⟨by rfl, ?_⟩) hS ?_
        · intro V hV
          obtain ⟨x0, x1, x2, x3, x4, x5⟩ := HC.out V (HB.out.trans (hV.mono HB.out.size))
          go_simp
        try simp only [List.getElem_toArray, List.getElem_cons_succ, List.getElem_cons_zero, Act.put, List.setIfInBounds_toArray, List.set_cons_zero, List.set_cons_succ]
        refine wpAnyH_done (by kernel_rfl) ?_ _
        go_wp2_with fail
        go_meet
        exact ⟨rfl, HB.out⟩
      refine AllReadyH.cons rfl (fun K hK => ?_) ?_
      · go_simp
        with_reducible refine (HF2.out _).mono ?_
        rintro e W6 ⟨rfl, hb6⟩
        have HB6 := Lib.hid hb6
        clear hb6
        refine hK.out _ _ HB6.out (fun hS => ?_)
        clear hK K hS
        try simp only [List.getElem_toArray, List.getElem_cons_succ, List.getElem_cons_zero, Act.put, List.setIfInBounds_toArray, List.set_cons_zero, List.set_cons_succ]
        refine wpAnyH_more (S' := fun V => Below W6.heap.size W6 V) (fun V hV => HB6.out.trans (hV.mono HB6.out.size)) _ _ _ _ ?_
        have hS := Below.refl W6.heap.size W6
        have HB := Lib.hid (HB.out.trans (HB6.out.mono HB.out.size))
        refine wpAnyH_ready (rs := [3, 23]) (by kernel_rfl) (by simp) ?_
        refine AllReadyH.cons rfl (fun K hK => ?_) ?_
        · refine step_sliceR rfl 28 1 _ rfl #[(0, .int .u8 (k : Int))] (by first | rfl | (simp [Act.eval]; done) | (go_simp; done) | kernel_rfl) _ (HS1.out _) ?_
          rintro _ W6 ⟨g6, rfl, hB6, hb6⟩
          have HB6 := Lib.hid hb6
          have HBt := Lib.hid hB6
          clear hb6 hB6
          refine hK.out _ _ HB6.out (fun hS => ?_)
          clear hK K hS
          try simp only [List.getElem_toArray, List.getElem_cons_succ, List.getElem_cons_zero, Act.put, List.setIfInBounds_toArray, List.set_cons_zero, List.set_cons_succ]
          refine wpAnyH_more (S' := fun V => Below W6.heap.size W6 V) (fun V hV => HB6.out.trans (hV.mono HB6.out.size)) _ _ _ _ ?_
          have hS := Below.refl W6.heap.size W6
          have HB := Lib.hid (HB.out.trans (HB6.out.mono HB.out.size))
          refine wpAnyH_take (i := 4) (v := .string T1) rfl (by kernel_rfl) (by kernel_rfl) (by kernel_rfl) (fun _ _ _ h => h) (Or.inl ⟨by rfl, ?_⟩) hS ?_
          · intro V hV
            have hcv := HV1.out _ _ (HBt.out.keep hV)
            go_simp
          try simp only [List.getElem_toArray, List.getElem_cons_succ, List.getElem_cons_zero, Act.put, List.setIfInBounds_toArray, List.set_cons_zero, List.set_cons_succ]
          refine wpAnyH_take (i := 8) (v := .string T12) rfl (by kernel_rfl) (by kernel_rfl) (by kernel_rfl) (fun _ _ _ h => h) (Or.inl ⟨by rfl, ?_⟩) hS ?_
          · intro V hV
            obtain ⟨x0, x1, x2, x3, x4, x5⟩ := HC.out V (HB.out.trans (hV.mono HB.out.size))
            go_simp
          try simp only [List.getElem_toArray, List.getElem_cons_succ, List.getElem_cons_zero, Act.put, List.setIfInBounds_toArray, List.set_cons_zero, List.set_cons_succ]
          refine wpAnyH_take (i := 12) (v := .string T123) rfl (by kernel_rfl) (by kernel_rfl) (by kernel_rfl) (fun _ _ _ h => h) (Or.inl ⟨by rfl, ?_⟩) hS ?_
          · intro V hV
            obtain ⟨x0, x1, x2, x3, x4, x5⟩ := HC.out V (HB.out.trans (hV.mono HB.out.size))
            go_simp
          try simp only [List.getElem_toArray, List.getElem_cons_succ, List.getElem_cons_zero, Act.put, List.setIfInBounds_toArray, List.set_cons_zero, List.set_cons_succ]
          refine wpAnyH_ready (rs := [23]) (by kernel_rfl) (by simp) ?_
          refine AllReadyH.cons rfl (fun K hK => ?_) (AllReadyH.nil)
          refine step_sliceR rfl 28 3 _ rfl #[(0, .int .u8 (a : Int)), (1, .int .u8 (s : Int)), (2, .int .u8 (l : Int))] (by first | rfl | (simp [Act.eval]; done) | (go_simp; done) | kernel_rfl) _ (HS3.out _) ?_
          rintro _ W6 ⟨g6, rfl, hB6, hb6⟩
          have HB6 := Lib.hid hb6
          have HBt := Lib.hid hB6
          clear hb6 hB6
          refine hK.out _ _ HB6.out (fun hS => ?_)
          clear hK K hS
          try simp only [List.getElem_toArray, List.getElem_cons_succ, List.getElem_cons_zero, Act.put, List.setIfInBounds_toArray, List.set_cons_zero, List.set_cons_succ]
          refine wpAnyH_more (S' := fun V => Below W6.heap.size W6 V) (fun V hV => HB6.out.trans (hV.mono HB6.out.size)) _ _ _ _ ?_
          have hS := Below.refl W6.heap.size W6
          have HB := Lib.hid (HB.out.trans (HB6.out.mono HB.out.size))
          refine wpAnyH_take (i := 24) (v := .string T4) rfl (by kernel_rfl) (by kernel_rfl) (by kernel_rfl) (fun _ _ _ h => h) (Or.inl ⟨by rfl, ?_⟩) hS ?_
          · intro V hV
            have hcv := HV3.out _ _ (HBt.out.keep hV)
            go_simp
          try simp only [List.getElem_toArray, List.getElem_cons_succ, List.getElem_cons_zero, Act.put, List.setIfInBounds_toArray, List.set_cons_zero, List.set_cons_succ]
          refine wpAnyH_take (i := 25) (v := .string TH) rfl (by kernel_rfl) (by kernel_rfl) (by kernel_rfl) (fun _ _ _ h => h) (Or.inl ⟨by rfl, ?_⟩) hS ?_
          · intro V hV
            obtain ⟨x0, x1, x2, x3, x4, x5⟩ := HC.out V (HB.out.trans (hV.mono HB.out.size))
            go_simp
          try simp only [List.getElem_toArray, List.getElem_cons_succ, List.getElem_cons_zero, Act.put, List.setIfInBounds_toArray, List.set_cons_zero, List.set_cons_succ]
          refine wpAnyH_take (i := 26) (v := .string TH) rfl (by kernel_rfl) (by kernel_rfl) (by kernel_rfl) (fun _ _ _ h => h) (Or.inl ⟨by rfl, ?_⟩) hS ?_
          · intro V hV
            obtain ⟨x0, x1, x2, x3, x4, x5⟩ := HC.out V (HB.out.trans (hV.mono HB.out.size))
            go_simp
          try simp only [List.getElem_toArray, List.getElem_cons_succ, List.getElem_cons_zero, Act.put, List.setIfInBounds_toArray, List.set_cons_zero, List.set_cons_succ]
          refine wpAnyH_done (by kernel_rfl) ?_ _
          go_wp2_with fail
          go_meet
          exact ⟨rfl, HB.out⟩
        refine AllReadyH.cons rfl (fun K hK => ?_) (AllReadyH.nil)
        refine step_sliceR rfl 28 3 _ rfl #[(0, .int .u8 (a : Int)), (1, .int .u8 (s : Int)), (2, .int .u8 (l : Int))] (by first | rfl | (simp [Act.eval]; done) | (go_simp; done) | kernel_rfl) _ (HS3.out _) ?_
        rintro _ W6 ⟨g6, rfl, hB6, hb6⟩
        have HB6 := Lib.hid hb6
        have HBt := Lib.hid hB6
        clear hb6 hB6
        refine hK.out _ _ HB6.out (fun hS => ?_)
        clear hK K hS
        try simp only [List.getElem_toArray, List.getElem_cons_succ, List.getElem_cons_zero, Act.put, List.setIfInBounds_toArray, List.set_cons_zero, List.set_cons_succ]
        refine wpAnyH_more (S' := fun V => Below W6.heap.size W6 V) (fun V hV => HB6.out.trans (hV.mono HB6.out.size)) _ _ _ _ ?_
        have hS := Below.refl W6.heap.size W6
        have HB := Lib.hid (HB.out.trans (HB6.out.mono HB.out.size))
        refine wpAnyH_take (i := 24) (v := .string T4) rfl (by kernel_rfl) (by kernel_rfl) (by kernel_rfl) (fun _ _ _ h => h) (Or.inl ⟨by rfl, ?_⟩) hS ?_
        · intro V hV
          have hcv := HV3.out _ _ (HBt.out.keep hV)
          go_simp
        try simp only [List.getElem_toArray, List.getElem_cons_succ, List.getElem_cons_zero, Act.put, List.setIfInBounds_toArray, List.set_cons_zero, List.set_cons_succ]
        refine wpAnyH_ready (rs := [3]) (by kernel_rfl) (by simp) ?_
        refine AllReadyH.cons rfl (fun K hK => ?_) (AllReadyH.nil)
        refine step_sliceR rfl 28 1 _ rfl #[(0, .int .u8 (k : Int))] (by first | rfl | (simp [Act.eval]; done) | (go_simp; done) | kernel_rfl) _ (HS1.out _) ?_
        rintro _ W6 ⟨g6, rfl, hB6, hb6⟩
        have HB6 := Lib.hid hb6
        have HBt := Lib.hid hB6
        clear hb6 hB6
        refine hK.out _ _ HB6.out (fun hS => ?_)
        clear hK K hS
        try simp only [List.getElem_toArray, List.getElem_cons_succ, List.getElem_cons_zero, Act.put, List.setIfInBounds_toArray, List.set_cons_zero, List.set_cons_succ]
        refine wpAnyH_more (S' := fun V => Below W6.heap.size W6 V) (fun V hV => HB6.out.trans (hV.mono HB6.out.size)) _ _ _ _ ?_
        have hS := Below.refl W6.heap.size W6
        have HB := Lib.hid (HB.out.trans (HB6.out.mono HB.out.size))
        refine wpAnyH_take (i := 4) (v := .string T1) rfl (by kernel_rfl) (by kernel_rfl) (by kernel_rfl) (fun _ _ _ h => h) (Or.inl ⟨by rfl, ?_⟩) hS ?_
        · intro V hV
          have hcv := HV1.out _ _ (HBt.out.keep hV)
          go_simp
        try simp only [List.getElem_toArray, List.getElem_cons_succ, List.getElem_cons_zero, Act.put, List.setIfInBounds_toArray, List.set_cons_zero, List.set_cons_succ]
        refine wpAnyH_take (i := 8) (v := .string T12) rfl (by kernel_rfl) (by kernel_rfl) (by kernel_rfl) (fun _ _ _ h => h) (Or.inl ⟨by rfl, ?_⟩) hS ?_
        · intro V hV
          obtain ⟨x0, x1, x2, x3, x4, x5⟩ := HC.out V (HB.out.trans (hV.mono HB.out.size))
          go_simp
        try simp only [List.getElem_toArray, List.getElem_cons_succ, List.getElem_cons_zero, Act.put, List.setIfInBounds_toArray, List.set_cons_zero, List.set_cons_succ]
        refine wpAnyH_take (i := 12) (v := .string T123) rfl (by kernel_rfl) (by kernel_rfl) (by kernel_rfl) (fun _ _ _ h => h) (Or.inl ⟨by rfl, ?_⟩) hS ?_
        · intro V hV
          obtain ⟨x0, x1, x2, x3, x4, x5⟩ := HC.out V (HB.out.trans (hV.mono HB.out.size))
          go_simp
        try simp only [List.getElem_toArray, List.getElem_cons_succ, List.getElem_cons_zero, Act.put, List.setIfInBounds_toArray, List.set_cons_zero, List.set_cons_succ]
        refine wpAnyH_take (i := 25) (v := .string TH) rfl (by kernel_rfl) (by kernel_rfl) (by kernel_rfl) (fun _ _ _ h => h) (Or.inl ⟨by rfl, ?_⟩) hS ?_
        · intro V hV
          obtain ⟨x0, x1, x2, x3, x4, x5⟩ := HC.out V (HB.out.trans (hV.mono HB.out.size))
          go_simp
        try simp only [List.getElem_toArray, List.getElem_cons_succ, List.getElem_cons_zero, Act.put, List.setIfInBounds_toArray, List.set_cons_zero, List.set_cons_succ]
        refine wpAnyH_take (i := 26) (v := .string TH) rfl (by kernel_rfl) (by kernel_rfl) (by kernel_rfl) (fun _ _ _ h => h) (Or.inl ⟨by rfl, ?_⟩) hS ?_
        · intro V hV
          obtain ⟨x0, x1, x2, x3, x4, x5⟩ := HC.out V (HB.out.trans (hV.mono HB.out.size))
          go_simp
        try simp only [List.getElem_toArray, List.getElem_cons_succ, List.getElem_cons_zero, Act.put, List.setIfInBounds_toArray, List.set_cons_zero, List.set_cons_succ]
        refine wpAnyH_done (by kernel_rfl) ?_ _
        go_wp2_with fail
        go_meet
        exact ⟨rfl, HB.out⟩
      refine AllReadyH.cons rfl (fun K hK => ?_) (AllReadyH.nil)
      refine step_sliceR rfl 28 3 _ rfl #[(0, .int .u8 (a : Int)), (1, .int .u8 (s : Int)), (2, .int .u8 (l : Int))] (by first | rfl | (simp [Act.eval]; done) | (go_simp; done) | kernel_rfl) _ (HS3.out _) ?_
      rintro _ W6 ⟨g6, rfl, hB6, hb6⟩
      have HB6 := Lib.hid hb6
      have HBt := Lib.hid hB6
      clear hb6 hB6
      refine hK.out _ _ HB6.out (fun hS => ?_)
      clear hK K hS
      try simp only [List.getElem_toArray, List.getElem_cons_succ, List.getElem_cons_zero, Act.put, List.setIfInBounds_toArray, List.set_cons_zero, List.set_cons_succ]
      refine wpAnyH_more (S' := fun V => Below W6.heap.size W6 V) (fun V hV => HB6.out.trans (hV.mono HB6.out.size)) _ _ _ _ ?_
      have hS := Below.refl W6.heap.size W6
      have HB := Lib.hid (HB.out.trans (HB6.out.mono HB.out.size))
      refine wpAnyH_take (i := 24) (v := .string T4) rfl (by kernel_rfl) (by kernel_rfl) (by kernel_rfl) (fun _ _ _ h => h) (Or.inl ⟨by rfl, ?_⟩) hS ?_
      · intro V hV
        have hcv := HV3.out _ _ (HBt.out.keep hV)
        go_simp
      try simp only [List.getElem_toArray, List.getElem_cons_succ, List.getElem_cons_zero, Act.put, List.setIfInBounds_toArray, List.set_cons_zero, List.set_cons_succ]
      refine wpAnyH_ready (rs := [3, 11]) (by kernel_rfl) (by simp) ?_
      refine AllReadyH.cons rfl (fun K hK => ?_) ?_
      · refine step_sliceR rfl 28 1 _ rfl #[(0, .int .u8 (k : Int))] (by first | rfl | (simp [Act.eval]; done) | (go_simp; done) | kernel_rfl) _ (HS1.out _) ?_
        rintro _ W6 ⟨g6, rfl, hB6, hb6⟩
        have HB6 := Lib.hid hb6
        have HBt := Lib.hid hB6
        clear hb6 hB6
        refine hK.out _ _ HB6.out (fun hS => ?_)
        clear hK K hS
        try simp only [List.getElem_toArray, List.getElem_cons_succ, List.getElem_cons_zero, Act.put, List.setIfInBounds_toArray, List.set_cons_zero, List.set_cons_succ]
        refine wpAnyH_more (S' := fun V => Below W6.heap.size W6 V) (fun V hV => HB6.out.trans (hV.mono HB6.out.size)) _ _ _ _ ?_
        have hS := Below.refl W6.heap.size W6
        have HB := Lib.hid (HB.out.trans (HB6.out.mono HB.out.size))
        refine wpAnyH_take (i := 4) (v := .string T1) rfl (by kernel_rfl) (by kernel_rfl) (by kernel_rfl) (fun _ _ _ h => h) (Or.inl ⟨by rfl, ?_⟩) hS ?_
        · intro V hV
          have hcv := HV1.out _ _ (HBt.out.keep hV)
          go_simp
        try simp only [List.getElem_toArray, List.getElem_cons_succ, List.getElem_cons_zero, Act.put, List.setIfInBounds_toArray, List.set_cons_zero, List.set_cons_succ]
        refine wpAnyH_take (i := 8) (v := .string T12) rfl (by kernel_rfl) (by kernel_rfl) (by kernel_rfl) (fun _ _ _ h => h) (Or.inl ⟨by rfl, ?_⟩) hS ?_
        · intro V hV
          obtain ⟨x0, x1, x2, x3, x4, x5⟩ := HC.out V (HB.out.trans (hV.mono HB.out.size))
          go_simp
        try simp only [List.getElem_toArray, List.getElem_cons_succ, List.getElem_cons_zero, Act.put, List.setIfInBounds_toArray, List.set_cons_zero, List.set_cons_succ]
        refine wpAnyH_ready (rs := [11]) (by kernel_rfl) (by simp) ?_
        refine AllReadyH.cons rfl (fun K hK => ?_) (AllReadyH.nil)
        go_simp
        with_reducible refine (HF2.out _).mono ?_
        rintro e W6 ⟨rfl, hb6⟩
        have HB6 := Lib.hid hb6
        clear hb6
        refine hK.out _ _ HB6.out (fun hS => ?_)
        clear hK K hS
        try simp only [List.getElem_toArray, List.getElem_cons_succ, List.getElem_cons_zero, Act.put, List.setIfInBounds_toArray, List.set_cons_zero, List.set_cons_succ]
        refine wpAnyH_more (S' := fun V => Below W6.heap.size W6 V) (fun V hV => HB6.out.trans (hV.mono HB6.out.size)) _ _ _ _ ?_
        have hS := Below.refl W6.heap.size W6
        have HB := Lib.hid (HB.out.trans (HB6.out.mono HB.out.size))
        refine wpAnyH_take (i := 12) (v := .string T123) rfl (by kernel_rfl) (by kernel_rfl) (by kernel_rfl) (fun _ _ _ h => h) (Or.inl ⟨by rfl, ?_⟩) hS ?_
        · intro V hV
          obtain ⟨x0, x1, x2, x3, x4, x5⟩ := HC.out V (HB.out.trans (hV.mono HB.out.size))
          go_simp
        try simp only [List.getElem_toArray, List.getElem_cons_succ, List.getElem_cons_zero, Act.put, List.setIfInBounds_toArray, List.set_cons_zero, List.set_cons_succ]
        refine wpAnyH_take (i := 25) (v := .string TH) rfl (by kernel_rfl) (by kernel_rfl) (by kernel_rfl) (fun _ _ _ h => h) (Or.inl ⟨by rfl, ?_⟩) hS ?_
        · intro V hV
          obtain ⟨x0, x1, x2, x3, x4, x5⟩ := HC.out V (HB.out.trans (hV.mono HB.out.size))
          go_simp
        try simp only [List.getElem_toArray, List.getElem_cons_succ, List.getElem_cons_zero, Act.put, List.setIfInBounds_toArray, List.set_cons_zero, List.set_cons_succ]
        refine wpAnyH_take (i := 26) (v := .string TH) rfl (by kernel_rfl) (by kernel_rfl) (by kernel_rfl) (fun _ _ _ h => h) (Or.inl ⟨by rfl, ?_⟩) hS ?_
        · intro V hV
          obtain ⟨x0, x1, x2, x3, x4, x5⟩ := HC.out V (HB.out.trans (hV.mono HB.out.size))
          go_simp
        try simp only [List.getElem_toArray, List.getElem_cons_succ, List.getElem_cons_zero, Act.put, List.setIfInBounds_toArray, List.set_cons_zero, List.set_cons_succ]
        refine wpAnyH_done (by kernel_rfl) ?_ _
        go_wp2_with fail
        go_meet
        exact ⟨rfl, HB.out⟩
      refine AllReadyH.cons rfl (fun K hK => ?_) (AllReadyH.nil)
      go_simp
      with_reducible refine (HF2.out _).mono ?_
      rintro e W6 ⟨rfl, hb6⟩
      have HB6 := Lib.hid hb6
      clear hb6
      refine hK.out _ _ HB6.out (fun hS => ?_)
      clear hK K hS
      try simp only [List.getElem_toArray, List.getElem_cons_succ, List.getElem_cons_zero, Act.put, List.setIfInBounds_toArray, List.set_cons_zero, List.set_cons_succ]
      refine wpAnyH_more (S' := fun V => Below W6.heap.size W6 V) (fun V hV => HB6.out.trans (hV.mono HB6.out.size)) _ _ _ _ ?_
      have hS := Below.refl W6.heap.size W6
      have HB := Lib.hid (HB.out.trans (HB6.out.mono HB.out.size))
      refine wpAnyH_ready (rs := [3]) (by kernel_rfl) (by simp) ?_
      refine AllReadyH.cons rfl (fun K hK => ?_) (AllReadyH.nil)
      refine step_sliceR rfl 28 1 _ rfl #[(0, .int .u8 (k : Int))] (by first | rfl | (simp [Act.eval]; done) | (go_simp; done) | kernel_rfl) _ (HS1.out _) ?_
      rintro _ W6 ⟨g6, rfl, hB6, hb6⟩
      have HB6 := Lib.hid hb6
      have HBt := Lib.hid hB6
      clear hb6 hB6
      refine hK.out _ _ HB6.out (fun hS => ?_)
      clear hK K hS
      try simp only [List.getElem_toArray, List.getElem_cons_succ, List.getElem_cons_zero, Act.put, List.setIfInBounds_toArray, List.set_cons_zero, List.set_cons_succ]
      refine wpAnyH_more (S' := fun V => Below W6.heap.size W6 V) (fun V hV => HB6.out.trans (hV.mono HB6.out.size)) _ _ _ _ ?_
      have hS := Below.refl W6.heap.size W6
      have HB := Lib.hid (HB.out.trans (HB6.out.mono HB.out.size))
      refine wpAnyH_take (i := 4) (v := .string T1) rfl (by kernel_rfl) (by kernel_rfl) (by kernel_rfl) (fun _ _ _ h => h) (Or.inl ⟨by rfl, ?_⟩) hS ?_
      · intro V hV
        have hcv := HV1.out _ _ (HBt.out.keep hV)
        go_simp
      try simp only [List.getElem_toArray, List.getElem_cons_succ, List.getElem_cons_zero, Act.put, List.setIfInBounds_toArray, List.set_cons_zero, List.set_cons_succ]
      refine wpAnyH_take (i := 8) (v := .string T12) rfl (by kernel_rfl) (by kernel_rfl) (by kernel_rfl) (fun _ _ _ h => h) (Or.inl ⟨by rfl, ?_⟩) hS ?_
      · intro V hV
        obtain ⟨x0, x1, x2, x3, x4, x5⟩ := HC.out V (HB.out.trans (hV.mono HB.out.size))
        go_simp
      try simp only [List.getElem_toArray, List.getElem_cons_succ, List.getElem_cons_zero, Act.put, List.setIfInBounds_toArray, List.set_cons_zero, List.set_cons_succ]
      refine wpAnyH_take (i := 12) (v := .string T123) rfl (by kernel_rfl) (by kernel_rfl) (by kernel_rfl) (fun _ _ _ h => h) (Or.inl ⟨by rfl, ?_⟩) hS ?_
      · intro V hV
        obtain ⟨x0, x1, x2, x3, x4, x5⟩ := HC.out V (HB.out.trans (hV.mono HB.out.size))
        go_simp
      try simp only [List.getElem_toArray, List.getElem_cons_succ, List.getElem_cons_zero, Act.put, List.setIfInBounds_toArray, List.set_cons_zero, List.set_cons_succ]
      refine wpAnyH_take (i := 25) (v := .string TH) rfl (by kernel_rfl) (by kernel_rfl) (by kernel_rfl) (fun _ _ _ h => h) (Or.inl ⟨by rfl, ?_⟩) hS ?_
      · intro V hV
        obtain ⟨x0, x1, x2, x3, x4, x5⟩ := HC.out V (HB.out.trans (hV.mono HB.out.size))
        go_simp
      try simp only [List.getElem_toArray, List.getElem_cons_succ, List.getElem_cons_zero, Act.put, List.setIfInBounds_toArray, List.set_cons_zero, List.set_cons_succ]
      refine wpAnyH_take (i := 26) (v := .string TH) rfl (by kernel_rfl) (by kernel_rfl) (by kernel_rfl) (fun _ _ _ h => h) (Or.inl ⟨by rfl, ?_⟩) hS ?_
      · intro V hV
        obtain ⟨x0, x1, x2, x3, x4, x5⟩ := HC.out V (HB.out.trans (hV.mono HB.out.size))
        go_simp
      try simp only [List.getElem_toArray, List.getElem_cons_succ, List.getElem_cons_zero, Act.put, List.setIfInBounds_toArray, List.set_cons_zero, List.set_cons_succ]
      refine wpAnyH_done (by kernel_rfl) ?_ _
      go_wp2_with fail
      go_meet
      exact ⟨rfl, HB.out⟩
    refine AllReadyH.cons rfl (fun K hK => ?_) (AllReadyH.nil)
    refine step_sliceR rfl 28 3 _ rfl #[(0, .int .u8 (a : Int)), (1, .int .u8 (s : Int)), (2, .int .u8 (l : Int))] (by first | rfl | (simp [Act.eval]; done) | (go_simp; done) | kernel_rfl) _ (HS3.out _) ?_
    rintro _ W6 ⟨g6, rfl, hB6, hb6⟩
    have HB6 := Lib.hid hb6
    have HBt := Lib.hid hB6
    clear hb6 hB6
    refine hK.out _ _ HB6.out (fun hS => ?_)
    clear hK K hS
    try simp only [List.getElem_toArray, List.getElem_cons_succ, List.getElem_cons_zero, Act.put, List.setIfInBounds_toArray, List.set_cons_zero, List.set_cons_succ]
    refine wpAnyH_more (S' := fun V => Below W6.heap.size W6 V) (fun V hV => HB6.out.trans (hV.mono HB6.out.size)) _ _ _ _ ?_
    have hS := Below.refl W6.heap.size W6
    have HB := Lib.hid (HB.out.trans (HB6.out.mono HB.out.size))
    refine wpAnyH_take (i := 24) (v := .string T4) rfl (by kernel_rfl) (by kernel_rfl) (by kernel_rfl) (fun _ _ _ h => h) (Or.inl ⟨by rfl, ?_⟩) hS ?_
    · intro V hV
      have hcv := HV3.out _ _ (HBt.out.keep hV)
      go_simp
    try simp only [List.getElem_toArray, List.getElem_cons_succ, List.getElem_cons_zero, Act.put, List.setIfInBounds_toArray, List.set_cons_zero, List.set_cons_succ]
    refine wpAnyH_ready (rs := [3, 7]) (by kernel_rfl) (by simp) ?_
    refine AllReadyH.cons rfl (fun K hK => ?_) ?_
    · refine step_sliceR rfl 28 1 _ rfl #[(0, .int .u8 (k : Int))] (by first | rfl | (simp [Act.eval]; done) | (go_simp; done) | kernel_rfl) _ (HS1.out _) ?_
      rintro _ W6 ⟨g6, rfl, hB6, hb6⟩
      have HB6 := Lib.hid hb6
      have HBt := Lib.hid hB6
      clear hb6 hB6
      refine hK.out _ _ HB6.out (fun hS => ?_)
      clear hK K hS
      try simp only [List.getElem_toArray, List.getElem_cons_succ, List.getElem_cons_zero, Act.put, List.setIfInBounds_toArray, List.set_cons_zero, List.set_cons_succ]
      refine wpAnyH_more (S' := fun V => Below W6.heap.size W6 V) (fun V hV => HB6.out.trans (hV.mono HB6.out.size)) _ _ _ _ ?_
      have hS := Below.refl W6.heap.size W6
      have HB := Lib.hid (HB.out.trans (HB6.out.mono HB.out.size))
      refine wpAnyH_take (i := 4) (v := .string T1) rfl (by kernel_rfl) (by kernel_rfl) (by kernel_rfl) (fun _ _ _ h => h) (Or.inl ⟨by rfl, ?_⟩) hS ?_
      · intro V hV
        have hcv := HV1.out _ _ (HBt.out.keep hV)
        go_simp
      try simp only [List.getElem_toArray, List.getElem_cons_succ, List.getElem_cons_zero, Act.put, List.setIfInBounds_toArray, List.set_cons_zero, List.set_cons_succ]
      refine wpAnyH_ready (rs := [7]) (by kernel_rfl) (by simp) ?_
      refine AllReadyH.cons rfl (fun K hK => ?_) (AllReadyH.nil)
      go_simp
      with_reducible refine (HF1.out _).mono ?_
      rintro e W6 ⟨rfl, hb6⟩
      have HB6 := Lib.hid hb6
      clear hb6
      refine hK.out _ _ HB6.out (fun hS => ?_)
      clear hK K hS
      try simp only [List.getElem_toArray, List.getElem_cons_succ, List.getElem_cons_zero, Act.put, List.setIfInBounds_toArray, List.set_cons_zero, List.set_cons_succ]
      refine wpAnyH_more (S' := fun V => Below W6.heap.size W6 V) (fun V hV => HB6.out.trans (hV.mono HB6.out.size)) _ _ _ _ ?_
      have hS := Below.refl W6.heap.size W6
      have HB := Lib.hid (HB.out.trans (HB6.out.mono HB.out.size))
      refine wpAnyH_take (i := 8) (v := .string T12) rfl (by kernel_rfl) (by kernel_rfl) (by kernel_rfl) (fun _ _ _ h => h) (Or.inl ⟨by rfl, ?_⟩) hS ?_
      · intro V hV
        obtain ⟨x0, x1, x2, x3, x4, x5⟩ := HC.out V (HB.out.trans (hV.mono HB.out.size))
        go_simp
      try simp only [List.getElem_toArray, List.getElem_cons_succ, List.getElem_cons_zero, Act.put, List.setIfInBounds_toArray, List.set_cons_zero, List.set_cons_succ]
      refine wpAnyH_ready (rs := [11]) (by kernel_rfl) (by simp) ?_
      refine AllReadyH.cons rfl (fun K hK => ?_) (AllReadyH.nil)
      go_simp
      with_reducible refine (HF2.out _).mono ?_
      rintro e W6 ⟨rfl, hb6⟩
      have HB6 := Lib.hid hb6
      clear hb6
      refine hK.out _ _ HB6.out (fun hS => ?_)
      clear hK K hS
      try simp only [List.getElem_toArray, List.getElem_cons_succ, List.getElem_cons_zero, Act.put, List.setIfInBounds_toArray, List.set_cons_zero, List.set_cons_succ]
      refine wpAnyH_more (S' := fun V => Below W6.heap.size W6 V) (fun V hV => HB6.out.trans (hV.mono HB6.out.size)) _ _ _ _ ?_
      have hS := Below.refl W6.heap.size W6
      have HB := Lib.hid (HB.out.trans (HB6.out.mono HB.out.size))
      refine wpAnyH_take (i := 12) (v := .string T123) rfl (by kernel_rfl) (by kernel_rfl) (by kernel_rfl) (fun _ _ _ h => h) (Or.inl ⟨by rfl, ?_⟩) hS ?_
      · intro V hV
        obtain ⟨x0, x1, x2, x3, x4, x5⟩ := HC.out V (HB.out.trans (hV.mono HB.out.size))
        go_simp
      try simp only [List.getElem_toArray, List.getElem_cons_succ, List.getElem_cons_zero, Act.put, List.setIfInBounds_toArray, List.set_cons_zero, List.set_cons_succ]
      refine wpAnyH_take (i := 25) (v := .string TH) rfl (by kernel_rfl) (by kernel_rfl) (by kernel_rfl) (fun _ _ _ h => h) (Or.inl ⟨by rfl, ?_⟩) hS ?_
      · intro V hV
        obtain ⟨x0, x1, x2, x3, x4, x5⟩ := HC.out V (HB.out.trans (hV.mono HB.out.size))
        go_simp
      try simp only [List.getElem_toArray, List.getElem_cons_succ, List.getElem_cons_zero, Act.put, List.setIfInBounds_toArray, List.set_cons_zero, List.set_cons_succ]
      refine wpAnyH_take (i := 26) (v := .string TH) rfl (by kernel_rfl) (by kernel_rfl) (by kernel_rfl) (fun _ _ _ h => h) (Or.inl ⟨by rfl, ?_⟩) hS ?_
      · intro V hV
        obtain ⟨x0, x1, x2, x3, x4, x5⟩ := HC.out V (HB.out.trans (hV.mono HB.out.size))
        go_simp
      try simp only [List.getElem_toArray, List.getElem_cons_succ, List.getElem_cons_zero, Act.put, List.setIfInBounds_toArray, List.set_cons_zero, List.set_cons_succ]
      refine wpAnyH_done (by kernel_rfl) ?_ _
      go_wp2_with fail
      go_meet
      exact ⟨rfl, HB.out⟩
    refine AllReadyH.cons rfl (fun K hK => ?_) (AllReadyH.nil)
    go_simp
    with_reducible refine (HF1.out _).mono ?_
    rintro e W6 ⟨rfl, hb6⟩
    have HB6 := Lib.hid hb6
    clear hb6
    refine hK.out _ _ HB6.out (fun hS => ?_)
    clear hK K hS
    try simp only [List.getElem_toArray, List.getElem_cons_succ, List.getElem_cons_zero, Act.put, List.setIfInBounds_toArray, List.set_cons_zero, List.set_cons_succ]
    refine wpAnyH_more (S' := fun V => Below W6.heap.size W6 V) (fun V hV => HB6.out.trans (hV.mono HB6.out.size)) _ _ _ _ ?_
    have hS := Below.refl W6.heap.size W6
    have HB := Lib.hid (HB.out.trans (HB6.out.mono HB.out.size))
    refine wpAnyH_ready (rs := [3, 11]) (by kernel_rfl) (by simp) ?_
    refine AllReadyH.cons rfl (fun K hK => ?_) ?_
    · refine step_sliceR rfl 28 1 _ rfl #[(0, .int .u8 (k : Int))] (by first | rfl | (simp [Act.eval]; done) | (go_simp; done) | kernel_rfl) _ (HS1.out _) ?_
      rintro _ W6 ⟨g6, rfl, hB6, hb6⟩
      have HB6 := Lib.hid hb6
      have HBt := Lib.hid hB6
      clear hb6 hB6
      refine hK.out _ _ HB6.out (fun hS => ?_)
      clear hK K hS
      try simp only [List.getElem_toArray, List.getElem_cons_succ, List.getElem_cons_zero, Act.put, List.setIfInBounds_toArray, List.set_cons_zero, List.set_cons_succ]
      refine wpAnyH_more (S' := fun V => Below W6.heap.size W6 V) (fun V hV => HB6.out.trans (hV.mono HB6.out.size)) _ _ _ _ ?_
      have hS := Below.refl W6.heap.size W6
      have HB := Lib.hid (HB.out.trans (HB6.out.mono HB.out.size))
      refine wpAnyH_take (i := 4) (v := .string T1) rfl (by kernel_rfl) (by kernel_rfl) (by kernel_rfl) (fun _ _ _ h => h) (Or.inl ⟨by rfl, ?_⟩) hS ?_
      · intro V hV
        have hcv := HV1.out _ _ (HBt.out.keep hV)
        go_simp
      try simp only [List.getElem_toArray, List.getElem_cons_succ, List.getElem_cons_zero, Act.put, List.setIfInBounds_toArray, List.set_cons_zero, List.set_cons_succ]
      refine wpAnyH_take (i := 8) (v := .string T12) rfl (by kernel_rfl) (by kernel_rfl) (by kernel_rfl) (fun _ _ _ h => h) (Or.inl ⟨by rfl, ?_⟩) hS ?_
      · intro V hV
        obtain ⟨x0, x1, x2, x3, x4, x5⟩ := HC.out V (HB.out.trans (hV.mono HB.out.size))
        go_simp
      try simp only [List.getElem_toArray, List.getElem_cons_succ, List.getElem_cons_zero, Act.put, List.setIfInBounds_toArray, List.set_cons_zero, List.set_cons_succ]
      refine wpAnyH_ready (rs := [11]) (by kernel_rfl) (by simp) ?_
      refine AllReadyH.cons rfl (fun K hK => ?_) (AllReadyH.nil)
      go_simp
      with_reducible refine (HF2.out _).mono ?_
      rintro e W6 ⟨rfl, hb6⟩
      have HB6 := Lib.hid hb6
      clear hb6
      refine hK.out _ _ HB6.out (fun hS => ?_)
      clear hK K hS
      try simp only [List.getElem_toArray, List.getElem_cons_succ, List.getElem_cons_zero, Act.put, List.setIfInBounds_toArray, List.set_cons_zero, List.set_cons_succ]
      refine wpAnyH_more (S' := fun V => Below W6.heap.size W6 V) (fun V hV => HB6.out.trans (hV.mono HB6.out.size)) _ _ _ _ ?_
      have hS := Below.refl W6.heap.size W6
      have HB := Lib.hid (HB.out.trans (HB6.out.mono HB.out.size))
      refine wpAnyH_take (i := 12) (v := .string T123) rfl (by kernel_rfl) (by kernel_rfl) (by kernel_rfl) (fun _ _ _ h => h) (Or.inl ⟨by rfl, ?_⟩) hS ?_
      · intro V hV
        obtain ⟨x0, x1, x2, x3, x4, x5⟩ := HC.out V (HB.out.trans (hV.mono HB.out.size))
        go_simp
      try simp only [List.getElem_toArray, List.getElem_cons_succ, List.getElem_cons_zero, Act.put, List.setIfInBounds_toArray, List.set_cons_zero, List.set_cons_succ]
      refine wpAnyH_take (i := 25) (v := .string TH) rfl (by kernel_rfl) (by kernel_rfl) (by kernel_rfl) (fun _ _ _ h => h) (Or.inl ⟨by rfl, ?_⟩) hS ?_
      · intro V hV
        obtain ⟨x0, x1, x2, x3, x4, x5⟩ := HC.out V (HB.out.trans (hV.mono HB.out.size))
        go_simp
      try simp only [List.getElem_toArray, List.getElem_cons_succ, List.getElem_cons_zero, Act.put, List.setIfInBounds_toArray, List.set_cons_zero, List.set_cons_succ]
      refine wpAnyH_take (i := 26) (v := .string TH) rfl (by kernel_rfl) (by kernel_rfl) (by kernel_rfl) (fun _ _ _ h => h) (Or.inl ⟨by rfl, ?_⟩) hS ?_
      · intro V hV
        obtain ⟨x0, x1, x2, x3, x4, x5⟩ := HC.out V (HB.out.trans (hV.mono HB.out.size))
        go_simp
      try simp only [List.getElem_toArray, List.getElem_cons_succ, List.getElem_cons_zero, Act.put, List.setIfInBounds_toArray, List.set_cons_zero, List.set_cons_succ]
      refine wpAnyH_done (by kernel_rfl) ?_ _
      go_wp2_with fail
      go_meet
      exact ⟨rfl, HB.out⟩
    refine AllReadyH.cons rfl (fun K hK => ?_) (AllReadyH.nil)
    go_simp
    with_reducible refine (HF2.out _).mono ?_
    rintro e W6 ⟨rfl, hb6⟩
    have HB6 := Lib.hid hb6
    clear hb6
    refine hK.out _ _ HB6.out (fun hS => ?_)
    clear hK K hS
    try simp only [List.getElem_toArray, List.getElem_cons_succ, List.getElem_cons_zero, Act.put, List.setIfInBounds_toArray, List.set_cons_zero, List.set_cons_succ]
    refine wpAnyH_more (S' := fun V => Below W6.heap.size W6 V) (fun V hV => HB6.out.trans (hV.mono HB6.out.size)) _ _ _ _ ?_
    have hS := Below.refl W6.heap.size W6
    have HB := Lib.hid (HB.out.trans (HB6.out.mono HB.out.size))
    refine wpAnyH_ready (rs := [3]) (by kernel_rfl) (by simp) ?_
    refine AllReadyH.cons rfl (fun K hK => ?_) (AllReadyH.nil)
    refine step_sliceR rfl 28 1 _ rfl #[(0, .int .u8 (k : Int))] (by first | rfl | (simp [Act.eval]; done) | (go_simp; done) | kernel_rfl) _ (HS1.out _) ?_
    rintro _ W6 ⟨g6, rfl, hB6, hb6⟩
    have HB6 := Lib.hid hb6
    have HBt := Lib.hid hB6
    clear hb6 hB6
    refine hK.out _ _ HB6.out (fun hS => ?_)
    clear hK K hS
    try simp only [List.getElem_toArray, List.getElem_cons_succ, List.getElem_cons_zero, Act.put, List.setIfInBounds_toArray, List.set_cons_zero, List.set_cons_succ]
    refine wpAnyH_more (S' := fun V => Below W6.heap.size W6 V) (fun V hV => HB6.out.trans (hV.mono HB6.out.size)) _ _ _ _ ?_
    have hS := Below.refl W6.heap.size W6
    have HB := Lib.hid (HB.out.trans (HB6.out.mono HB.out.size))
    refine wpAnyH_take (i := 4) (v := .string T1) rfl (by kernel_rfl) (by kernel_rfl) (by kernel_rfl) (fun _ _ _ h => h) (Or.inl ⟨by rfl, ?_⟩) hS ?_
    · intro V hV
      have hcv := HV1.out _ _ (HBt.out.keep hV)
      go_simp
    try simp only [List.getElem_toArray, List.getElem_cons_succ, List.getElem_cons_zero, Act.put, List.setIfInBounds_toArray, List.set_cons_zero, List.set_cons_succ]
    refine wpAnyH_take (i := 8) (v := .string T12) rfl (by kernel_rfl) (by kernel_rfl) (by kernel_rfl) (fun _ _ _ h => h) (Or.inl ⟨by rfl, ?_⟩) hS ?_
    · intro V hV
      obtain ⟨x0, x1, x2, x3, x4, x5⟩ := HC.out V (HB.out.trans (hV.mono HB.out.size))
      go_simp
    try simp only [List.getElem_toArray, List.getElem_cons_succ, List.getElem_cons_zero, Act.put, List.setIfInBounds_toArray, List.set_cons_zero, List.set_cons_succ]
    refine wpAnyH_take (i := 12) (v := .string T123) rfl (by kernel_rfl) (by kernel_rfl) (by kernel_rfl) (fun _ _ _ h => h) (Or.inl ⟨by rfl, ?_⟩) hS ?_
    · intro V hV
      obtain ⟨x0, x1, x2, x3, x4, x5⟩ := HC.out V (HB.out.trans (hV.mono HB.out.size))
      go_simp
    try simp only [List.getElem_toArray, List.getElem_cons_succ, List.getElem_cons_zero, Act.put, List.setIfInBounds_toArray, List.set_cons_zero, List.set_cons_succ]
    refine wpAnyH_take (i := 25) (v := .string TH) rfl (by kernel_rfl) (by kernel_rfl) (by kernel_rfl) (fun _ _ _ h => h) (Or.inl ⟨by rfl, ?_⟩) hS ?_
    · intro V hV
      obtain ⟨x0, x1, x2, x3, x4, x5⟩ := HC.out V (HB.out.trans (hV.mono HB.out.size))
      go_simp
    try simp only [List.getElem_toArray, List.getElem_cons_succ, List.getElem_cons_zero, Act.put, List.setIfInBounds_toArray, List.set_cons_zero, List.set_cons_succ]
    refine wpAnyH_take (i := 26) (v := .string TH) rfl (by kernel_rfl) (by kernel_rfl) (by kernel_rfl) (fun _ _ _ h => h) (Or.inl ⟨by rfl, ?_⟩) hS ?_
    · intro V hV
      obtain ⟨x0, x1, x2, x3, x4, x5⟩ := HC.out V (HB.out.trans (hV.mono HB.out.size))
      go_simp
    try simp only [List.getElem_toArray, List.getElem_cons_succ, List.getElem_cons_zero, Act.put, List.setIfInBounds_toArray, List.set_cons_zero, List.set_cons_succ]
    refine wpAnyH_done (by kernel_rfl) ?_ _
    go_wp2_with fail
    go_meet
    exact ⟨rfl, HB.out⟩
  case rest =>
    obtain ⟨rfl, hbx⟩ := hcut
    obtain ⟨W2, hW2⟩ : ∃ W2 : World, W2 = wc := ⟨wc, rfl⟩
    subst hW2
    obtain ⟨hTH, hSD, hM, hll, hhd, hhl⟩ := HEnd.out
    have HB2 := Lib.hid (HBw.out.trans (hbx.mono HBw.out.size))
    have HC2 := HC.out
    have HC := Lib.hid (fun V (hV : Below W2.heap.size W2 V) => HC2 V (hbx.trans (hV.mono hbx.size)))
    obtain ⟨F, hF⟩ : ∃ F, fnv (hd ++ da) = F := ⟨_, rfl⟩
    have hSm := fun W => refbsum_any (⟨(hd ++ da).toArray⟩ : ByteArray) W (by rw [str_sz, List.length_append]; omega)
    rw [show (⟨(hd ++ da).toArray⟩ : ByteArray).data.toList = hd ++ da from rfl, hF] at hSm
    have hVM := fun (V : World) (g : Nat) (h : Bt V (some ⟨g, 0, none⟩) [mk]) => (show Sem.run Tryd.prog (convert 28 9 (.slice (some ⟨g, 0, none⟩) 1 1)) V = .ok (.string ⟨[mk].toArray⟩) V from str_of h 1)
    have hSM : ∀ W : World, ∃ v w1, (Instr.buildSlice 28 1 #[(0, .int .u8 M)]).run Tryd.prog W = .ok v w1 ∧ ∃ g, v = .slice (some ⟨g, 0, none⟩) 1 1 ∧ Bt w1 (some ⟨g, 0, none⟩) [mk] ∧ Below W.heap.size W w1 := fun W => by
      refine ⟨_, _, build1 _ W, _, rfl, ?_, new_below W _⟩
      have h1 := bt_row W [mk]
      have e : (bcs [mk]).toArray = #[.int .u8 M] := by rw [← hM]; rfl
      rwa [e] at h1
    have g1 := str_cat [mk] hd
    have g2 := str_cat hd da
    have g3 := str_cat ([mk] ++ hd) (be 8 F)
    have g4 := str_cat ([mk] ++ hd ++ be 8 F) da
    have y1 : (⟨[mk].toArray⟩ : ByteArray).size = 1 := rfl
    have y2 : (⟨hd.toArray⟩ : ByteArray).size = 12 := by rw [str_sz, hhl]
    have y3 : (⟨da.toArray⟩ : ByteArray).size = l := by rw [str_sz, hll]
    have y4 : (⟨([mk] ++ hd).toArray⟩ : ByteArray).size = 13 := by rw [str_sz, List.length_append, hhl]; rfl
    have y5 : (⟨(be 8 F).toArray⟩ : ByteArray).size = 8 := by rw [str_sz, be_len]
    have y6 : (⟨([mk] ++ hd ++ be 8 F).toArray⟩ : ByteArray).size = 21 := by rw [str_sz, List.length_append, List.length_append, hhl, be_len]; rfl
    obtain ⟨TM, hTM⟩ : ∃ T : ByteArray, (⟨[mk].toArray⟩ : ByteArray) = T := ⟨_, rfl⟩
    obtain ⟨TMH, hTMH⟩ : ∃ T : ByteArray, (⟨([mk] ++ hd).toArray⟩ : ByteArray) = T := ⟨_, rfl⟩
    obtain ⟨THD, hTHD⟩ : ∃ T : ByteArray, (⟨(hd ++ da).toArray⟩ : ByteArray) = T := ⟨_, rfl⟩
    obtain ⟨TSm, hTSm⟩ : ∃ T : ByteArray, (⟨(be 8 F).toArray⟩ : ByteArray) = T := ⟨_, rfl⟩
    obtain ⟨TMS, hTMS⟩ : ∃ T : ByteArray, (⟨([mk] ++ hd ++ be 8 F).toArray⟩ : ByteArray) = T := ⟨_, rfl⟩
    obtain ⟨TO, hTO⟩ : ∃ T : ByteArray, (⟨([mk] ++ hd ++ be 8 F ++ da).toArray⟩ : ByteArray) = T := ⟨_, rfl⟩
    rw [hTM, hTH, hTMH] at g1
    rw [hTH, hSD, hTHD] at g2
    rw [hTMH, hTSm, hTMS] at g3
    rw [hTMS, hSD, hTO] at g4
    rw [hTM] at y1 hVM
    rw [hTH] at y2
    rw [hSD] at y3
    rw [hTMH] at y4
    rw [hTSm] at y5 hSm
    rw [hTMS] at y6
    rw [hTHD] at hSm
    have HSm := Lib.hid hSm
    have HVM := Lib.hid hVM
    have HSM := Lib.hid hSM
    have k1 : ¬ (9223372036854775807 < TM.size + TH.size) := by omega
    have k2 : ¬ (9223372036854775807 < TH.size + SD.size) := by rw [y2, y3]; omega
    have k3 : ¬ (9223372036854775807 < TMH.size + TSm.size) := by omega
    have k4 : ¬ (9223372036854775807 < TMS.size + SD.size) := by rw [y6, y3]; omega
    have k5 : TH.size + l ≤ 9223372036854775807 := by rw [y2]; omega
    have k6 : TMS.size + l ≤ 9223372036854775807 := by rw [y6]; omega
    have HO := Lib.hid (And.intro hTO (And.intro hF (And.intro hTM (And.intro hhd (And.intro hll (And.intro hM hhl))))))
    clear y1 y2 y3 y4 y5 y6 hSm hVM hSM hTM hTMH hTHD hTSm hTMS hTO hF hTH hSD hM hhl hhd hbx HC2 c1 c2 c3 f1 f2 f3 wk wa ws wl HF1 HF2 HS1 HS3 HV1 HV3
    go_upto_region 2 with (fail)
    go_cut [6] from 33 to 46 (fun v6 wx => v6 = .string TO ∧ Below W2.heap.size W2 wx)
    case first =>
      have HB := Lib.hid (show Below W2.heap.size W2 W2.drew from (Below.refl _ _).drew)
      refine wp_region_held_drew (S := fun V => Below W2.drew.heap.size W2.drew V) (by kernel_rfl) (Below.refl _ _) (fun hS => ?_)
      refine wpAnyH_take (i := 0) (v := .int .u8 M) rfl (by kernel_rfl) (by kernel_rfl) (by kernel_rfl) (fun _ _ _ h => h) (Or.inl ⟨by rfl, ?_⟩) hS ?_
      · intro V hV
        obtain ⟨x0, x1, x2, x3, x4, x5⟩ := HC.out V (HB.out.trans (hV.mono HB.out.size))
        go_simp
      try simp only [List.getElem_toArray, List.getElem_cons_succ, List.getElem_cons_zero, Act.put, List.setIfInBounds_toArray, List.set_cons_zero, List.set_cons_succ]
      refine wpAnyH_take (i := 3) (v := .string TH) rfl (by kernel_rfl) (by kernel_rfl) (by kernel_rfl) (fun _ _ _ h => h) (Or.inl ⟨by rfl, ?_⟩) hS ?_
      · intro V hV
        obtain ⟨x0, x1, x2, x3, x4, x5⟩ := HC.out V (HB.out.trans (hV.mono HB.out.size))
        go_simp
      try simp only [List.getElem_toArray, List.getElem_cons_succ, List.getElem_cons_zero, Act.put, List.setIfInBounds_toArray, List.set_cons_zero, List.set_cons_succ]
      refine wpAnyH_take (i := 5) (v := .string TH) rfl (by kernel_rfl) (by kernel_rfl) (by kernel_rfl) (fun _ _ _ h => h) (Or.inl ⟨by rfl, ?_⟩) hS ?_
      · intro V hV
        obtain ⟨x0, x1, x2, x3, x4, x5⟩ := HC.out V (HB.out.trans (hV.mono HB.out.size))
        go_simp
      try simp only [List.getElem_toArray, List.getElem_cons_succ, List.getElem_cons_zero, Act.put, List.setIfInBounds_toArray, List.set_cons_zero, List.set_cons_succ]
      refine wpAnyH_take (i := 6) (v := .pointer (some ⟨w.heap.size, 5, none⟩)) rfl (by kernel_rfl) (by kernel_rfl) (by kernel_rfl) (fun _ _ _ h => h) (Or.inl ⟨by rfl, ?_⟩) hS ?_
      · intro V hV
        obtain ⟨x0, x1, x2, x3, x4, x5⟩ := HC.out V (HB.out.trans (hV.mono HB.out.size))
        go_simp
      try simp only [List.getElem_toArray, List.getElem_cons_succ, List.getElem_cons_zero, Act.put, List.setIfInBounds_toArray, List.set_cons_zero, List.set_cons_succ]
      refine wpAnyH_take (i := 7) (v := .string SD) rfl (by kernel_rfl) (by kernel_rfl) (by kernel_rfl) (fun _ _ _ h => h) (Or.inl ⟨by rfl, ?_⟩) hS ?_
      · intro V hV
        obtain ⟨x0, x1, x2, x3, x4, x5⟩ := HC.out V (HB.out.trans (hV.mono HB.out.size))
        go_simp
      try simp only [List.getElem_toArray, List.getElem_cons_succ, List.getElem_cons_zero, Act.put, List.setIfInBounds_toArray, List.set_cons_zero, List.set_cons_succ]
      refine wpAnyH_take (i := 8) (v := .string THD) rfl (by kernel_rfl) (by kernel_rfl) (by kernel_rfl) (fun _ _ _ h => h) (Or.inl ⟨by rfl, ?_⟩) hS ?_
      · intro V hV
        obtain ⟨x0, x1, x2, x3, x4, x5⟩ := HC.out V (HB.out.trans (hV.mono HB.out.size))
        go_simp
      try simp only [List.getElem_toArray, List.getElem_cons_succ, List.getElem_cons_zero, Act.put, List.setIfInBounds_toArray, List.set_cons_zero, List.set_cons_succ]
      refine wpAnyH_take (i := 11) (v := .pointer (some ⟨w.heap.size, 5, none⟩)) rfl (by kernel_rfl) (by kernel_rfl) (by kernel_rfl) (fun _ _ _ h => h) (Or.inl ⟨by rfl, ?_⟩) hS ?_
      · intro V hV
        obtain ⟨x0, x1, x2, x3, x4, x5⟩ := HC.out V (HB.out.trans (hV.mono HB.out.size))
        go_simp
      try simp only [List.getElem_toArray, List.getElem_cons_succ, List.getElem_cons_zero, Act.put, List.setIfInBounds_toArray, List.set_cons_zero, List.set_cons_succ]
      refine wpAnyH_take (i := 12) (v := .string SD) rfl (by kernel_rfl) (by kernel_rfl) (by kernel_rfl) (fun _ _ _ h => h) (Or.inl ⟨by rfl, ?_⟩) hS ?_
      · intro V hV
        obtain ⟨x0, x1, x2, x3, x4, x5⟩ := HC.out V (HB.out.trans (hV.mono HB.out.size))
        go_simp
      try simp only [List.getElem_toArray, List.getElem_cons_succ, List.getElem_cons_zero, Act.put, List.setIfInBounds_toArray, List.set_cons_zero, List.set_cons_succ]
      refine wpAnyH_ready (rs := [1, 9]) (by kernel_rfl) (by simp) ?_
      refine AllReadyH.cons rfl (fun K hK => ?_) ?_
      · refine step_sliceR rfl 28 1 _ rfl #[(0, .int .u8 M)] (by first | rfl | (simp [Act.eval]; done) | (go_simp; done) | kernel_rfl) _ (HSM.out _) ?_
        rintro _ W6 ⟨g6, rfl, hB6, hb6⟩
        have HB6 := Lib.hid hb6
        have HBt := Lib.hid hB6
        clear hb6 hB6
        refine hK.out _ _ HB6.out (fun hS => ?_)
        clear hK K hS
        try simp only [List.getElem_toArray, List.getElem_cons_succ, List.getElem_cons_zero, Act.put, List.setIfInBounds_toArray, List.set_cons_zero, List.set_cons_succ]
        refine wpAnyH_more (S' := fun V => Below W6.heap.size W6 V) (fun V hV => HB6.out.trans (hV.mono HB6.out.size)) _ _ _ _ ?_
        have hS := Below.refl W6.heap.size W6
        have HB := Lib.hid (HB.out.trans (HB6.out.mono HB.out.size))
        refine wpAnyH_take (i := 2) (v := .string TM) rfl (by kernel_rfl) (by kernel_rfl) (by kernel_rfl) (fun _ _ _ h => h) (Or.inl ⟨by rfl, ?_⟩) hS ?_
        · intro V hV
          have hcv := HVM.out _ _ (HBt.out.keep hV)
          go_simp
        try simp only [List.getElem_toArray, List.getElem_cons_succ, List.getElem_cons_zero, Act.put, List.setIfInBounds_toArray, List.set_cons_zero, List.set_cons_succ]
        refine wpAnyH_take (i := 4) (v := .string TMH) rfl (by kernel_rfl) (by kernel_rfl) (by kernel_rfl) (fun _ _ _ h => h) (Or.inl ⟨by rfl, ?_⟩) hS ?_
        · intro V hV
          obtain ⟨x0, x1, x2, x3, x4, x5⟩ := HC.out V (HB.out.trans (hV.mono HB.out.size))
          go_simp
        try simp only [List.getElem_toArray, List.getElem_cons_succ, List.getElem_cons_zero, Act.put, List.setIfInBounds_toArray, List.set_cons_zero, List.set_cons_succ]
        refine wpAnyH_ready (rs := [9]) (by kernel_rfl) (by simp) ?_
        refine AllReadyH.cons rfl (fun K hK => ?_) (AllReadyH.nil)
        go_simp
        with_reducible refine (HSm.out _).mono ?_
        rintro e W6 ⟨rfl, hb6⟩
        have HB6 := Lib.hid hb6
        clear hb6
        refine hK.out _ _ HB6.out (fun hS => ?_)
        clear hK K hS
        try simp only [List.getElem_toArray, List.getElem_cons_succ, List.getElem_cons_zero, Act.put, List.setIfInBounds_toArray, List.set_cons_zero, List.set_cons_succ]
        refine wpAnyH_more (S' := fun V => Below W6.heap.size W6 V) (fun V hV => HB6.out.trans (hV.mono HB6.out.size)) _ _ _ _ ?_
        have hS := Below.refl W6.heap.size W6
        have HB := Lib.hid (HB.out.trans (HB6.out.mono HB.out.size))
        refine wpAnyH_take (i := 10) (v := .string TMS) rfl (by kernel_rfl) (by kernel_rfl) (by kernel_rfl) (fun _ _ _ h => h) (Or.inl ⟨by rfl, ?_⟩) hS ?_
        · intro V hV
          obtain ⟨x0, x1, x2, x3, x4, x5⟩ := HC.out V (HB.out.trans (hV.mono HB.out.size))
          go_simp
        try simp only [List.getElem_toArray, List.getElem_cons_succ, List.getElem_cons_zero, Act.put, List.setIfInBounds_toArray, List.set_cons_zero, List.set_cons_succ]
        refine wpAnyH_take (i := 13) (v := .string TO) rfl (by kernel_rfl) (by kernel_rfl) (by kernel_rfl) (fun _ _ _ h => h) (Or.inl ⟨by rfl, ?_⟩) hS ?_
        · intro V hV
          obtain ⟨x0, x1, x2, x3, x4, x5⟩ := HC.out V (HB.out.trans (hV.mono HB.out.size))
          go_simp
        try simp only [List.getElem_toArray, List.getElem_cons_succ, List.getElem_cons_zero, Act.put, List.setIfInBounds_toArray, List.set_cons_zero, List.set_cons_succ]
        refine wpAnyH_take (i := 14) (v := .string TO) rfl (by kernel_rfl) (by kernel_rfl) (by kernel_rfl) (fun _ _ _ h => h) (Or.inl ⟨by rfl, ?_⟩) hS ?_
        · intro V hV
          obtain ⟨x0, x1, x2, x3, x4, x5⟩ := HC.out V (HB.out.trans (hV.mono HB.out.size))
          go_simp
        try simp only [List.getElem_toArray, List.getElem_cons_succ, List.getElem_cons_zero, Act.put, List.setIfInBounds_toArray, List.set_cons_zero, List.set_cons_succ]
        refine wpAnyH_done (by kernel_rfl) ?_ _
        go_wp2_with fail
        go_meet
        exact ⟨rfl, HB.out⟩
      refine AllReadyH.cons rfl (fun K hK => ?_) (AllReadyH.nil)
      go_simp
      with_reducible refine (HSm.out _).mono ?_
      rintro e W6 ⟨rfl, hb6⟩
      have HB6 := Lib.hid hb6
      clear hb6
      refine hK.out _ _ HB6.out (fun hS => ?_)
      clear hK K hS
      try simp only [List.getElem_toArray, List.getElem_cons_succ, List.getElem_cons_zero, Act.put, List.setIfInBounds_toArray, List.set_cons_zero, List.set_cons_succ]
      refine wpAnyH_more (S' := fun V => Below W6.heap.size W6 V) (fun V hV => HB6.out.trans (hV.mono HB6.out.size)) _ _ _ _ ?_
      have hS := Below.refl W6.heap.size W6
      have HB := Lib.hid (HB.out.trans (HB6.out.mono HB.out.size))
      refine wpAnyH_ready (rs := [1]) (by kernel_rfl) (by simp) ?_
      refine AllReadyH.cons rfl (fun K hK => ?_) (AllReadyH.nil)
      refine step_sliceR rfl 28 1 _ rfl #[(0, .int .u8 M)] (by first | rfl | (simp [Act.eval]; done) | (go_simp; done) | kernel_rfl) _ (HSM.out _) ?_
      rintro _ W6 ⟨g6, rfl, hB6, hb6⟩
      have HB6 := Lib.hid hb6
      have HBt := Lib.hid hB6
      clear hb6 hB6
      refine hK.out _ _ HB6.out (fun hS => ?_)
      clear hK K hS
      try simp only [List.getElem_toArray, List.getElem_cons_succ, List.getElem_cons_zero, Act.put, List.setIfInBounds_toArray, List.set_cons_zero, List.set_cons_succ]
      refine wpAnyH_more (S' := fun V => Below W6.heap.size W6 V) (fun V hV => HB6.out.trans (hV.mono HB6.out.size)) _ _ _ _ ?_
      have hS := Below.refl W6.heap.size W6
      have HB := Lib.hid (HB.out.trans (HB6.out.mono HB.out.size))
      refine wpAnyH_take (i := 2) (v := .string TM) rfl (by kernel_rfl) (by kernel_rfl) (by kernel_rfl) (fun _ _ _ h => h) (Or.inl ⟨by rfl, ?_⟩) hS ?_
      · intro V hV
        have hcv := HVM.out _ _ (HBt.out.keep hV)
        go_simp
      try simp only [List.getElem_toArray, List.getElem_cons_succ, List.getElem_cons_zero, Act.put, List.setIfInBounds_toArray, List.set_cons_zero, List.set_cons_succ]
      refine wpAnyH_take (i := 4) (v := .string TMH) rfl (by kernel_rfl) (by kernel_rfl) (by kernel_rfl) (fun _ _ _ h => h) (Or.inl ⟨by rfl, ?_⟩) hS ?_
      · intro V hV
        obtain ⟨x0, x1, x2, x3, x4, x5⟩ := HC.out V (HB.out.trans (hV.mono HB.out.size))
        go_simp
      try simp only [List.getElem_toArray, List.getElem_cons_succ, List.getElem_cons_zero, Act.put, List.setIfInBounds_toArray, List.set_cons_zero, List.set_cons_succ]
      refine wpAnyH_take (i := 10) (v := .string TMS) rfl (by kernel_rfl) (by kernel_rfl) (by kernel_rfl) (fun _ _ _ h => h) (Or.inl ⟨by rfl, ?_⟩) hS ?_
      · intro V hV
        obtain ⟨x0, x1, x2, x3, x4, x5⟩ := HC.out V (HB.out.trans (hV.mono HB.out.size))
        go_simp
      try simp only [List.getElem_toArray, List.getElem_cons_succ, List.getElem_cons_zero, Act.put, List.setIfInBounds_toArray, List.set_cons_zero, List.set_cons_succ]
      refine wpAnyH_take (i := 13) (v := .string TO) rfl (by kernel_rfl) (by kernel_rfl) (by kernel_rfl) (fun _ _ _ h => h) (Or.inl ⟨by rfl, ?_⟩) hS ?_
      · intro V hV
        obtain ⟨x0, x1, x2, x3, x4, x5⟩ := HC.out V (HB.out.trans (hV.mono HB.out.size))
        go_simp
      try simp only [List.getElem_toArray, List.getElem_cons_succ, List.getElem_cons_zero, Act.put, List.setIfInBounds_toArray, List.set_cons_zero, List.set_cons_succ]
      refine wpAnyH_take (i := 14) (v := .string TO) rfl (by kernel_rfl) (by kernel_rfl) (by kernel_rfl) (fun _ _ _ h => h) (Or.inl ⟨by rfl, ?_⟩) hS ?_
      · intro V hV
        obtain ⟨x0, x1, x2, x3, x4, x5⟩ := HC.out V (HB.out.trans (hV.mono HB.out.size))
        go_simp
      try simp only [List.getElem_toArray, List.getElem_cons_succ, List.getElem_cons_zero, Act.put, List.setIfInBounds_toArray, List.set_cons_zero, List.set_cons_succ]
      refine wpAnyH_done (by kernel_rfl) ?_ _
      go_wp2_with fail
      go_meet
      exact ⟨rfl, HB.out⟩
    case rest =>
      obtain ⟨rfl, hby⟩ := hcut
      obtain ⟨W3, hW3⟩ : ∃ W3 : World, W3 = wc := ⟨wc, rfl⟩
      subst hW3
      obtain ⟨hTO, hF, hTM, hhd, hll, hM, hhl⟩ := HO.out
      have HB3 := Lib.hid (HB2.out.trans (hby.mono HB2.out.size))
      obtain ⟨Bs, hBs⟩ : ∃ B, [mk] ++ hd ++ be 8 F ++ da = B := ⟨_, rfl⟩
      have hbl : Bs.length = 21 + l := by rw [← hBs, List.length_append, List.length_append, List.length_append, hhl, be_len, hll]; show 1 + 12 + 8 + l = 21 + l; omega
      have hTO2 : TO = ⟨(Bs ++ List.replicate 0 0).toArray⟩ := by rw [← hTO, hBs]; simp
      have hfinal : Bs ++ List.replicate (42 - l) 0 ++ [mk] = Pc.blk ⟨k, e, u, a, s, da⟩ mk := by rw [← hBs, ← hF, ← hhd, ← hll]; simp [Pc.blk]
      have HBs := Lib.hid (And.intro hbl hfinal)
      have HTM := Lib.hid (And.intro hTM hM)
      rw [hTO2]
      clear hby hTO hF hTM hhd hll hM hhl hBs hbl hTO2 hfinal k1 k2 k3 k4 k5 k6 g1 g2 g3 g4
      go_wp2_with fail
      go_loopg [6] (42 - l) (FillRel Bs l W3)
      case atStart => exact ⟨0, by omega, rfl, rfl⟩
      case round =>
        obtain ⟨j, hj, rfl, hwr⟩ := hrel
        subst hwr
        obtain ⟨q, hq⟩ : ∃ q, 21 + l + j = q := ⟨_, rfl⟩
        have hzq : (⟨(Bs ++ List.replicate j 0).toArray⟩ : ByteArray).size = q := by rw [str_sz, List.length_append, List.length_replicate, HBs.out.1]; exact hq
        by_cases hlt : j < 42 - l
        · have hcj := str_cat (Bs ++ List.replicate j 0) [0]
          have e0 : (⟨[(0 : UInt8)].toArray⟩ : ByteArray) = ⟨#[0]⟩ := rfl
          have e1 : Bs ++ List.replicate j 0 ++ [0] = Bs ++ List.replicate (j + 1) 0 := by rw [List.append_assoc, ← List.replicate_succ']
          rw [e0, e1] at hcj
          obtain ⟨Sj, hSj⟩ : ∃ S : ByteArray, (⟨(Bs ++ List.replicate j 0).toArray⟩ : ByteArray) = S := ⟨_, rfl⟩
          obtain ⟨Sk, hSk⟩ : ∃ S : ByteArray, (⟨(Bs ++ List.replicate (j + 1) 0).toArray⟩ : ByteArray) = S := ⟨_, rfl⟩
          rw [hSj] at hzq hcj
          rw [hSk] at hcj
          rw [hSj]
          have d1 : decide ((q : Int) < 63) = true := decide_eq_true (by omega)
          have d2 : decide (q < 63) = true := decide_eq_true (by omega)
          have hq9 : q + 1 ≤ 9223372036854775807 := by omega
          have hf9 : ¬ (9223372036854775807 < q + 1) := by omega
          have HSk := Lib.hid hSk
          have HJ := Lib.hid (And.intro hj hlt)
          clear hj hSj hSk e0 e1 hlt hq
          go_wp2_with fail
          go_roundg (42 - l - (j + 1))
          case rel => exact ⟨j + 1, by have := HJ.out; omega, by rw [HSk.out], rfl⟩
          case measure => have := HJ.out; omega
        · obtain rfl : j = 42 - l := by omega
          have hq63 : q = 63 := by omega
          subst hq63
          have hcj := str_cat (Bs ++ List.replicate (42 - l) 0) [mk]
          rw [HBs.out.2, HTM.out.1] at hcj
          have hcv : Sem.run Tryd.prog (convert 28 9 (.slice (some ⟨W3.heap.size, 0, none⟩) 1 1)) (W3.alloc (.cells #[.int .u8 M] 5)) = .ok (.string TM) (W3.alloc (.cells #[.int .u8 M] 5)) := by
            have h := conv_new W3 [mk]
            have e : (bcs [mk]).toArray = #[.int .u8 M] := by rw [← HTM.out.2]; rfl
            rw [e, HTM.out.1] at h
            exact h
          have htm : TM.size = 1 := by rw [← HTM.out.1]; rfl
          obtain ⟨Sj, hSj⟩ : ∃ S : ByteArray, (⟨(Bs ++ List.replicate (42 - l) 0).toArray⟩ : ByteArray) = S := ⟨_, rfl⟩
          rw [hSj] at hzq hcj
          rw [hSj]
          have HCj := Lib.hid hcj
          have d1 : decide (((63 : Nat) : Int) < 63) = false := decide_eq_false (by omega)
          clear hSj hj hq hlt hcj
          go_wp2_with fail
          go_ret
          exact ⟨by rw [← HCj.out]; rfl, HB3.out.alloc HB3.out.size _⟩
end Go.Proofs.YtmejpjknofbffaaDoor
