/-
  RecordTorn, walked: a block on which the first bytes of another one stand, whose mark is unlike, isn't read.
-/
import Derived.Test.YthkcimojemofgaaDoorAw7
import Derived.Test.YthkcimojemofgaaDoorRl0
import Derived.Test.YthkcimojemofgaaDoorBkE
import Derived.Test.YthkcimojemofgaaDoorStp
import Derived.Deep.RegionHeld3
import Derived.Deep.RegionWith
namespace Go.Proofs.YthkcimojemofgaaDoor
open Go.RowKit Go.Lib
set_option linter.unusedVariables false
set_option linter.unusedSimpArgs false

theorem torn_mem (w : World) (L0 L1 L2 L3 : List Value) (T0 T1 T2 T3 : TypeId) (W0 : World) (e : W0 = ((((w.alloc (.cells L0.toArray T0)).alloc (.cells L1.toArray T1)).alloc (.cells L2.toArray T2)).alloc (.cells L3.toArray T3)).drew) :
    Below w.heap.size w W0 ∧ ∀ V, Below W0.heap.size W0 V → HdD V w.heap.size L0 ∧ HdD V (w.heap.size + 1) L1 ∧ HdD V (w.heap.size + 1 + 1 + 1) L3 := by
  have z1 : (w.alloc (.cells L0.toArray T0)).heap.size = w.heap.size + 1 := new_size _ _
  have z2 : ((w.alloc (.cells L0.toArray T0)).alloc (.cells L1.toArray T1)).heap.size = w.heap.size + 1 + 1 := by rw [new_size, z1]
  have z3 : (((w.alloc (.cells L0.toArray T0)).alloc (.cells L1.toArray T1)).alloc (.cells L2.toArray T2)).heap.size = w.heap.size + 1 + 1 + 1 := by rw [new_size, z2]
  have z4 : W0.heap.size = w.heap.size + 1 + 1 + 1 + 1 := by rw [e]; exact (new_size _ _).trans (by rw [z3])
  have b4 : Below (w.heap.size + 1 + 1 + 1 + 1) ((((w.alloc (.cells L0.toArray T0)).alloc (.cells L1.toArray T1)).alloc (.cells L2.toArray T2)).alloc (.cells L3.toArray T3)) W0 := by rw [e]; exact (Below.refl _ _).drew
  have b3 : Below (w.heap.size + 1 + 1) ((w.alloc (.cells L0.toArray T0)).alloc (.cells L1.toArray T1)) W0 := by
    refine Below.trans ?_ (b4.mono (by omega))
    exact ((Below.refl _ _).alloc (by omega) _).alloc (by omega) _
  have b1 : Below (w.heap.size + 1) (w.alloc (.cells L0.toArray T0)) W0 := by
    refine Below.trans ?_ (b3.mono (by omega))
    exact (Below.refl _ _).alloc (by omega) _
  have b0 : Below w.heap.size w W0 := by
    refine Below.trans ?_ (b1.mono (by omega))
    exact (Below.refl _ _).alloc (by omega) _
  have h0 := (hd_new w L0 T0).keep (by omega) (by rw [z1]; exact b1)
  have h1 := hd_new (w.alloc (.cells L0.toArray T0)) L1 T1
  rw [z1] at h1
  have h1 := h1.keep (by omega) (by rw [z2]; exact b3)
  have h3 := hd_new (((w.alloc (.cells L0.toArray T0)).alloc (.cells L1.toArray T1)).alloc (.cells L2.toArray T2)) L3 T3
  rw [z3] at h3
  have h3 := h3.keep (by rw [new_size, z3]; omega) (by rw [new_size, z3]; exact b4)
  exact ⟨b0, fun V hV => ⟨h0.keep (by omega) hV, h1.keep (by omega) hV, h3.keep (by omega) hV⟩⟩
theorem field_E0 (x y : Int) (s : ByteArray) (W : World) : Sem.run Tryd.prog (Instr.field 26 (.agg #[.int .i64 x, .int .i64 y, .string s]) 0) W = .ok (.int .i64 x) W := by kernel_rfl
theorem NewBs.at_ {w w' : World} {x : List UInt8} {A : Option Addr} {n c : Nat} (h : NewBs w w' x (.slice A n c)) : Bt w' A x := by
  obtain ⟨A', c', e, h1, -⟩ := h
  injection e with e1 e2 e3
  subst e1
  exact h1
theorem torn_k (m : UInt8) : ∃ k : Nat, Hid (wrap64 (1 + (wrap64 (m.toNat : Int)).tmod 63) = (k : Int)) ∧ 1 ≤ k ∧ k ≤ 63 := by
  have h := m.toNat_lt
  refine ⟨1 + m.toNat % 63, Lib.hid ?_, by omega, by omega⟩
  rw [w64_nat _ (by omega), Int.tmod_eq_emod_of_nonneg (by omega), show (1 : Int) + (m.toNat : Int) % 63 = ((1 + m.toNat % 63 : Nat) : Int) by omega, w64_nat _ (by omega)]
theorem run_winH (W : World) (g n c h : Nat) (k1 : IntKind) (hh : h ≤ c) : Sem.run Tryd.prog (Instr.slice 28 (.slice (some ⟨g, 0, none⟩) n c) none (some (.int k1 (h : Int))) none) W = .ok (.slice (some ⟨g, 0, none⟩) h c) W := by
  have hu : Tryd.prog.underlying 28 = some (.slice (Tryd.prog.elem 28)) := by kernel_rfl
  have he : Tryd.prog.elem 28 = 5 := by kernel_rfl
  have hsz : ∀ W, (Go.sizeOf 5).run Tryd.prog W = .ok 1 W := fun W => by kernel_rfl
  rw [run_slice_h W 28 (some ⟨g, 0, none⟩) n c hu k1 _ (by omega) (by omega), he, hsz]
  simp [Result.andThen, sliced, Addr.add_mid]
theorem run_winL (W : World) (g n c l : Nat) (k1 : IntKind) (hl : l ≤ n) (hc : l < c) : Sem.run Tryd.prog (Instr.slice 28 (.slice (some ⟨g, 0, none⟩) n c) (some (.int k1 (l : Int))) none none) W = .ok (.slice (some ⟨g, l, none⟩) (n - l) (c - l)) W := by
  have hu : Tryd.prog.underlying 28 = some (.slice (Tryd.prog.elem 28)) := by kernel_rfl
  have he : Tryd.prog.elem 28 = 5 := by kernel_rfl
  have hsz : ∀ W, (Go.sizeOf 5).run Tryd.prog W = .ok 1 W := fun W => by kernel_rfl
  rw [run_slice_l W 28 (some ⟨g, 0, none⟩) n c hu k1 _ (by omega) (by omega), he, hsz]
  simp [Result.andThen, sliced]
  rw [if_neg (by omega)]
  simp [Addr.add_mid]
theorem torn_ans {P : Program} {f : FuncId} {args : Array Value} {w : World} {x : List UInt8} (h : readC x = 20) (hc : Calls P f args w (RdAns w x)) : Calls P f args w fun e w' => ∃ A c, e = .returned (.tuple #[zeroPc.pv A c, .int .u8 0, .iface 55 (.int .i64 20)]) ∧ Below w.heap.size w w' := by
  refine hc.mono fun e w' => ?_
  rintro ⟨A, c, rfl, -, -, -, hb⟩
  refine ⟨A, c, ?_, hb⟩
  rw [readA, readM, errR, h, if_neg (by decide), if_neg (by decide), if_neg (by decide)]
  rfl
set_option maxRecDepth 100000 in
set_option maxHeartbeats 8000000 in
theorem lawTorn_any (was p : Pc) (ma mb mc : UInt8) (w : World) (hw : was.Fit) (hp : p.Fit) (hG : G7 w) :
    Calls Tryd.prog 7 #[was.dv, p.dv, .agg #[.int .u8 (ma.toNat : Int), .int .u8 (mb.toNat : Int), .int .u8 (mc.toNat : Int)]] w fun e w' => e = .returned (.bool true) ∧ Below w.heap.size w w' := by
  have hBk := fun (q : Pc) (hq : q.Fit) (ho : q.bad = 0) (A : Option Addr) (c : Nat) (m : UInt8) (W : World) (hB : Bt W A q.da) (hG : G7 W) => block_yes q A c m W hq (Pc.ok_of ho) hB hG.1 hG.2
  have hBw := hBk was hw
  have hBp := hBk p hp
  clear hBk
  have hab := ma.toNat_lt
  have hbb := mb.toNat_lt
  have hcb := mc.toNat_lt
  obtain ⟨a, ha⟩ : ∃ z : Int, (ma.toNat : Int) = z := ⟨_, rfl⟩
  obtain ⟨b, hb⟩ : ∃ z : Int, (mb.toNat : Int) = z := ⟨_, rfl⟩
  obtain ⟨c, hc⟩ : ∃ z : Int, (mc.toNat : Int) = z := ⟨_, rfl⟩
  rw [ha, hb, hc]
  obtain ⟨k, HK, hk1⟩ := torn_k mc
  rw [hc] at HK
  have HABC := Lib.hid (And.intro ha (And.intro hb hk1))
  clear hab hbb hcb ha hb hk1 hc
  unfold Pc.dv
  have hz1 : (⟨was.da.toArray⟩ : ByteArray).size = was.da.length := List.size_toArray
  have hz2 : (⟨p.da.toArray⟩ : ByteArray).size = p.da.length := List.size_toArray
  have hCw := fun W => refrcheck_any was W hw
  have hCp := fun W => refrcheck_any p W hp
  have hRw := fun W => real_pc was W
  have hRp := fun W => real_pc p W
  unfold eV at hCw hCp
  have hfe := field_E0
  unfold Pc.dv at hCw hCp hRw hRp
  unfold Pc.pv at hRw hRp hBw hBp
  obtain ⟨S1, hS1⟩ : ∃ S : ByteArray, (⟨was.da.toArray⟩ : ByteArray) = S := ⟨_, rfl⟩
  obtain ⟨S2, hS2⟩ : ∃ S : ByteArray, (⟨p.da.toArray⟩ : ByteArray) = S := ⟨_, rfl⟩
  rw [hS1] at hz1 hCw hRw
  rw [hS2] at hz2 hCp hRp
  rw [hS1, hS2]
  obtain ⟨n1, hn1⟩ : ∃ n, was.da.length = n := ⟨_, rfl⟩
  obtain ⟨n2, hn2⟩ : ∃ n, p.da.length = n := ⟨_, rfl⟩
  obtain ⟨e1, he1⟩ : ∃ n, eC was = n := ⟨_, rfl⟩
  obtain ⟨e2, he2⟩ : ∃ n, eC p = n := ⟨_, rfl⟩
  rw [hn1] at hz1
  rw [hn2] at hz2
  simp only [hn1] at hRw hBw
  simp only [hn2] at hRp hBp
  rw [he1] at hCw
  rw [he2] at hCp
  have HNs := Lib.hid (And.intro hn1 (And.intro hn2 (And.intro he1 he2)))
  clear hn1 hn2 he1 he2
  have HCw := Lib.hid hCw
  have HCp := Lib.hid hCp
  have HBw := Lib.hid hBw
  have HBp := Lib.hid hBp
  have HRw := Lib.hid hRw
  have HRp := Lib.hid hRp
  clear hCw hCp hRw hRp hBw hBp hS1 hS2
  go_enter Tryd.func7, Tryd.ntmps7
  go_upto_region 1 with (fail)
  go_region
  obtain ⟨W0, hW0⟩ : ∃ W0, W0 = ((((w.alloc (.cells #[.int .i64 was.kd, .int .i64 was.ep, .int .i64 was.nu, .int .i64 was.pa, .int .i64 was.ps, .string S1] 23)).alloc (.cells #[.int .i64 p.kd, .int .i64 p.ep, .int .i64 p.nu, .int .i64 p.pa, .int .i64 p.ps, .string S2] 23)).alloc (.cells #[.int .u8 a, .int .u8 b, .int .u8 c] 61)).alloc (.cells #[.int .u8 a, .int .u8 b] 62)).drew := ⟨_, rfl⟩
  rw [← hW0]
  obtain ⟨b0, hM⟩ := torn_mem w [.int .i64 was.kd, .int .i64 was.ep, .int .i64 was.nu, .int .i64 was.pa, .int .i64 was.ps, .string S1] [.int .i64 p.kd, .int .i64 p.ep, .int .i64 p.nu, .int .i64 p.pa, .int .i64 p.ps, .string S2] [.int .u8 a, .int .u8 b, .int .u8 c] [.int .u8 a, .int .u8 b] _ _ _ _ W0 hW0
  have B0 := Lib.hid b0
  have H3 := Lib.hid (fun V (hV : Below W0.heap.size W0 V) => show V.cell? ⟨w.heap.size, 0, none⟩ = some (.int .i64 was.kd) ∧ V.cell? ⟨w.heap.size, 1, none⟩ = some (.int .i64 was.ep) ∧ V.cell? ⟨w.heap.size, 2, none⟩ = some (.int .i64 was.nu) ∧ V.cell? ⟨w.heap.size, 3, none⟩ = some (.int .i64 was.pa) ∧ V.cell? ⟨w.heap.size, 4, none⟩ = some (.int .i64 was.ps) ∧ V.cell? ⟨w.heap.size, 5, none⟩ = some (.string S1) ∧ V.cell? ⟨w.heap.size + 1, 0, none⟩ = some (.int .i64 p.kd) ∧ V.cell? ⟨w.heap.size + 1, 1, none⟩ = some (.int .i64 p.ep) ∧ V.cell? ⟨w.heap.size + 1, 2, none⟩ = some (.int .i64 p.nu) ∧ V.cell? ⟨w.heap.size + 1, 3, none⟩ = some (.int .i64 p.pa) ∧ V.cell? ⟨w.heap.size + 1, 4, none⟩ = some (.int .i64 p.ps) ∧ V.cell? ⟨w.heap.size + 1, 5, none⟩ = some (.string S2) ∧ V.cell? ⟨w.heap.size + 1 + 1 + 1, 0, none⟩ = some (.int .u8 a) ∧ V.cell? ⟨w.heap.size + 1 + 1 + 1, 1, none⟩ = some (.int .u8 b) from by
    obtain ⟨h0, h1, h3⟩ := hM V hV
    exact ⟨h0.cell 0 _ rfl, h0.cell 1 _ rfl, h0.cell 2 _ rfl, h0.cell 3 _ rfl, h0.cell 4 _ rfl, h0.cell 5 _ rfl, h1.cell 0 _ rfl, h1.cell 1 _ rfl, h1.cell 2 _ rfl, h1.cell 3 _ rfl, h1.cell 4 _ rfl, h1.cell 5 _ rfl, h3.cell 0 _ rfl, h3.cell 1 _ rfl⟩)
  clear hM b0
  have HAw := Lib.hid (fun W (hW : Below W0.heap.size W0 W) => awake7_any W (hG.below (B0.out.trans (hW.mono B0.out.size))))
  have HG := Lib.hid (fun W (hW : Below W0.heap.size W0 W) => hG.below (B0.out.trans (hW.mono B0.out.size)))
  have HBc := Lib.hid (Below.refl W0.heap.size W0)
  obtain ⟨x0, x1, x2, x3, x4, x5, x6, x7, x8, x9, x10, x11, x12, x13⟩ := H3.out W0 HBc.out
  clear hW0 hG
  go_upto_region 2 with (fail)
  go_cut [56] from 24 to 56 (fun v56 wx => v56 = .bool (decide (100 < n2 ∨ 100 < n1 ∨ e2 ≠ 0 ∨ e1 ≠ 0 ∨ a = b)) ∧ Below W0.heap.size W0 wx)
  case first =>
    by_cases c1 : 100 < n2
    · have d1 : decide ((100 : Int) < (n2 : Int)) = true := decide_eq_true (by omega)
      have C1 := Lib.hid c1
      clear c1
      go_wp2_with (first
        | (go_at_call 9; go_must (refine (HAw.out _ HBc.out).mono ?_; rintro e W1 ⟨rfl, hb1⟩; have HBc := Lib.hid (HBc.out.trans (hb1.mono HBc.out.size)); clear hb1 x0 x1 x2 x3 x4 x5 x6 x7 x8 x9 x10 x11 x12 x13; obtain ⟨x0, x1, x2, x3, x4, x5, x6, x7, x8, x9, x10, x11, x12, x13⟩ := H3.out W1 HBc.out))
        | (go_at_call 10; go_must ((first | with_reducible refine (HCp.out _).mono ?_ | with_reducible refine (HCw.out _).mono ?_); rintro e W1 ⟨rfl, hb1⟩; have HBc := Lib.hid (HBc.out.trans (hb1.mono HBc.out.size)); clear hb1 x0 x1 x2 x3 x4 x5 x6 x7 x8 x9 x10 x11 x12 x13; obtain ⟨x0, x1, x2, x3, x4, x5, x6, x7, x8, x9, x10, x11, x12, x13⟩ := H3.out W1 HBc.out)))
      go_meet
      exact ⟨by rw [decide_eq_true (Or.inl C1.out)], HBc.out⟩
    have d1 : decide ((100 : Int) < (n2 : Int)) = false := decide_eq_false (by omega)
    have C1 := Lib.hid c1
    clear c1
    by_cases c2 : 100 < n1
    · have d2 : decide ((100 : Int) < (n1 : Int)) = true := decide_eq_true (by omega)
      have C2 := Lib.hid c2
      clear c2
      go_wp2_with (first
        | (go_at_call 9; go_must (refine (HAw.out _ HBc.out).mono ?_; rintro e W1 ⟨rfl, hb1⟩; have HBc := Lib.hid (HBc.out.trans (hb1.mono HBc.out.size)); clear hb1 x0 x1 x2 x3 x4 x5 x6 x7 x8 x9 x10 x11 x12 x13; obtain ⟨x0, x1, x2, x3, x4, x5, x6, x7, x8, x9, x10, x11, x12, x13⟩ := H3.out W1 HBc.out))
        | (go_at_call 10; go_must ((first | with_reducible refine (HCp.out _).mono ?_ | with_reducible refine (HCw.out _).mono ?_); rintro e W1 ⟨rfl, hb1⟩; have HBc := Lib.hid (HBc.out.trans (hb1.mono HBc.out.size)); clear hb1 x0 x1 x2 x3 x4 x5 x6 x7 x8 x9 x10 x11 x12 x13; obtain ⟨x0, x1, x2, x3, x4, x5, x6, x7, x8, x9, x10, x11, x12, x13⟩ := H3.out W1 HBc.out)))
      go_meet
      exact ⟨by rw [decide_eq_true (Or.inr (Or.inl C2.out))], HBc.out⟩
    have d2 : decide ((100 : Int) < (n1 : Int)) = false := decide_eq_false (by omega)
    have C2 := Lib.hid c2
    clear c2
    by_cases c3 : e2 ≠ 0
    · have d3 : (e2 != 0) = true := by rw [bne_iff_ne]; exact c3
      have C3 := Lib.hid c3
      clear c3
      go_wp2_with (first
        | (go_at_call 9; go_must (refine (HAw.out _ HBc.out).mono ?_; rintro e W1 ⟨rfl, hb1⟩; have HBc := Lib.hid (HBc.out.trans (hb1.mono HBc.out.size)); clear hb1 x0 x1 x2 x3 x4 x5 x6 x7 x8 x9 x10 x11 x12 x13; obtain ⟨x0, x1, x2, x3, x4, x5, x6, x7, x8, x9, x10, x11, x12, x13⟩ := H3.out W1 HBc.out))
        | (go_at_call 10; go_must ((first | with_reducible refine (HCp.out _).mono ?_ | with_reducible refine (HCw.out _).mono ?_); rintro e W1 ⟨rfl, hb1⟩; have HBc := Lib.hid (HBc.out.trans (hb1.mono HBc.out.size)); clear hb1 x0 x1 x2 x3 x4 x5 x6 x7 x8 x9 x10 x11 x12 x13; obtain ⟨x0, x1, x2, x3, x4, x5, x6, x7, x8, x9, x10, x11, x12, x13⟩ := H3.out W1 HBc.out)))
      go_meet
      exact ⟨by rw [decide_eq_true (Or.inr (Or.inr (Or.inl C3.out)))], HBc.out⟩
    have d3 : (e2 != 0) = false := by rw [bne_eq_false_iff_eq]; exact Decidable.not_not.1 c3
    have C3 := Lib.hid c3
    clear c3
    by_cases c4 : e1 ≠ 0
    · have d4 : (e1 != 0) = true := by rw [bne_iff_ne]; exact c4
      have C4 := Lib.hid c4
      clear c4
      go_wp2_with (first
        | (go_at_call 9; go_must (refine (HAw.out _ HBc.out).mono ?_; rintro e W1 ⟨rfl, hb1⟩; have HBc := Lib.hid (HBc.out.trans (hb1.mono HBc.out.size)); clear hb1 x0 x1 x2 x3 x4 x5 x6 x7 x8 x9 x10 x11 x12 x13; obtain ⟨x0, x1, x2, x3, x4, x5, x6, x7, x8, x9, x10, x11, x12, x13⟩ := H3.out W1 HBc.out))
        | (go_at_call 10; go_must ((first | with_reducible refine (HCp.out _).mono ?_ | with_reducible refine (HCw.out _).mono ?_); rintro e W1 ⟨rfl, hb1⟩; have HBc := Lib.hid (HBc.out.trans (hb1.mono HBc.out.size)); clear hb1 x0 x1 x2 x3 x4 x5 x6 x7 x8 x9 x10 x11 x12 x13; obtain ⟨x0, x1, x2, x3, x4, x5, x6, x7, x8, x9, x10, x11, x12, x13⟩ := H3.out W1 HBc.out)))
      go_meet
      exact ⟨by rw [decide_eq_true (Or.inr (Or.inr (Or.inr (Or.inl C4.out))))], HBc.out⟩
    have d4 : (e1 != 0) = false := by rw [bne_eq_false_iff_eq]; exact Decidable.not_not.1 c4
    have C4 := Lib.hid c4
    clear c4
    by_cases c5 : a = b
    · have d5 : (a == b) = true := by rw [beq_iff_eq]; exact c5
      have C5 := Lib.hid c5
      clear c5
      go_wp2_with (first
        | (go_at_call 9; go_must (refine (HAw.out _ HBc.out).mono ?_; rintro e W1 ⟨rfl, hb1⟩; have HBc := Lib.hid (HBc.out.trans (hb1.mono HBc.out.size)); clear hb1 x0 x1 x2 x3 x4 x5 x6 x7 x8 x9 x10 x11 x12 x13; obtain ⟨x0, x1, x2, x3, x4, x5, x6, x7, x8, x9, x10, x11, x12, x13⟩ := H3.out W1 HBc.out))
        | (go_at_call 10; go_must ((first | with_reducible refine (HCp.out _).mono ?_ | with_reducible refine (HCw.out _).mono ?_); rintro e W1 ⟨rfl, hb1⟩; have HBc := Lib.hid (HBc.out.trans (hb1.mono HBc.out.size)); clear hb1 x0 x1 x2 x3 x4 x5 x6 x7 x8 x9 x10 x11 x12 x13; obtain ⟨x0, x1, x2, x3, x4, x5, x6, x7, x8, x9, x10, x11, x12, x13⟩ := H3.out W1 HBc.out)))
      go_meet
      exact ⟨by rw [decide_eq_true (Or.inr (Or.inr (Or.inr (Or.inr C5.out))))], HBc.out⟩
    have d5 : (a == b) = false := by rw [beq_eq_false_iff_ne]; exact c5
    have C5 := Lib.hid c5
    clear c5
    go_wp2_with (first
      | (go_at_call 9; go_must (refine (HAw.out _ HBc.out).mono ?_; rintro e W1 ⟨rfl, hb1⟩; have HBc := Lib.hid (HBc.out.trans (hb1.mono HBc.out.size)); clear hb1 x0 x1 x2 x3 x4 x5 x6 x7 x8 x9 x10 x11 x12 x13; obtain ⟨x0, x1, x2, x3, x4, x5, x6, x7, x8, x9, x10, x11, x12, x13⟩ := H3.out W1 HBc.out))
      | (go_at_call 10; go_must ((first | with_reducible refine (HCp.out _).mono ?_ | with_reducible refine (HCw.out _).mono ?_); rintro e W1 ⟨rfl, hb1⟩; have HBc := Lib.hid (HBc.out.trans (hb1.mono HBc.out.size)); clear hb1 x0 x1 x2 x3 x4 x5 x6 x7 x8 x9 x10 x11 x12 x13; obtain ⟨x0, x1, x2, x3, x4, x5, x6, x7, x8, x9, x10, x11, x12, x13⟩ := H3.out W1 HBc.out)))
    go_meet
    exact ⟨by rw [decide_eq_false (fun h => h.elim C1.out fun h => h.elim C2.out fun h => h.elim C3.out fun h => h.elim C4.out C5.out)], HBc.out⟩
  case rest =>
    obtain ⟨rfl, hbx⟩ := hcut
    obtain ⟨bb, hbb⟩ : ∃ y : Bool, decide (100 < n2 ∨ 100 < n1 ∨ e2 ≠ 0 ∨ e1 ≠ 0 ∨ a = b) = y := ⟨_, rfl⟩
    rw [hbb]
    have HBx := Lib.hid hbx
    cases bb with
    | true =>
      clear hbb hbx
      go_wp2_with (first
        | (go_at_call 9; go_must (refine (HAw.out _ HBx.out).mono ?_; rintro e W1 ⟨rfl, hb1⟩; have HBy := Lib.hid (HBx.out.trans (hb1.mono HBx.out.size)); clear hb1)))
      go_ret
      exact ⟨rfl, B0.out.trans (HBy.out.mono B0.out.size)⟩
    | false =>
      have hno := of_decide_eq_false hbb
      have hw0 : was.bad = 0 := by
        have h1 : eC was = 0 := by rw [HNs.out.2.2.1]; exact Decidable.not_not.1 fun h => hno (Or.inr (Or.inr (Or.inr (Or.inl h))))
        unfold eC at h1
        exact Decidable.not_not.1 fun h => by rw [if_neg h] at h1; cases h1
      have hp0 : p.bad = 0 := by
        have h1 : eC p = 0 := by rw [HNs.out.2.2.2]; exact Decidable.not_not.1 fun h => hno (Or.inr (Or.inr (Or.inl h)))
        unfold eC at h1
        exact Decidable.not_not.1 fun h => by rw [if_neg h] at h1; cases h1
      have hab : a ≠ b := fun h => hno (Or.inr (Or.inr (Or.inr (Or.inr h))))
      have HBw2 := Lib.hid (HBw.out hw0)
      have HBp2 := Lib.hid (HBp.out hp0)
      have HOk := Lib.hid (And.intro hw0 (And.intro hp0 hab))
      obtain ⟨x0, x1, x2, x3, x4, x5, x6, x7, x8, x9, x10, x11, x12, x13⟩ := H3.out _ HBx.out
      clear hno hw0 hp0 hab hbb hbx
      go_wp2_with fail
      go_region_held3 (fun V => V.cell? ⟨w.heap.size, 0, none⟩ = some (.int .i64 was.kd) ∧ V.cell? ⟨w.heap.size, 1, none⟩ = some (.int .i64 was.ep) ∧ V.cell? ⟨w.heap.size, 2, none⟩ = some (.int .i64 was.nu) ∧ V.cell? ⟨w.heap.size, 3, none⟩ = some (.int .i64 was.pa) ∧ V.cell? ⟨w.heap.size, 4, none⟩ = some (.int .i64 was.ps) ∧ V.cell? ⟨w.heap.size, 5, none⟩ = some (.string S1) ∧ V.cell? ⟨w.heap.size + 1, 0, none⟩ = some (.int .i64 p.kd) ∧ V.cell? ⟨w.heap.size + 1, 1, none⟩ = some (.int .i64 p.ep) ∧ V.cell? ⟨w.heap.size + 1, 2, none⟩ = some (.int .i64 p.nu) ∧ V.cell? ⟨w.heap.size + 1, 3, none⟩ = some (.int .i64 p.pa) ∧ V.cell? ⟨w.heap.size + 1, 4, none⟩ = some (.int .i64 p.ps) ∧ V.cell? ⟨w.heap.size + 1, 5, none⟩ = some (.string S2) ∧ V.cell? ⟨w.heap.size + 1 + 1 + 1, 0, none⟩ = some (.int .u8 a) ∧ V.cell? ⟨w.heap.size + 1 + 1 + 1, 1, none⟩ = some (.int .u8 b))
        (first | with_reducible exact H3.out _ HBxn.out | with_reducible exact H3.out _ HX1.out | with_reducible exact H3.out _ (Below.drew HBx.out))
        (first
          | (go_at_call 11; go_must (with_reducible refine (HRw.out _).mono ?_; rintro e W1 ⟨A1, k1, rfl, hn1, hb1⟩; have HN1 := Lib.hid hn1.at_; have HX1 := Lib.hid (HBx.out.trans ((undrew hb1).mono HBx.out.size)); have HY1 := Lib.hid (undrew hb1); have HY1 := Lib.hid (undrew hb1); have HY1 := Lib.hid (undrew hb1); clear hn1 hb1))
          | (go_at_call 12; go_must (have hbk := HBw2.out A1 k1 ma W1 HN1.out (HG.out W1 HX1.out); rw [HABC.out.1] at hbk; with_reducible refine hbk.mono ?_; rintro e W2 ⟨g2, rfl, hg1, hr1, hb1⟩; have HR2 := Lib.hid hr1; have HBxn := Lib.hid (HX1.out.trans (hb1.mono HX1.out.size)); have g2h := Lib.hid hg1; have HYn := Lib.hid (HY1.out.trans (hb1.mono HY1.out.size)); clear hg1 hr1 hb1 hbk HN1 HY1)))
      clear x0 x1 x2 x3 x4 x5 x6 x7 x8 x9 x10 x11 x12 x13 HX1 HYn
      obtain ⟨x0, x1, x2, x3, x4, x5, x6, x7, x8, x9, x10, x11, x12, x13⟩ := H3.out W2 HBxn.out
      go_wp2_with fail
      go_region_held3 (fun V => V.cell? ⟨w.heap.size, 0, none⟩ = some (.int .i64 was.kd) ∧ V.cell? ⟨w.heap.size, 1, none⟩ = some (.int .i64 was.ep) ∧ V.cell? ⟨w.heap.size, 2, none⟩ = some (.int .i64 was.nu) ∧ V.cell? ⟨w.heap.size, 3, none⟩ = some (.int .i64 was.pa) ∧ V.cell? ⟨w.heap.size, 4, none⟩ = some (.int .i64 was.ps) ∧ V.cell? ⟨w.heap.size, 5, none⟩ = some (.string S1) ∧ V.cell? ⟨w.heap.size + 1, 0, none⟩ = some (.int .i64 p.kd) ∧ V.cell? ⟨w.heap.size + 1, 1, none⟩ = some (.int .i64 p.ep) ∧ V.cell? ⟨w.heap.size + 1, 2, none⟩ = some (.int .i64 p.nu) ∧ V.cell? ⟨w.heap.size + 1, 3, none⟩ = some (.int .i64 p.pa) ∧ V.cell? ⟨w.heap.size + 1, 4, none⟩ = some (.int .i64 p.ps) ∧ V.cell? ⟨w.heap.size + 1, 5, none⟩ = some (.string S2) ∧ V.cell? ⟨w.heap.size + 1 + 1 + 1, 0, none⟩ = some (.int .u8 a) ∧ V.cell? ⟨w.heap.size + 1 + 1 + 1, 1, none⟩ = some (.int .u8 b))
        (first | with_reducible exact H3.out _ HBxnn.out | with_reducible exact H3.out _ HX1.out | with_reducible exact H3.out _ (Below.drew HBxn.out))
        (first
          | (go_at_call 11; go_must (with_reducible refine (HRp.out _).mono ?_; rintro e W1 ⟨A1, k1, rfl, hn1, hb1⟩; have HN1 := Lib.hid hn1.at_; have HX1 := Lib.hid (HBxn.out.trans ((undrew hb1).mono HBxn.out.size)); have HY1 := Lib.hid (undrew hb1); have HY1 := Lib.hid (undrew hb1); have HY1 := Lib.hid (undrew hb1); clear hn1 hb1))
          | (go_at_call 12; go_must (have hbk := HBp2.out A1 k1 mb W1 HN1.out (HG.out W1 HX1.out); rw [HABC.out.2.1] at hbk; with_reducible refine hbk.mono ?_; rintro e W4 ⟨g4, rfl, hg1, hr1, hb1⟩; have HR4 := Lib.hid hr1; have HBxnn := Lib.hid (HX1.out.trans (hb1.mono HX1.out.size)); have g4h := Lib.hid hg1; have HYn := Lib.hid (HY1.out.trans (hb1.mono HY1.out.size)); clear hg1 hr1 hb1 hbk HN1 HY1)))
      clear x0 x1 x2 x3 x4 x5 x6 x7 x8 x9 x10 x11 x12 x13 HX1
      go_upto_region 9 with (fail)
      obtain ⟨X1, hX1⟩ : ∃ X, (p.blk mb).take k = X := ⟨_, rfl⟩
      obtain ⟨X2, hX2⟩ : ∃ X, (was.blk ma).drop k = X := ⟨_, rfl⟩
      have hl1 : (was.blk ma).length = 64 := Pc.blk_len (Pc.ok_of HOk.out.1).d1 ma
      have hl2 : (p.blk mb).length = 64 := Pc.blk_len (Pc.ok_of HOk.out.2.1).d1 mb
      obtain ⟨hk1, hk63⟩ := HABC.out.2.2
      have L1 : X1.length = k := by rw [← hX1, List.length_take, hl2]; omega
      have L2 : X2.length = 64 - k := by rw [← hX2, List.length_drop, hl1]
      have HL1 := Lib.hid L1
      have HL2 := Lib.hid L2
      have HX1 := Lib.hid (show Bt W4 (some ⟨g4, 0, none⟩) X1 by
        have h := HR4.out.bt.cut 0 k (by omega)
        rwa [Nat.zero_add, cutL, Nat.sub_zero, List.drop_zero, hX1] at h)
      have HX2 := Lib.hid (show Bt W4 (some ⟨g2, k, none⟩) X2 by
        have h := (HR2.out.below HYn.out).bt.cut k 64 (by omega)
        rwa [Nat.zero_add, cutL, List.take_of_length_le (by rw [List.length_drop, hl1]; exact Nat.le_refl _), hX2] at h)
      have HM := Lib.hid (show readC ([] ++ X1 ++ X2) = 20 by
        obtain ⟨t1, t2, t3⟩ := torn_marks hl1 hl2 hk1 hk63
        rw [hX1, hX2] at t1 t2 t3
        rw [List.nil_append]
        refine torn_read t1 ?_
        rw [t2, t3, blk0, blk63 (Pc.ok_of HOk.out.1).d1]
        intro e
        exact HOk.out.2.2 (by rw [← HABC.out.1, ← HABC.out.2.1, e]))
      have hs1 : ∀ W, Sem.run Tryd.prog (Instr.slice 28 (.slice (some ⟨g4, 0, none⟩) 64 64) none (some (.int .i64 (k : Int))) none) W = .ok (.slice (some ⟨g4, 0, none⟩) X1.length 64) W := fun W => by rw [HL1.out]; exact run_winH W g4 64 64 k .i64 (by omega)
      have hs2 : ∀ W, Sem.run Tryd.prog (Instr.slice 28 (.slice (some ⟨g2, 0, none⟩) 64 64) (some (.int .i64 (k : Int))) none none) W = .ok (.slice (some ⟨g2, k, none⟩) X2.length (64 - k)) W := fun W => by rw [HL2.out]; exact run_winL W g2 64 64 k .i64 (by omega) (by omega)
      have HBd1 := Lib.hid (show ([] : List UInt8).length + X1.length ≤ 65536 by simp [L1]; omega)
      have HBd2 := Lib.hid (show ([] ++ X1).length + X2.length ≤ 65536 by simp [L1, L2]; omega)
      have HX64 := Lib.hid (show ([] ++ X1 ++ X2).length = 64 by simp [L1, L2]; omega)
      rw [HK.out]
      clear hX1 hX2 hl1 hl2 hk1 hk63 L1 L2
      go_cut [16] from 84 to 97 (fun v16 wx => v16 = .iface 55 (.int .i64 20) ∧ Below W4.heap.size W4 wx)
      case first =>
        refine wp_region_held_drew (S := fun _ => True) (by kernel_rfl) trivial (fun hS => ?_)
        have HB := Lib.hid (show Below W4.heap.size W4 W4.drew from (Below.refl _ _).drew)
        refine wpAnyH_take (i := 1) (v := .slice (some ⟨g4, 0, none⟩) 64 64) rfl (by kernel_rfl) (by kernel_rfl) (by kernel_rfl) (fun _ _ _ h => h) (Or.inl ⟨by rfl, ?_⟩) hS ?_
        · intro w hSw
          go_simp
        try simp only [List.getElem_toArray, List.getElem_cons_succ, List.getElem_cons_zero, Act.put, List.setIfInBounds_toArray, List.set_cons_zero, List.set_cons_succ]
        refine wpAnyH_take (i := 2) (v := .int .i64 (k : Int)) rfl (by kernel_rfl) (by kernel_rfl) (by kernel_rfl) (fun _ _ _ h => h) (Or.inl ⟨by rfl, ?_⟩) hS ?_
        · intro w hSw
          go_simp
        try simp only [List.getElem_toArray, List.getElem_cons_succ, List.getElem_cons_zero, Act.put, List.setIfInBounds_toArray, List.set_cons_zero, List.set_cons_succ]
        refine wpAnyH_take (i := 3) (v := .slice (some ⟨g4, 0, none⟩) X1.length 64) rfl (by kernel_rfl) (by kernel_rfl) (by kernel_rfl) (fun _ _ _ h => h) (Or.inl ⟨by rfl, ?_⟩) hS ?_
        · intro w hSw
          go_simp
        try simp only [List.getElem_toArray, List.getElem_cons_succ, List.getElem_cons_zero, Act.put, List.setIfInBounds_toArray, List.set_cons_zero, List.set_cons_succ]
        refine wpAnyH_take (i := 5) (v := .slice (some ⟨g2, 0, none⟩) 64 64) rfl (by kernel_rfl) (by kernel_rfl) (by kernel_rfl) (fun _ _ _ h => h) (Or.inl ⟨by rfl, ?_⟩) hS ?_
        · intro w hSw
          go_simp
        try simp only [List.getElem_toArray, List.getElem_cons_succ, List.getElem_cons_zero, Act.put, List.setIfInBounds_toArray, List.set_cons_zero, List.set_cons_succ]
        refine wpAnyH_take (i := 6) (v := .int .i64 (k : Int)) rfl (by kernel_rfl) (by kernel_rfl) (by kernel_rfl) (fun _ _ _ h => h) (Or.inl ⟨by rfl, ?_⟩) hS ?_
        · intro w hSw
          go_simp
        try simp only [List.getElem_toArray, List.getElem_cons_succ, List.getElem_cons_zero, Act.put, List.setIfInBounds_toArray, List.set_cons_zero, List.set_cons_succ]
        refine wpAnyH_take (i := 7) (v := .slice (some ⟨g2, k, none⟩) X2.length (64 - k)) rfl (by kernel_rfl) (by kernel_rfl) (by kernel_rfl) (fun _ _ _ h => h) (Or.inl ⟨by rfl, ?_⟩) hS ?_
        · intro w hSw
          go_simp
        try simp only [List.getElem_toArray, List.getElem_cons_succ, List.getElem_cons_zero, Act.put, List.setIfInBounds_toArray, List.set_cons_zero, List.set_cons_succ]
        refine wpAnyH_ready (rs := [0, 14]) (by kernel_rfl) (by simp) ?_
        refine AllReadyH.cons rfl (fun K hK => ?_) ?_
        · refine step_sliceR rfl 28 0 _ rfl #[] (by simp) _ (tn_new HB.out) ?_
          rintro v6 W6 ⟨hT, hR⟩
          have HT := Lib.hid hT
          have HB := Lib.hid hT.b
          clear hT hR
          refine hK.out _ _ trivial (fun hS => ?_)
          clear hK K
          try simp only [List.getElem_toArray, List.getElem_cons_succ, List.getElem_cons_zero, Act.put, List.setIfInBounds_toArray, List.set_cons_zero, List.set_cons_succ]
          refine wpAnyH_ready (rs := [4, 14]) (by kernel_rfl) (by simp) ?_
          refine AllReadyH.cons rfl (fun K hK => ?_) ?_
          · refine step_app rfl (.tmp 85) (.tmp 88) 28 rfl _ _ rfl rfl _ (tn_app _ HT.out HX1.out HBd1.out _) ?_
            rintro v6 W6 ⟨hT, hR⟩
            have HT := Lib.hid hT
            have HB := Lib.hid hT.b
            clear hT hR
            refine hK.out _ _ trivial (fun hS => ?_)
            clear hK K
            try simp only [List.getElem_toArray, List.getElem_cons_succ, List.getElem_cons_zero, Act.put, List.setIfInBounds_toArray, List.set_cons_zero, List.set_cons_succ]
            refine wpAnyH_ready (rs := [8, 14]) (by kernel_rfl) (by simp) ?_
            refine AllReadyH.cons rfl (fun K hK => ?_) ?_
            · refine step_app rfl (.tmp 89) (.tmp 92) 28 rfl _ _ rfl rfl _ (tn_app _ HT.out HX2.out HBd2.out _) ?_
              rintro v6 W6 ⟨hT, hR⟩
              have HT := Lib.hid hT
              have HB := Lib.hid hT.b
              clear hT hR
              refine hK.out _ _ trivial (fun hS => ?_)
              clear hK K
              try simp only [List.getElem_toArray, List.getElem_cons_succ, List.getElem_cons_zero, Act.put, List.setIfInBounds_toArray, List.set_cons_zero, List.set_cons_succ]
              refine wpAnyH_ready (rs := [9, 14]) (by kernel_rfl) (by simp) ?_
              refine AllReadyH.cons rfl (fun K hK => ?_) ?_
              · obtain ⟨gv, cv, rfl, hcv, hcm, hBv, -, -⟩ := HT.out.out
                have hrd := torn_ans HM.out (rread_any _ (some ⟨gv, 0, none⟩) cv _ hcv (by simpa [maxLen] using hcm) hBv (fun ad e => by cases e; exact ⟨_, _, rfl⟩) (HG.out _ (HBxnn.out.trans (HB.out.mono HBxnn.out.size))).1 (HG.out _ (HBxnn.out.trans (HB.out.mono HBxnn.out.size))).2)
                have hx64 := HX64.out
                simp only [hx64] at hrd ⊢
                clear hx64
                go_simp
                with_reducible refine hrd.mono ?_
                rintro e W7 ⟨A6, c6, rfl, hb7⟩
                have HB7 := Lib.hid hb7
                have HB := Lib.hid (HB.out.trans (hb7.mono HB.out.size))
                clear hb7 hrd hcv hcm hBv
                refine hK.out _ _ trivial (fun hS => ?_)
                clear hK K
                try simp only [List.getElem_toArray, List.getElem_cons_succ, List.getElem_cons_zero, Act.put, List.setIfInBounds_toArray, List.set_cons_zero, List.set_cons_succ]
                refine wpAnyH_take (i := 10) (v := .tuple #[zeroPc.pv A6 c6, .int .u8 0, .iface 55 (.int .i64 20)]) rfl (by kernel_rfl) (by kernel_rfl) (by kernel_rfl) (fun _ _ _ h => h) (Or.inl ⟨by rfl, ?_⟩) hS ?_
                · intro w hSw
                  go_simp
                try simp only [List.getElem_toArray, List.getElem_cons_succ, List.getElem_cons_zero, Act.put, List.setIfInBounds_toArray, List.set_cons_zero, List.set_cons_succ]
                refine wpAnyH_take (i := 11) (v := zeroPc.pv A6 c6) rfl (by kernel_rfl) (by kernel_rfl) (by kernel_rfl) (fun _ _ _ h => h) (Or.inl ⟨by rfl, ?_⟩) hS ?_
                · intro w hSw
                  go_simp
                try simp only [List.getElem_toArray, List.getElem_cons_succ, List.getElem_cons_zero, Act.put, List.setIfInBounds_toArray, List.set_cons_zero, List.set_cons_succ]
                refine wpAnyH_take (i := 12) (v := .int .u8 0) rfl (by kernel_rfl) (by kernel_rfl) (by kernel_rfl) (fun _ _ _ h => h) (Or.inl ⟨by rfl, ?_⟩) hS ?_
                · intro w hSw
                  go_simp
                try simp only [List.getElem_toArray, List.getElem_cons_succ, List.getElem_cons_zero, Act.put, List.setIfInBounds_toArray, List.set_cons_zero, List.set_cons_succ]
                refine wpAnyH_take (i := 13) (v := .iface 55 (.int .i64 20)) rfl (by kernel_rfl) (by kernel_rfl) (by kernel_rfl) (fun _ _ _ h => h) (Or.inl ⟨by rfl, ?_⟩) hS ?_
                · intro w hSw
                  go_simp
                try simp only [List.getElem_toArray, List.getElem_cons_succ, List.getElem_cons_zero, Act.put, List.setIfInBounds_toArray, List.set_cons_zero, List.set_cons_succ]
                refine wpAnyH_ready (rs := [14]) (by kernel_rfl) (by simp) ?_
                refine AllReadyH.cons rfl (fun K hK => ?_) (AllReadyH.nil)
                refine step_allocR rfl 33 rfl (.agg (pcs zeroPc none 0).toArray) zero_pc (fun v W => ∃ g, v = .pointer (some ⟨g, 0, none⟩) ∧ Tr W4 W (pcs zeroPc none 0) undef g ∧ Below W4.heap.size W4 W) ⟨_, rfl, tr_new _ _ HB.out.size (fun g e => by simp [undef, Value.ownBlock] at e), HB.out.alloc HB.out.size _⟩ ?_
                rintro _ W6 ⟨gr, rfl, ht, hb6⟩
                have HTr := Lib.hid ht
                have HB := Lib.hid hb6
                skip
                clear ht hb6
                refine hK.out _ _ trivial (fun hS => ?_)
                clear hK K
                try simp only [List.getElem_toArray, List.getElem_cons_succ, List.getElem_cons_zero, Act.put, List.setIfInBounds_toArray, List.set_cons_zero, List.set_cons_succ]
                refine wpAnyH_ready (rs := [15]) (by kernel_rfl) (by simp) ?_
                refine AllReadyH.cons rfl (fun K hK => ?_) (AllReadyH.nil)
                refine step_storeH rfl 33 _ _ rfl gr 0 (pcs zeroPc A6 c6).toArray rfl rfl ?_ size_pc (pcs_one _ _ _) ?_
                · exact HTr.out.1.th
                intro W8 HW8
                refine hK.out _ _ trivial (fun hS => ?_)
                clear hK K
                try simp only [List.getElem_toArray, List.getElem_cons_succ, List.getElem_cons_zero, Act.put, List.setIfInBounds_toArray, List.set_cons_zero, List.set_cons_succ]
                refine wpAnyH_take (i := 16) (v := .int .u8 0) rfl (by kernel_rfl) (by kernel_rfl) (by kernel_rfl) (fun _ _ _ h => h) (Or.inl ⟨by rfl, ?_⟩) hS ?_
                · intro w hSw
                  go_simp
                try simp only [List.getElem_toArray, List.getElem_cons_succ, List.getElem_cons_zero, Act.put, List.setIfInBounds_toArray, List.set_cons_zero, List.set_cons_succ]
                refine wpAnyH_take (i := 17) (v := .iface 55 (.int .i64 20)) rfl (by kernel_rfl) (by kernel_rfl) (by kernel_rfl) (fun _ _ _ h => h) (Or.inl ⟨by rfl, ?_⟩) hS ?_
                · intro w hSw
                  go_simp
                try simp only [List.getElem_toArray, List.getElem_cons_succ, List.getElem_cons_zero, Act.put, List.setIfInBounds_toArray, List.set_cons_zero, List.set_cons_succ]
                refine wpAnyH_done (by kernel_rfl) ?_ _
                go_wp2_with fail
                go_meet
                exact ⟨rfl, by rw [HW8.out]; exact below_setCells HB.out HTr.out.2.1 _ _⟩
              refine AllReadyH.cons rfl (fun K hK => ?_) (AllReadyH.nil)
              refine step_allocR rfl 33 rfl (.agg (pcs zeroPc none 0).toArray) zero_pc (fun v W => ∃ g, v = .pointer (some ⟨g, 0, none⟩) ∧ Tr W4 W (pcs zeroPc none 0) v6 g ∧ Below W4.heap.size W4 W ∧ Tn W4 W v6 ([] ++ X1 ++ X2)) ⟨_, rfl, tr_new _ _ HB.out.size (fun g e => (HT.out.o.lt g e).2), HB.out.alloc HB.out.size _, HT.out.keep (new_below _ _)⟩ ?_
              rintro _ W6 ⟨gr, rfl, ht, hb6, hT⟩
              have HTr := Lib.hid ht
              have HB := Lib.hid hb6
              have HT := Lib.hid hT
              clear ht hb6 hT
              refine hK.out _ _ trivial (fun hS => ?_)
              clear hK K
              try simp only [List.getElem_toArray, List.getElem_cons_succ, List.getElem_cons_zero, Act.put, List.setIfInBounds_toArray, List.set_cons_zero, List.set_cons_succ]
              refine wpAnyH_ready (rs := [9]) (by kernel_rfl) (by simp) ?_
              refine AllReadyH.cons rfl (fun K hK => ?_) (AllReadyH.nil)
              obtain ⟨gv, cv, rfl, hcv, hcm, hBv, -, -⟩ := HT.out.out
              have hrd := torn_ans HM.out (rread_any _ (some ⟨gv, 0, none⟩) cv _ hcv (by simpa [maxLen] using hcm) hBv (fun ad e => by cases e; exact ⟨_, _, rfl⟩) (HG.out _ (HBxnn.out.trans (HB.out.mono HBxnn.out.size))).1 (HG.out _ (HBxnn.out.trans (HB.out.mono HBxnn.out.size))).2)
              have hx64 := HX64.out
              simp only [hx64] at hrd ⊢
              clear hx64
              go_simp
              with_reducible refine hrd.mono ?_
              rintro e W7 ⟨A6, c6, rfl, hb7⟩
              have HB7 := Lib.hid hb7
              have HB := Lib.hid (HB.out.trans (hb7.mono HB.out.size))
              have HTr := Lib.hid (HTr.out.keep HB7.out)
              clear hb7 hrd hcv hcm hBv
              refine hK.out _ _ trivial (fun hS => ?_)
              clear hK K
              try simp only [List.getElem_toArray, List.getElem_cons_succ, List.getElem_cons_zero, Act.put, List.setIfInBounds_toArray, List.set_cons_zero, List.set_cons_succ]
              refine wpAnyH_take (i := 10) (v := .tuple #[zeroPc.pv A6 c6, .int .u8 0, .iface 55 (.int .i64 20)]) rfl (by kernel_rfl) (by kernel_rfl) (by kernel_rfl) (fun _ _ _ h => h) (Or.inl ⟨by rfl, ?_⟩) hS ?_
              · intro w hSw
                go_simp
              try simp only [List.getElem_toArray, List.getElem_cons_succ, List.getElem_cons_zero, Act.put, List.setIfInBounds_toArray, List.set_cons_zero, List.set_cons_succ]
              refine wpAnyH_take (i := 11) (v := zeroPc.pv A6 c6) rfl (by kernel_rfl) (by kernel_rfl) (by kernel_rfl) (fun _ _ _ h => h) (Or.inl ⟨by rfl, ?_⟩) hS ?_
              · intro w hSw
                go_simp
              try simp only [List.getElem_toArray, List.getElem_cons_succ, List.getElem_cons_zero, Act.put, List.setIfInBounds_toArray, List.set_cons_zero, List.set_cons_succ]
              refine wpAnyH_take (i := 12) (v := .int .u8 0) rfl (by kernel_rfl) (by kernel_rfl) (by kernel_rfl) (fun _ _ _ h => h) (Or.inl ⟨by rfl, ?_⟩) hS ?_
              · intro w hSw
                go_simp
              try simp only [List.getElem_toArray, List.getElem_cons_succ, List.getElem_cons_zero, Act.put, List.setIfInBounds_toArray, List.set_cons_zero, List.set_cons_succ]
              refine wpAnyH_take (i := 13) (v := .iface 55 (.int .i64 20)) rfl (by kernel_rfl) (by kernel_rfl) (by kernel_rfl) (fun _ _ _ h => h) (Or.inl ⟨by rfl, ?_⟩) hS ?_
              · intro w hSw
                go_simp
              try simp only [List.getElem_toArray, List.getElem_cons_succ, List.getElem_cons_zero, Act.put, List.setIfInBounds_toArray, List.set_cons_zero, List.set_cons_succ]
              refine wpAnyH_ready (rs := [15]) (by kernel_rfl) (by simp) ?_
              refine AllReadyH.cons rfl (fun K hK => ?_) (AllReadyH.nil)
              refine step_storeH rfl 33 _ _ rfl gr 0 (pcs zeroPc A6 c6).toArray rfl rfl ?_ size_pc (pcs_one _ _ _) ?_
              · exact HTr.out.1.th
              intro W8 HW8
              refine hK.out _ _ trivial (fun hS => ?_)
              clear hK K
              try simp only [List.getElem_toArray, List.getElem_cons_succ, List.getElem_cons_zero, Act.put, List.setIfInBounds_toArray, List.set_cons_zero, List.set_cons_succ]
              refine wpAnyH_take (i := 16) (v := .int .u8 0) rfl (by kernel_rfl) (by kernel_rfl) (by kernel_rfl) (fun _ _ _ h => h) (Or.inl ⟨by rfl, ?_⟩) hS ?_
              · intro w hSw
                go_simp
              try simp only [List.getElem_toArray, List.getElem_cons_succ, List.getElem_cons_zero, Act.put, List.setIfInBounds_toArray, List.set_cons_zero, List.set_cons_succ]
              refine wpAnyH_take (i := 17) (v := .iface 55 (.int .i64 20)) rfl (by kernel_rfl) (by kernel_rfl) (by kernel_rfl) (fun _ _ _ h => h) (Or.inl ⟨by rfl, ?_⟩) hS ?_
              · intro w hSw
                go_simp
              try simp only [List.getElem_toArray, List.getElem_cons_succ, List.getElem_cons_zero, Act.put, List.setIfInBounds_toArray, List.set_cons_zero, List.set_cons_succ]
              refine wpAnyH_done (by kernel_rfl) ?_ _
              go_wp2_with fail
              go_meet
              exact ⟨rfl, by rw [HW8.out]; exact below_setCells HB.out HTr.out.2.1 _ _⟩
            refine AllReadyH.cons rfl (fun K hK => ?_) (AllReadyH.nil)
            refine step_allocR rfl 33 rfl (.agg (pcs zeroPc none 0).toArray) zero_pc (fun v W => ∃ g, v = .pointer (some ⟨g, 0, none⟩) ∧ Tr W4 W (pcs zeroPc none 0) v6 g ∧ Below W4.heap.size W4 W ∧ Tn W4 W v6 ([] ++ X1)) ⟨_, rfl, tr_new _ _ HB.out.size (fun g e => (HT.out.o.lt g e).2), HB.out.alloc HB.out.size _, HT.out.keep (new_below _ _)⟩ ?_
            rintro _ W6 ⟨gr, rfl, ht, hb6, hT⟩
            have HTr := Lib.hid ht
            have HB := Lib.hid hb6
            have HT := Lib.hid hT
            clear ht hb6 hT
            refine hK.out _ _ trivial (fun hS => ?_)
            clear hK K
            try simp only [List.getElem_toArray, List.getElem_cons_succ, List.getElem_cons_zero, Act.put, List.setIfInBounds_toArray, List.set_cons_zero, List.set_cons_succ]
            refine wpAnyH_ready (rs := [8]) (by kernel_rfl) (by simp) ?_
            refine AllReadyH.cons rfl (fun K hK => ?_) (AllReadyH.nil)
            refine step_app rfl (.tmp 89) (.tmp 92) 28 rfl _ _ rfl rfl _ (tn_app _ HT.out HX2.out HBd2.out _) ?_
            rintro v6 W6 ⟨hT, hR⟩
            have HT := Lib.hid hT
            have HB := Lib.hid hT.b
            have HTr := Lib.hid (hR _ _ HTr.out)
            clear hT hR
            refine hK.out _ _ trivial (fun hS => ?_)
            clear hK K
            try simp only [List.getElem_toArray, List.getElem_cons_succ, List.getElem_cons_zero, Act.put, List.setIfInBounds_toArray, List.set_cons_zero, List.set_cons_succ]
            refine wpAnyH_ready (rs := [9]) (by kernel_rfl) (by simp) ?_
            refine AllReadyH.cons rfl (fun K hK => ?_) (AllReadyH.nil)
            obtain ⟨gv, cv, rfl, hcv, hcm, hBv, -, -⟩ := HT.out.out
            have hrd := torn_ans HM.out (rread_any _ (some ⟨gv, 0, none⟩) cv _ hcv (by simpa [maxLen] using hcm) hBv (fun ad e => by cases e; exact ⟨_, _, rfl⟩) (HG.out _ (HBxnn.out.trans (HB.out.mono HBxnn.out.size))).1 (HG.out _ (HBxnn.out.trans (HB.out.mono HBxnn.out.size))).2)
            have hx64 := HX64.out
            simp only [hx64] at hrd ⊢
            clear hx64
            go_simp
            with_reducible refine hrd.mono ?_
            rintro e W7 ⟨A6, c6, rfl, hb7⟩
            have HB7 := Lib.hid hb7
            have HB := Lib.hid (HB.out.trans (hb7.mono HB.out.size))
            have HTr := Lib.hid (HTr.out.keep HB7.out)
            clear hb7 hrd hcv hcm hBv
            refine hK.out _ _ trivial (fun hS => ?_)
            clear hK K
            try simp only [List.getElem_toArray, List.getElem_cons_succ, List.getElem_cons_zero, Act.put, List.setIfInBounds_toArray, List.set_cons_zero, List.set_cons_succ]
            refine wpAnyH_take (i := 10) (v := .tuple #[zeroPc.pv A6 c6, .int .u8 0, .iface 55 (.int .i64 20)]) rfl (by kernel_rfl) (by kernel_rfl) (by kernel_rfl) (fun _ _ _ h => h) (Or.inl ⟨by rfl, ?_⟩) hS ?_
            · intro w hSw
              go_simp
            try simp only [List.getElem_toArray, List.getElem_cons_succ, List.getElem_cons_zero, Act.put, List.setIfInBounds_toArray, List.set_cons_zero, List.set_cons_succ]
            refine wpAnyH_take (i := 11) (v := zeroPc.pv A6 c6) rfl (by kernel_rfl) (by kernel_rfl) (by kernel_rfl) (fun _ _ _ h => h) (Or.inl ⟨by rfl, ?_⟩) hS ?_
            · intro w hSw
              go_simp
            try simp only [List.getElem_toArray, List.getElem_cons_succ, List.getElem_cons_zero, Act.put, List.setIfInBounds_toArray, List.set_cons_zero, List.set_cons_succ]
            refine wpAnyH_take (i := 12) (v := .int .u8 0) rfl (by kernel_rfl) (by kernel_rfl) (by kernel_rfl) (fun _ _ _ h => h) (Or.inl ⟨by rfl, ?_⟩) hS ?_
            · intro w hSw
              go_simp
            try simp only [List.getElem_toArray, List.getElem_cons_succ, List.getElem_cons_zero, Act.put, List.setIfInBounds_toArray, List.set_cons_zero, List.set_cons_succ]
            refine wpAnyH_take (i := 13) (v := .iface 55 (.int .i64 20)) rfl (by kernel_rfl) (by kernel_rfl) (by kernel_rfl) (fun _ _ _ h => h) (Or.inl ⟨by rfl, ?_⟩) hS ?_
            · intro w hSw
              go_simp
            try simp only [List.getElem_toArray, List.getElem_cons_succ, List.getElem_cons_zero, Act.put, List.setIfInBounds_toArray, List.set_cons_zero, List.set_cons_succ]
            refine wpAnyH_ready (rs := [15]) (by kernel_rfl) (by simp) ?_
            refine AllReadyH.cons rfl (fun K hK => ?_) (AllReadyH.nil)
            refine step_storeH rfl 33 _ _ rfl gr 0 (pcs zeroPc A6 c6).toArray rfl rfl ?_ size_pc (pcs_one _ _ _) ?_
            · exact HTr.out.1.th
            intro W8 HW8
            refine hK.out _ _ trivial (fun hS => ?_)
            clear hK K
            try simp only [List.getElem_toArray, List.getElem_cons_succ, List.getElem_cons_zero, Act.put, List.setIfInBounds_toArray, List.set_cons_zero, List.set_cons_succ]
            refine wpAnyH_take (i := 16) (v := .int .u8 0) rfl (by kernel_rfl) (by kernel_rfl) (by kernel_rfl) (fun _ _ _ h => h) (Or.inl ⟨by rfl, ?_⟩) hS ?_
            · intro w hSw
              go_simp
            try simp only [List.getElem_toArray, List.getElem_cons_succ, List.getElem_cons_zero, Act.put, List.setIfInBounds_toArray, List.set_cons_zero, List.set_cons_succ]
            refine wpAnyH_take (i := 17) (v := .iface 55 (.int .i64 20)) rfl (by kernel_rfl) (by kernel_rfl) (by kernel_rfl) (fun _ _ _ h => h) (Or.inl ⟨by rfl, ?_⟩) hS ?_
            · intro w hSw
              go_simp
            try simp only [List.getElem_toArray, List.getElem_cons_succ, List.getElem_cons_zero, Act.put, List.setIfInBounds_toArray, List.set_cons_zero, List.set_cons_succ]
            refine wpAnyH_done (by kernel_rfl) ?_ _
            go_wp2_with fail
            go_meet
            exact ⟨rfl, by rw [HW8.out]; exact below_setCells HB.out HTr.out.2.1 _ _⟩
          refine AllReadyH.cons rfl (fun K hK => ?_) (AllReadyH.nil)
          refine step_allocR rfl 33 rfl (.agg (pcs zeroPc none 0).toArray) zero_pc (fun v W => ∃ g, v = .pointer (some ⟨g, 0, none⟩) ∧ Tr W4 W (pcs zeroPc none 0) v6 g ∧ Below W4.heap.size W4 W ∧ Tn W4 W v6 []) ⟨_, rfl, tr_new _ _ HB.out.size (fun g e => (HT.out.o.lt g e).2), HB.out.alloc HB.out.size _, HT.out.keep (new_below _ _)⟩ ?_
          rintro _ W6 ⟨gr, rfl, ht, hb6, hT⟩
          have HTr := Lib.hid ht
          have HB := Lib.hid hb6
          have HT := Lib.hid hT
          clear ht hb6 hT
          refine hK.out _ _ trivial (fun hS => ?_)
          clear hK K
          try simp only [List.getElem_toArray, List.getElem_cons_succ, List.getElem_cons_zero, Act.put, List.setIfInBounds_toArray, List.set_cons_zero, List.set_cons_succ]
          refine wpAnyH_ready (rs := [4]) (by kernel_rfl) (by simp) ?_
          refine AllReadyH.cons rfl (fun K hK => ?_) (AllReadyH.nil)
          refine step_app rfl (.tmp 85) (.tmp 88) 28 rfl _ _ rfl rfl _ (tn_app _ HT.out HX1.out HBd1.out _) ?_
          rintro v6 W6 ⟨hT, hR⟩
          have HT := Lib.hid hT
          have HB := Lib.hid hT.b
          have HTr := Lib.hid (hR _ _ HTr.out)
          clear hT hR
          refine hK.out _ _ trivial (fun hS => ?_)
          clear hK K
          try simp only [List.getElem_toArray, List.getElem_cons_succ, List.getElem_cons_zero, Act.put, List.setIfInBounds_toArray, List.set_cons_zero, List.set_cons_succ]
          refine wpAnyH_ready (rs := [8]) (by kernel_rfl) (by simp) ?_
          refine AllReadyH.cons rfl (fun K hK => ?_) (AllReadyH.nil)
          refine step_app rfl (.tmp 89) (.tmp 92) 28 rfl _ _ rfl rfl _ (tn_app _ HT.out HX2.out HBd2.out _) ?_
          rintro v6 W6 ⟨hT, hR⟩
          have HT := Lib.hid hT
          have HB := Lib.hid hT.b
          have HTr := Lib.hid (hR _ _ HTr.out)
          clear hT hR
          refine hK.out _ _ trivial (fun hS => ?_)
          clear hK K
          try simp only [List.getElem_toArray, List.getElem_cons_succ, List.getElem_cons_zero, Act.put, List.setIfInBounds_toArray, List.set_cons_zero, List.set_cons_succ]
          refine wpAnyH_ready (rs := [9]) (by kernel_rfl) (by simp) ?_
          refine AllReadyH.cons rfl (fun K hK => ?_) (AllReadyH.nil)
          obtain ⟨gv, cv, rfl, hcv, hcm, hBv, -, -⟩ := HT.out.out
          have hrd := torn_ans HM.out (rread_any _ (some ⟨gv, 0, none⟩) cv _ hcv (by simpa [maxLen] using hcm) hBv (fun ad e => by cases e; exact ⟨_, _, rfl⟩) (HG.out _ (HBxnn.out.trans (HB.out.mono HBxnn.out.size))).1 (HG.out _ (HBxnn.out.trans (HB.out.mono HBxnn.out.size))).2)
          have hx64 := HX64.out
          simp only [hx64] at hrd ⊢
          clear hx64
          go_simp
          with_reducible refine hrd.mono ?_
          rintro e W7 ⟨A6, c6, rfl, hb7⟩
          have HB7 := Lib.hid hb7
          have HB := Lib.hid (HB.out.trans (hb7.mono HB.out.size))
          have HTr := Lib.hid (HTr.out.keep HB7.out)
          clear hb7 hrd hcv hcm hBv
          refine hK.out _ _ trivial (fun hS => ?_)
          clear hK K
          try simp only [List.getElem_toArray, List.getElem_cons_succ, List.getElem_cons_zero, Act.put, List.setIfInBounds_toArray, List.set_cons_zero, List.set_cons_succ]
          refine wpAnyH_take (i := 10) (v := .tuple #[zeroPc.pv A6 c6, .int .u8 0, .iface 55 (.int .i64 20)]) rfl (by kernel_rfl) (by kernel_rfl) (by kernel_rfl) (fun _ _ _ h => h) (Or.inl ⟨by rfl, ?_⟩) hS ?_
          · intro w hSw
            go_simp
          try simp only [List.getElem_toArray, List.getElem_cons_succ, List.getElem_cons_zero, Act.put, List.setIfInBounds_toArray, List.set_cons_zero, List.set_cons_succ]
          refine wpAnyH_take (i := 11) (v := zeroPc.pv A6 c6) rfl (by kernel_rfl) (by kernel_rfl) (by kernel_rfl) (fun _ _ _ h => h) (Or.inl ⟨by rfl, ?_⟩) hS ?_
          · intro w hSw
            go_simp
          try simp only [List.getElem_toArray, List.getElem_cons_succ, List.getElem_cons_zero, Act.put, List.setIfInBounds_toArray, List.set_cons_zero, List.set_cons_succ]
          refine wpAnyH_take (i := 12) (v := .int .u8 0) rfl (by kernel_rfl) (by kernel_rfl) (by kernel_rfl) (fun _ _ _ h => h) (Or.inl ⟨by rfl, ?_⟩) hS ?_
          · intro w hSw
            go_simp
          try simp only [List.getElem_toArray, List.getElem_cons_succ, List.getElem_cons_zero, Act.put, List.setIfInBounds_toArray, List.set_cons_zero, List.set_cons_succ]
          refine wpAnyH_take (i := 13) (v := .iface 55 (.int .i64 20)) rfl (by kernel_rfl) (by kernel_rfl) (by kernel_rfl) (fun _ _ _ h => h) (Or.inl ⟨by rfl, ?_⟩) hS ?_
          · intro w hSw
            go_simp
          try simp only [List.getElem_toArray, List.getElem_cons_succ, List.getElem_cons_zero, Act.put, List.setIfInBounds_toArray, List.set_cons_zero, List.set_cons_succ]
          refine wpAnyH_ready (rs := [15]) (by kernel_rfl) (by simp) ?_
          refine AllReadyH.cons rfl (fun K hK => ?_) (AllReadyH.nil)
          refine step_storeH rfl 33 _ _ rfl gr 0 (pcs zeroPc A6 c6).toArray rfl rfl ?_ size_pc (pcs_one _ _ _) ?_
          · exact HTr.out.1.th
          intro W8 HW8
          refine hK.out _ _ trivial (fun hS => ?_)
          clear hK K
          try simp only [List.getElem_toArray, List.getElem_cons_succ, List.getElem_cons_zero, Act.put, List.setIfInBounds_toArray, List.set_cons_zero, List.set_cons_succ]
          refine wpAnyH_take (i := 16) (v := .int .u8 0) rfl (by kernel_rfl) (by kernel_rfl) (by kernel_rfl) (fun _ _ _ h => h) (Or.inl ⟨by rfl, ?_⟩) hS ?_
          · intro w hSw
            go_simp
          try simp only [List.getElem_toArray, List.getElem_cons_succ, List.getElem_cons_zero, Act.put, List.setIfInBounds_toArray, List.set_cons_zero, List.set_cons_succ]
          refine wpAnyH_take (i := 17) (v := .iface 55 (.int .i64 20)) rfl (by kernel_rfl) (by kernel_rfl) (by kernel_rfl) (fun _ _ _ h => h) (Or.inl ⟨by rfl, ?_⟩) hS ?_
          · intro w hSw
            go_simp
          try simp only [List.getElem_toArray, List.getElem_cons_succ, List.getElem_cons_zero, Act.put, List.setIfInBounds_toArray, List.set_cons_zero, List.set_cons_succ]
          refine wpAnyH_done (by kernel_rfl) ?_ _
          go_wp2_with fail
          go_meet
          exact ⟨rfl, by rw [HW8.out]; exact below_setCells HB.out HTr.out.2.1 _ _⟩
        refine AllReadyH.cons rfl (fun K hK => ?_) (AllReadyH.nil)
        refine step_allocR rfl 33 rfl (.agg (pcs zeroPc none 0).toArray) zero_pc (fun v W => ∃ g, v = .pointer (some ⟨g, 0, none⟩) ∧ Tr W4 W (pcs zeroPc none 0) undef g ∧ Below W4.heap.size W4 W) ⟨_, rfl, tr_new _ _ HB.out.size (fun g e => by simp [undef, Value.ownBlock] at e), HB.out.alloc HB.out.size _⟩ ?_
        rintro _ W6 ⟨gr, rfl, ht, hb6⟩
        have HTr := Lib.hid ht
        have HB := Lib.hid hb6
        skip
        clear ht hb6
        refine hK.out _ _ trivial (fun hS => ?_)
        clear hK K
        try simp only [List.getElem_toArray, List.getElem_cons_succ, List.getElem_cons_zero, Act.put, List.setIfInBounds_toArray, List.set_cons_zero, List.set_cons_succ]
        refine wpAnyH_ready (rs := [0]) (by kernel_rfl) (by simp) ?_
        refine AllReadyH.cons rfl (fun K hK => ?_) (AllReadyH.nil)
        refine step_sliceR rfl 28 0 _ rfl #[] (by simp) _ (tn_new HB.out) ?_
        rintro v6 W6 ⟨hT, hR⟩
        have HT := Lib.hid hT
        have HB := Lib.hid hT.b
        have HTr := Lib.hid (hR _ _ _ HTr.out)
        clear hT hR
        refine hK.out _ _ trivial (fun hS => ?_)
        clear hK K
        try simp only [List.getElem_toArray, List.getElem_cons_succ, List.getElem_cons_zero, Act.put, List.setIfInBounds_toArray, List.set_cons_zero, List.set_cons_succ]
        refine wpAnyH_ready (rs := [4]) (by kernel_rfl) (by simp) ?_
        refine AllReadyH.cons rfl (fun K hK => ?_) (AllReadyH.nil)
        refine step_app rfl (.tmp 85) (.tmp 88) 28 rfl _ _ rfl rfl _ (tn_app _ HT.out HX1.out HBd1.out _) ?_
        rintro v6 W6 ⟨hT, hR⟩
        have HT := Lib.hid hT
        have HB := Lib.hid hT.b
        have HTr := Lib.hid (hR _ _ HTr.out)
        clear hT hR
        refine hK.out _ _ trivial (fun hS => ?_)
        clear hK K
        try simp only [List.getElem_toArray, List.getElem_cons_succ, List.getElem_cons_zero, Act.put, List.setIfInBounds_toArray, List.set_cons_zero, List.set_cons_succ]
        refine wpAnyH_ready (rs := [8]) (by kernel_rfl) (by simp) ?_
        refine AllReadyH.cons rfl (fun K hK => ?_) (AllReadyH.nil)
        refine step_app rfl (.tmp 89) (.tmp 92) 28 rfl _ _ rfl rfl _ (tn_app _ HT.out HX2.out HBd2.out _) ?_
        rintro v6 W6 ⟨hT, hR⟩
        have HT := Lib.hid hT
        have HB := Lib.hid hT.b
        have HTr := Lib.hid (hR _ _ HTr.out)
        clear hT hR
        refine hK.out _ _ trivial (fun hS => ?_)
        clear hK K
        try simp only [List.getElem_toArray, List.getElem_cons_succ, List.getElem_cons_zero, Act.put, List.setIfInBounds_toArray, List.set_cons_zero, List.set_cons_succ]
        refine wpAnyH_ready (rs := [9]) (by kernel_rfl) (by simp) ?_
        refine AllReadyH.cons rfl (fun K hK => ?_) (AllReadyH.nil)
        obtain ⟨gv, cv, rfl, hcv, hcm, hBv, -, -⟩ := HT.out.out
        have hrd := torn_ans HM.out (rread_any _ (some ⟨gv, 0, none⟩) cv _ hcv (by simpa [maxLen] using hcm) hBv (fun ad e => by cases e; exact ⟨_, _, rfl⟩) (HG.out _ (HBxnn.out.trans (HB.out.mono HBxnn.out.size))).1 (HG.out _ (HBxnn.out.trans (HB.out.mono HBxnn.out.size))).2)
        have hx64 := HX64.out
        simp only [hx64] at hrd ⊢
        clear hx64
        go_simp
        with_reducible refine hrd.mono ?_
        rintro e W7 ⟨A6, c6, rfl, hb7⟩
        have HB7 := Lib.hid hb7
        have HB := Lib.hid (HB.out.trans (hb7.mono HB.out.size))
        have HTr := Lib.hid (HTr.out.keep HB7.out)
        clear hb7 hrd hcv hcm hBv
        refine hK.out _ _ trivial (fun hS => ?_)
        clear hK K
        try simp only [List.getElem_toArray, List.getElem_cons_succ, List.getElem_cons_zero, Act.put, List.setIfInBounds_toArray, List.set_cons_zero, List.set_cons_succ]
        refine wpAnyH_take (i := 10) (v := .tuple #[zeroPc.pv A6 c6, .int .u8 0, .iface 55 (.int .i64 20)]) rfl (by kernel_rfl) (by kernel_rfl) (by kernel_rfl) (fun _ _ _ h => h) (Or.inl ⟨by rfl, ?_⟩) hS ?_
        · intro w hSw
          go_simp
        try simp only [List.getElem_toArray, List.getElem_cons_succ, List.getElem_cons_zero, Act.put, List.setIfInBounds_toArray, List.set_cons_zero, List.set_cons_succ]
        refine wpAnyH_take (i := 11) (v := zeroPc.pv A6 c6) rfl (by kernel_rfl) (by kernel_rfl) (by kernel_rfl) (fun _ _ _ h => h) (Or.inl ⟨by rfl, ?_⟩) hS ?_
        · intro w hSw
          go_simp
        try simp only [List.getElem_toArray, List.getElem_cons_succ, List.getElem_cons_zero, Act.put, List.setIfInBounds_toArray, List.set_cons_zero, List.set_cons_succ]
        refine wpAnyH_take (i := 12) (v := .int .u8 0) rfl (by kernel_rfl) (by kernel_rfl) (by kernel_rfl) (fun _ _ _ h => h) (Or.inl ⟨by rfl, ?_⟩) hS ?_
        · intro w hSw
          go_simp
        try simp only [List.getElem_toArray, List.getElem_cons_succ, List.getElem_cons_zero, Act.put, List.setIfInBounds_toArray, List.set_cons_zero, List.set_cons_succ]
        refine wpAnyH_take (i := 13) (v := .iface 55 (.int .i64 20)) rfl (by kernel_rfl) (by kernel_rfl) (by kernel_rfl) (fun _ _ _ h => h) (Or.inl ⟨by rfl, ?_⟩) hS ?_
        · intro w hSw
          go_simp
        try simp only [List.getElem_toArray, List.getElem_cons_succ, List.getElem_cons_zero, Act.put, List.setIfInBounds_toArray, List.set_cons_zero, List.set_cons_succ]
        refine wpAnyH_ready (rs := [15]) (by kernel_rfl) (by simp) ?_
        refine AllReadyH.cons rfl (fun K hK => ?_) (AllReadyH.nil)
        refine step_storeH rfl 33 _ _ rfl gr 0 (pcs zeroPc A6 c6).toArray rfl rfl ?_ size_pc (pcs_one _ _ _) ?_
        · exact HTr.out.1.th
        intro W8 HW8
        refine hK.out _ _ trivial (fun hS => ?_)
        clear hK K
        try simp only [List.getElem_toArray, List.getElem_cons_succ, List.getElem_cons_zero, Act.put, List.setIfInBounds_toArray, List.set_cons_zero, List.set_cons_succ]
        refine wpAnyH_take (i := 16) (v := .int .u8 0) rfl (by kernel_rfl) (by kernel_rfl) (by kernel_rfl) (fun _ _ _ h => h) (Or.inl ⟨by rfl, ?_⟩) hS ?_
        · intro w hSw
          go_simp
        try simp only [List.getElem_toArray, List.getElem_cons_succ, List.getElem_cons_zero, Act.put, List.setIfInBounds_toArray, List.set_cons_zero, List.set_cons_succ]
        refine wpAnyH_take (i := 17) (v := .iface 55 (.int .i64 20)) rfl (by kernel_rfl) (by kernel_rfl) (by kernel_rfl) (fun _ _ _ h => h) (Or.inl ⟨by rfl, ?_⟩) hS ?_
        · intro w hSw
          go_simp
        try simp only [List.getElem_toArray, List.getElem_cons_succ, List.getElem_cons_zero, Act.put, List.setIfInBounds_toArray, List.set_cons_zero, List.set_cons_succ]
        refine wpAnyH_done (by kernel_rfl) ?_ _
        go_wp2_with fail
        go_meet
        exact ⟨rfl, by rw [HW8.out]; exact below_setCells HB.out HTr.out.2.1 _ _⟩
      case rest =>
        obtain ⟨rfl, hbz⟩ := hcut
        have HBz := Lib.hid hbz
        have hIs := fun W => is_self 20 W
        clear hbz
        go_wp2_with (first | (go_at_call 22; go_must (with_reducible refine (is_self 20 _).mono ?_; rintro e W9 ⟨rfl, rfl⟩)))
        go_ret
        exact ⟨rfl, B0.out.trans ((HBxnn.out.trans (HBz.out.mono HBxnn.out.size)).mono B0.out.size)⟩
end Go.Proofs.YthkcimojemofgaaDoor
