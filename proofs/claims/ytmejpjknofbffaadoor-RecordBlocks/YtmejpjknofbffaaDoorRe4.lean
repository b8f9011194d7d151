/-
  A piece's block, by the program: what stays while it is laid.
-/
import Derived.Test.YtmejpjknofbffaaDoorRe3
import Derived.Test.YtmejpjknofbffaaDoorRe2
import Derived.Test.YtmejpjknofbffaaDoorBkL
import Derived.StillTailTactics
namespace Go.Proofs.YtmejpjknofbffaaDoor
open Go.RowKit Go.Lib
set_option linter.unusedVariables false
set_option linter.unusedSimpArgs false

def pcs (p : Pc) (A : Option Addr) (c : Nat) : List Value := [.int .i64 p.kd, .int .i64 p.ep, .int .i64 p.nu, .int .i64 p.pa, .int .i64 p.ps, .slice A p.da.length c]
/-- While a block is laid: the piece lies in its box, the bytes in a row of the call's own. -/
structure Lg (w W : World) (b g : Nat) (p : Pc) (A : Option Addr) (c : Nat) (L : List UInt8) : Prop where
  hb : Below w.heap.size w W
  hp : ∀ j v, (pcs p A c)[j]? = some v → W.cell? ⟨b, j, none⟩ = some v
  hr : Rb W g L
  lb : w.heap.size ≤ b
  lg : b < g
theorem Lg.lt {w W : World} {b g : Nat} {p : Pc} {A : Option Addr} {c : Nat} {L : List UInt8} (h : Lg w W b g p A c L) : b < W.heap.size := Nat.lt_trans h.lg h.hr.lt
theorem Lg.mv {w W W' : World} {b g : Nat} {p : Pc} {A : Option Addr} {c : Nat} {L L' : List UInt8} (h : Lg w W b g p A c L) (ho : Only g W W') (hr : Rb W' g L') : Lg w W' b g p A c L' :=
  ⟨ho.2.2 _ _ h.hb (Nat.le_of_lt (Nat.lt_of_le_of_lt h.lb h.lg)) h.hb.size, fun j v hj => (ho.cell (p := ⟨b, j, none⟩) h.lt (Nat.ne_of_lt h.lg)).trans (h.hp j v hj), hr, h.lb, h.lg⟩
theorem Lg.put {w W : World} {b g : Nat} {p : Pc} {A : Option Addr} {c : Nat} {L : List UInt8} (h : Lg w W b g p A c L) (i : Nat) (x : UInt8) : Lg w (W.setCell ⟨g, i, none⟩ (.int .u8 (x.toNat : Int))) b g p A c (L.set i x) := h.mv ((Only.refl g W).put _ _) (h.hr.put i x)
theorem Lg.puts {w W : World} {b g : Nat} {p : Pc} {A : Option Addr} {c : Nat} {L : List UInt8} (h : Lg w W b g p A c L) (q : Nat) (x : List UInt8) (hl : q + x.length ≤ L.length) : Lg w (W.setCells g q (bcs x)) b g p A c (L.take q ++ x ++ L.drop (q + x.length)) :=
  h.mv ⟨by rw [size_setCells]; exact Nat.le_refl _, fun k hk hg => heap_setCells _ _ _ _ _ hg, fun B V h3 h4 h5 => below_setCells h3 h4 _ _⟩ (h.hr.puts x q hl)
theorem Lg.step {w W W' : World} {b g : Nat} {p : Pc} {A : Option Addr} {c : Nat} {L : List UInt8} (h : Lg w W b g p A c L) (hb : Below W.heap.size W W') : Lg w W' b g p A c L := h.mv ((Only.refl g W).step hb) (h.hr.below hb)
theorem Lg.c0 {w W : World} {b g : Nat} {p : Pc} {A : Option Addr} {c : Nat} {L : List UInt8} (h : Lg w W b g p A c L) : W.cell? ⟨b, 0, none⟩ = some (.int .i64 p.kd) ∧ W.cell? ⟨b, 1, none⟩ = some (.int .i64 p.ep) ∧ W.cell? ⟨b, 2, none⟩ = some (.int .i64 p.nu) ∧ W.cell? ⟨b, 3, none⟩ = some (.int .i64 p.pa) ∧ W.cell? ⟨b, 4, none⟩ = some (.int .i64 p.ps) ∧ W.cell? ⟨b, 5, none⟩ = some (.slice A p.da.length c) :=
  ⟨h.hp 0 _ rfl, h.hp 1 _ rfl, h.hp 2 _ rfl, h.hp 3 _ rfl, h.hp 4 _ rfl, h.hp 5 _ rfl⟩
theorem made64 : madeCells (Value.int .u8 0).cells (64 * 1) = (bcs (List.replicate 64 0)).toArray := by kernel_rfl
theorem alloc_at (w : World) (o : Obj) : (w.alloc o).heap[w.heap.size]? = some o := by simp [World.alloc, -World.alloc_eq]
theorem Lg.new {w W1 W2 : World} {p : Pc} {A : Option Addr} {c : Nat} {T : TypeId} (hb : Below (w.heap.size + 1) (w.alloc (.cells (pcs p A c).toArray T)) W1) (h : W2 = W1.alloc (.cells (madeCells (Value.int .u8 0).cells (64 * 1)) 5)) :
    Lg w W2 w.heap.size W1.heap.size p A c (List.replicate 64 0) := by
  have h1 := hb.size
  rw [new_size] at h1
  refine ⟨?_, fun j v hj => ?_, ?_, Nat.le_refl _, by omega⟩
  · rw [h]
    exact (((Below.refl _ _).alloc (Nat.le_refl _) _).trans (hb.mono (by omega))).alloc (by omega) _
  · rw [h, World.cell?_alloc_lt _ _ _ (by show w.heap.size < _; omega), hb.cell (p := ⟨w.heap.size, j, none⟩) (by show w.heap.size < _; omega), World.cell?_alloc_new]
    simpa using hj
  · rw [h]
    unfold Rb
    rw [alloc_at, made64]
set_option maxHeartbeats 4000000 in
set_option maxRecDepth 100000 in
theorem block_no (p : Pc) (A : Option Addr) (c : Nat) (m : UInt8) (w : World) (hf : p.Fit) (h : p.bad ≠ 0) :
    Calls Tryd.prog 7 #[p.pv A c, .int .u8 (m.toNat : Int)] w fun e w' => ∃ ev, e = .returned (.tuple #[.slice none 0 0, ev]) ∧ ChkAns p w' ev ∧ Below w.heap.size w w' := by
  have HC := Lib.hid (fun W => rcheck_any p A c W hf)
  obtain ⟨v, hv⟩ : ∃ v, p.pv A c = v := ⟨_, rfl⟩
  rw [hv] at HC ⊢
  unfold Pc.pv at hv
  subst hv
  have H := Lib.hid h
  obtain ⟨M, hM⟩ : ∃ M : Int, (m.toNat : Int) = M := ⟨_, rfl⟩
  rw [hM]
  clear h hM
  go_enter Tryd.func7, Tryd.ntmps7
  go_wp2_with fail
  refine (HC.out _).mono ?_
  rintro e W1 ⟨ev, rfl, ha, hb1⟩
  have HB := Lib.hid hb1
  have HA := Lib.hid ha
  obtain ⟨a1, a2⟩ | ⟨a1, x, y, rfl, a2⟩ := ha
  · exact absurd a1 H.out
  clear hb1 a2 a1
  go_wp2_with fail
  go_ret2
  exact ⟨_, rfl, HA.out, ((Below.refl _ _).alloc (Nat.le_refl _) _).trans (HB.out.mono (by simp))⟩
set_option maxHeartbeats 4000000 in
set_option maxRecDepth 100000 in
theorem block_yes (p : Pc) (A : Option Addr) (c : Nat) (m : UInt8) (w : World) (hf : p.Fit) (h : p.Ok) (hB : Bt w A p.da) (hD : Deb w) (hN : 7 ≤ w.heap.size) :
    Calls Tryd.prog 7 #[p.pv A c, .int .u8 (m.toNat : Int)] w fun e w' => ∃ g, e = .returned (.tuple #[.slice (some ⟨g, 0, none⟩) 64 64, .nilIface]) ∧ w.heap.size ≤ g ∧ Rb w' g (p.blk m) ∧ Below w.heap.size w w' := by
  have HC := Lib.hid (fun W => rcheck_any p A c W hf)
  have H := Lib.hid h
  have HBt := Lib.hid hB
  have HD := Lib.hid (fun W (hW : Below w.heap.size w W) => show Deb W by
    unfold Deb
    rw [hW.cell (Nat.lt_of_lt_of_le (by decide) hN)]
    exact hD)
  obtain ⟨bk, bn⟩ := And.intro (Pc.bad_of h) hN
  have H0 := Lib.hid bk
  clear bk h hB hD hf
  obtain ⟨v, hv⟩ : ∃ v, p.pv A c = v := ⟨_, rfl⟩
  rw [hv] at HC ⊢
  unfold Pc.pv at hv
  subst hv
  obtain ⟨M, hM⟩ : ∃ M : Int, (m.toNat : Int) = M := ⟨_, rfl⟩
  rw [hM]
  have HM := Lib.hid hM
  clear hM
  have q0 : p.kd % 256 = p.kd := by have := H.out.k1; have := H.out.k2; omega
  go_enter Tryd.func7, Tryd.ntmps7
  go_wp2_with fail
  refine (HC.out _).mono ?_
  rintro e W1 ⟨ev, rfl, ha, hb1⟩
  obtain ⟨a1, rfl⟩ := ha.resolve_right fun a => absurd H0.out a.1
  rw [new_size] at hb1
  have HB := Lib.hid hb1
  clear hb1 a1
  go_wp2_with ((with_reducible refine at_slot 13 ?_); refine wpList_makeH rfl 28 5 _ _ rfl (.int .u8 0) 1 1 64 (by kernel_rfl) (by kernel_rfl) .i64 .i64 _ _ rfl rfl rfl rfl (by decide) (by decide) ?_; intro W2 HW2; have HL := Lib.hid (Lg.new HB.out HW2.out); clear HW2 HB; revert HL; generalize W1.heap.size = g; intro HL; obtain ⟨y0, y1, y2, y3, y4, y5⟩ := HL.out.c0; have z0 := HL.out.hr.cell 0 (by decide); have z63 := HL.out.hr.cell 63 (by decide); have z1 := HL.out.hr.cell 1 (by decide); have f0 := HL.out.hr.free 0; have f1 := HL.out.hr.free 1; have f63 := HL.out.hr.free 63; have hgb : w.heap.size ≠ g := Nat.ne_of_lt HL.out.lg)
  clear y0 y1 y2 y3 y4 y5 z0 z63 z1 f0 f1 f63
  have h3 := ((HL.out.put 0 m).put 63 m).put 1 (UInt8.ofNat (p.kd.toNat % 256))
  rw [HM.out, show ((UInt8.ofNat (p.kd.toNat % 256)).toNat : Int) = p.kd by have := H.out.k1; have := H.out.k2; rw [UInt8.toNat_ofNat']; omega] at h3
  have HL3 := Lib.hid h3
  clear h3 HL
  revert HL3
  generalize (((W2.setCell ⟨g, 0, none⟩ (.int .u8 M)).setCell ⟨g, 63, none⟩ (.int .u8 M)).setCell ⟨g, 1, none⟩ (.int .u8 p.kd)) = W3
  obtain ⟨L3, HE3⟩ : ∃ L, Hid (L = (((List.replicate 64 (0 : UInt8)).set 0 m).set 63 m).set 1 (UInt8.ofNat (p.kd.toNat % 256))) := ⟨_, rfl⟩
  rw [← HE3.out]
  intro HL3
  have e3 : L3.length = 64 := by rw [HE3.out]; simp
  obtain ⟨y0, y1, y2, y3, y4, y5⟩ := HL3.out.c0
  have q1 : IntKind.u64.wrap p.ep = p.ep := by have := H.out.e1; have := H.out.e2; rw [IntKind.wrap_u64]; omega
  have HE := Lib.hid (show ((p.ep.toNat : Nat) : Int) = p.ep by have := H.out.e1; omega)
  have HX3 := Lib.hid (fun W (hW : Rb W g L3) => lay_any W g 2 4 p.ep.toNat 62 L3 (by have := H.out.e2; omega) hW (by omega) (by omega))
  rw [HE.out] at HX3
  go_region_law
    (first
      | (go_simp; go_at_call 17; refine (HX3.out W3.drew (show Rb W3.drew g L3 from HL3.out.hr)).mono ?_; rintro e W4 ⟨rfl, hr4, ho4⟩; have HL4 := Lib.hid ((HL3.out.step (Below.drew (Below.refl _ _))).mv ho4 hr4); clear hr4 ho4))
  clear y0 y1 y2 y3 y4 y5 HX3 HE q1 HL3
  obtain ⟨L4, HE4⟩ : ∃ L, Hid (L = layL L3 2 4 p.ep.toNat) := ⟨_, rfl⟩
  rw [← HE4.out] at HL4
  have e4 : L4.length = 64 := by rw [HE4.out]; simp [layL, be_len]; omega
  obtain ⟨y0, y1, y2, y3, y4, y5⟩ := HL4.out.c0
  have q1 : IntKind.u64.wrap p.nu = p.nu := by have := H.out.n1; have := H.out.n2; rw [IntKind.wrap_u64]; omega
  have HE := Lib.hid (show ((p.nu.toNat : Nat) : Int) = p.nu by have := H.out.n1; omega)
  have HX4 := Lib.hid (fun W (hW : Rb W g L4) => lay_any W g 6 4 p.nu.toNat 58 L4 (by have := H.out.n2; omega) hW (by omega) (by omega))
  rw [HE.out] at HX4
  go_wp2_with fail
  go_region_law
    (first
      | (go_simp; go_at_call 17; refine (HX4.out W4.drew (show Rb W4.drew g L4 from HL4.out.hr)).mono ?_; rintro e W5 ⟨rfl, hr5, ho5⟩; have HL5 := Lib.hid ((HL4.out.step (Below.drew (Below.refl _ _))).mv ho5 hr5); clear hr5 ho5))
  clear y0 y1 y2 y3 y4 y5 HX4 HE q1 HL4
  obtain ⟨L5, HE5⟩ : ∃ L, Hid (L = layL L4 6 4 p.nu.toNat) := ⟨_, rfl⟩
  rw [← HE5.out] at HL5
  have e5 : L5.length = 64 := by rw [HE5.out]; simp [layL, be_len]; omega
  obtain ⟨y0, y1, y2, y3, y4, y5⟩ := HL5.out.c0
  have q1 : p.pa % 256 = p.pa := by have := H.out.a1; have := H.out.a2; have := H.out.s2; omega
  have q2 : p.ps % 256 = p.ps := by have := H.out.s1; have := H.out.s2; omega
  have q3 : (p.da.length : Int) % 256 = p.da.length := by have := H.out.d1; omega
  have q1' : IntKind.u8.wrap p.pa = p.pa := by rw [IntKind.wrap_u8']; exact q1
  have q2' : IntKind.u8.wrap p.ps = p.ps := by rw [IntKind.wrap_u8']; exact q2
  have q3' : IntKind.u8.wrap (p.da.length : Int) = p.da.length := by rw [IntKind.wrap_u8']; exact q3
  have z0 := HL5.out.hr.cell 10 (by omega)
  have z1 := HL5.out.hr.cell 11 (by omega)
  have z2 := HL5.out.hr.cell 12 (by omega)
  have f0 := HL5.out.hr.free 10
  have f1 := HL5.out.hr.free 11
  have f2 := HL5.out.hr.free 12
  go_upto_region 9 with (fail)
  go_cut [] (fun wx => wx = (((W5.setCell ⟨g, 10, none⟩ (.int .u8 p.pa)).setCell ⟨g, 11, none⟩ (.int .u8 p.ps)).setCell ⟨g, 12, none⟩ (.int .u8 (p.da.length : Int))).drew)
  case first =>
    --D
    go_region_law
      (fail)
    all_goals go_wp2_with fail
    all_goals go_meet
    all_goals (simp only [q1', q2', q3'])
    --E
  case rest =>
    subst hcut
    clear y0 y1 y2 y3 y4 y5 z0 z1 z2 f0 f1 f2 q1 q2 q3 q1' q2' q3'
    have h6 := ((HL5.out.put 10 (UInt8.ofNat (p.pa.toNat % 256))).put 11 (UInt8.ofNat (p.ps.toNat % 256))).put 12 (UInt8.ofNat (p.da.length % 256))
    rw [show ((UInt8.ofNat (p.pa.toNat % 256)).toNat : Int) = p.pa by have := H.out.a1; have := H.out.a2; have := H.out.s2; rw [UInt8.toNat_ofNat']; omega, show ((UInt8.ofNat (p.ps.toNat % 256)).toNat : Int) = p.ps by have := H.out.s1; have := H.out.s2; rw [UInt8.toNat_ofNat']; omega, show ((UInt8.ofNat (p.da.length % 256)).toNat : Int) = p.da.length by have := H.out.d1; rw [UInt8.toNat_ofNat']; omega] at h6
    have HL6 := Lib.hid (h6.step (Below.drew (Below.refl _ _)))
    clear h6 HL5
    revert HL6
    generalize (((W5.setCell ⟨g, 10, none⟩ (.int .u8 p.pa)).setCell ⟨g, 11, none⟩ (.int .u8 p.ps)).setCell ⟨g, 12, none⟩ (.int .u8 (p.da.length : Int))).drew = W6
    obtain ⟨L6, HE6⟩ : ∃ L, Hid (L = ((L5.set 10 (UInt8.ofNat (p.pa.toNat % 256))).set 11 (UInt8.ofNat (p.ps.toNat % 256))).set 12 (UInt8.ofNat (p.da.length % 256))) := ⟨_, rfl⟩
    rw [← HE6.out]
    intro HL6
    have e6 : L6.length = 64 := by rw [HE6.out]; simpa using e5
    obtain ⟨y0, y1, y2, y3, y4, y5⟩ := HL6.out.c0
    go_wp2_with fail
    go_still_tail 4, (by kernel_rfl)
    refine wpList_copyH rfl (.tmp 54) (.tmp 56) 28 28 rfl 5 (by kernel_rfl) (by kernel_rfl) g 21 42 43 A p.da.length c rfl rfl (bcs p.da) ?_ ?_ ?_ (bcs_one _) ?_
    · rw [bcs_len]; exact (Nat.min_eq_left H.out.d1).symm
    · rw [bcs_len]
      exact fun h0 => ((HBt.out.keep HL6.out.hb).same rfl) h0
    · rw [bcs_len]
      exact HL6.out.hr.there (by have := H.out.d1; omega)
    intro W7 HW7
    have h7 := (HL6.out.step (Below.drew (Below.refl _ _))).puts 21 p.da (by have := H.out.d1; omega)
    have HL7 := Lib.hid (show Lg w W7 w.heap.size g p A c (L6.take 21 ++ p.da ++ L6.drop (21 + p.da.length)) by rw [HW7.out]; exact h7)
    clear h7 HW7 HL6 y0 y1 y2 y3 y4 y5
    obtain ⟨L7, HE7⟩ : ∃ L, Hid (L = L6.take 21 ++ p.da ++ L6.drop (21 + p.da.length)) := ⟨_, rfl⟩
    rw [← HE7.out] at HL7
    have e7 : L7.length = 64 := by rw [HE7.out]; have := H.out.d1; simp; omega
    have HX7 := Lib.hid (blksum_any W7.drew g 0 64 L7 e7 (Nat.le_refl _) (show Rb W7.drew g L7 from HL7.out.hr).bt (HD.out _ (Below.drew HL7.out.hb)) (Nat.le_trans hN HL7.out.hb.size))
    have hF := fnv_lt (sumL L7)
    obtain ⟨F, HF⟩ : ∃ F, Hid (F = fnv (sumL L7)) := ⟨_, rfl⟩
    rw [← HF.out] at HX7 hF
    have HX8 := Lib.hid (fun W (hW : Rb W g L7) => lay_any W g 13 8 F 51 L7 hF hW (by omega) (by omega))
    clear hF
    go_wp2_with fail
    go_region_law
      (first
        | (go_simp; go_at_call 18; refine HX7.out.mono ?_; rintro e W8 ⟨rfl, hb8⟩; have HB8 := Lib.hid hb8; clear hb8)
        | (go_simp; go_at_call 17; refine (HX8.out _ (HL7.out.hr.below ((Below.drew (Below.refl _ _)).trans HB8.out))).mono ?_; rintro e W9 ⟨rfl, hr9, ho9⟩; have HL9 := Lib.hid ((HL7.out.step ((Below.drew (Below.refl _ _)).trans HB8.out)).mv ho9 hr9); clear hr9 ho9))
    go_wp2_with fail
    go_ret2
    refine ⟨g, rfl, Nat.le_of_lt HL9.out.lg, ?_, HL9.out.hb⟩
    have hr := HL9.out.hr
    rw [HF.out, HE7.out, HE6.out, HE5.out, HE4.out, HE3.out, blk_made H.out.d1] at hr
    exact hr
end Go.Proofs.YtmejpjknofbffaaDoor
