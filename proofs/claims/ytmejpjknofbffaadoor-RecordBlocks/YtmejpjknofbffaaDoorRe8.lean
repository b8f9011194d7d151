/-
  A block whose sum is right, read by the program: its piece.
-/
import Derived.Test.YtmejpjknofbffaaDoorRe7
import Derived.Deep.Cut
namespace Go.Proofs.YtmejpjknofbffaaDoor
open Go.RowKit Go.Lib
set_option linter.unusedVariables false
set_option linter.unusedSimpArgs false

theorem new6 {V W : World} {T : TypeId} (h : Below ((V.alloc (.cells #[.int .i64 0, .int .i64 0, .int .i64 0, .int .i64 0, .int .i64 0, .slice none 0 0] T)).drew).heap.size (V.alloc (.cells #[.int .i64 0, .int .i64 0, .int .i64 0, .int .i64 0, .int .i64 0, .slice none 0 0] T)).drew W) : HdD W V.heap.size (pcs zeroPc none 0) := by
  have h1 : HdD (V.alloc (.cells #[.int .i64 0, .int .i64 0, .int .i64 0, .int .i64 0, .int .i64 0, .slice none 0 0] T)).drew V.heap.size (pcs zeroPc none 0) := (hd_new V (pcs zeroPc none 0) T).same rfl
  exact h1.keep (h1.lt (by decide)) h
/-- The piece that was read lies in memory. -/
def Laid7 (w : World) (g q : Nat) (x : List UInt8) (p : Pc) (v7 : Value) (wx : World) : Prop := ∃ b A c', v7 = .pointer (some ⟨b, 0, none⟩) ∧ HdD wx b (pcs p A c') ∧ Bt wx A p.da ∧ p.da.length ≤ c' ∧ (∀ ad, A = some ad → ∃ g, ad = ⟨g, 0, none⟩ ∧ w.heap.size < g) ∧ (A = none → p.da.length = 0) ∧ Rg w wx g q w.heap.size x (pcs zeroPc none 0)
theorem laid_last {w W2 W3 V : World} {g q n : Nat} {x : List UInt8} {p : Pc} {A : Option Addr} {c : Nat} (h2 : Rg w W2 g q w.heap.size x (pcs zeroPc none 0)) (h3 : Below W2.heap.size W2 W3) (hV : W2.heap.size ≤ V.heap.size) (hn : p.da.length = n)
    (hN : Bt W3 A p.da ∧ p.da.length ≤ c ∧ (∀ ad, A = some ad → ∃ g, ad = ⟨g, 0, none⟩ ∧ V.heap.size ≤ g ∧ g < W3.heap.size) ∧ (A = none → p.da.length = 0 ∧ c = 0)) :
    Laid7 w g q x p (.pointer (some ⟨W3.heap.size, 0, none⟩)) (W3.alloc (.cells #[.int .i64 p.kd, .int .i64 p.ep, .int .i64 p.nu, .int .i64 p.pa, .int .i64 p.ps, .slice A n c] 33)) := by
  subst hn
  obtain ⟨n1, n2, n3, n4⟩ := hN
  refine ⟨W3.heap.size, A, c, rfl, hd_new W3 (pcs p A c) 33, n1.keep (new_below W3 _), n2, fun ad e => ?_, fun e => (n4 e).1, (h2.step h3).step (new_below W3 _)⟩
  obtain ⟨g, e1, e2, e3⟩ := n3 ad e
  have := h2.hr.lt (by decide)
  exact ⟨g, e1, by omega⟩
theorem laid_first {w W2 W3 V : World} {g q n : Nat} {x : List UInt8} {p : Pc} {A : Option Addr} {c : Nat} (h2 : Rg w W2 g q w.heap.size x (pcs zeroPc none 0)) (h3 : Below W2.heap.size W2 W3) (hV : W2.heap.size + 1 ≤ V.heap.size) (hn : p.da.length = n)
    (hN : Bt W3 A p.da ∧ p.da.length ≤ c ∧ (∀ ad, A = some ad → ∃ g, ad = ⟨g, 0, none⟩ ∧ V.heap.size ≤ g ∧ g < W3.heap.size) ∧ (A = none → p.da.length = 0 ∧ c = 0)) (hz : HdD W3 W2.heap.size (pcs zeroPc none 0)) :
    Laid7 w g q x p (.pointer (some ⟨W2.heap.size, 0, none⟩)) (W3.setCells W2.heap.size 0 [.int .i64 p.kd, .int .i64 p.ep, .int .i64 p.nu, .int .i64 p.pa, .int .i64 p.ps, .slice A n c]) := by
  subst hn
  obtain ⟨n1, n2, n3, n4⟩ := hN
  have hs := h2.hb.size
  refine ⟨W2.heap.size, A, c, rfl, hz.all (L' := pcs p A c) rfl, fun h0 => ?_, n2, fun ad e => ?_, fun e => (n4 e).1, h2.step (below_setCells h3 (Nat.le_refl _) _ _)⟩
  · obtain ⟨ad, e, h1⟩ := n1 h0
    obtain ⟨gg, e1, e2, e3⟩ := n3 ad e
    subst e1
    refine ⟨_, e, fun j v hv => ?_⟩
    have := h1 j v hv
    rw [Addr.add_mid] at this ⊢
    rw [World.cell?_of_block (heap_setCells _ _ _ _ _ (by show gg ≠ _; omega))]
    exact this
  · obtain ⟨gg, e1, e2, e3⟩ := n3 ad e
    have := h2.hr.lt (by decide)
    exact ⟨gg, e1, by omega⟩
set_option maxHeartbeats 4000000 in
set_option maxRecDepth 100000 in
theorem read_piece (w : World) (g q c : Nat) (x : List UInt8) (hx : x.length = 64) (hc : 64 ≤ c) (h : Bt w (some ⟨g, q, none⟩) x) (hD : Deb w) (hN : 7 ≤ w.heap.size) (hm : x.getD 0 0 = x.getD 63 0) (hs : un (cutL x 13 21) = fnv (sumL x)) (hl : byteN x 12 ≤ 42) (hz : allZ (cutL x (21 + byteN x 12) 63) = true) :
    Calls Tryd.prog 10 #[.slice (some ⟨g, q, none⟩) 64 c] w (RdAns w x) := by
  have hcc : readC x = (if (readP x).bad ≠ 0 then 1 else 0) := by rw [readC, if_neg (by omega), if_neg (fun e => e hm), if_neg (fun e => e hs), if_neg (by omega), if_neg (by rw [hz]; decide)]
  have hm' : byteN x 0 = byteN x 63 := by unfold byteN; rw [hm]
  obtain ⟨y0, hy0⟩ : ∃ y, byteN x 0 = y := ⟨_, rfl⟩
  rw [hy0] at hm'
  have hy1 := hm'.symm
  have HB := Lib.hid h
  have HX := Lib.hid hx
  have HY := Lib.hid (And.intro hy0 hy1)
  have HC := Lib.hid hcc
  have HD := Lib.hid hD
  have hT := ((y0 : Int) == (y0 : Int))
  obtain ⟨s1, hs1⟩ : ∃ s, un (cutL x 13 21) = s := ⟨_, rfl⟩
  obtain ⟨s2, hs2⟩ : ∃ s, fnv (sumL x) = s := ⟨_, rfl⟩
  obtain ⟨n, hn⟩ : ∃ n, byteN x 12 = n := ⟨_, rfl⟩
  have HS1 := Lib.hid (show un (cutL x 13 (13 + 8)) = s1 from hs1)
  have HS2 := Lib.hid hs2
  have HN := Lib.hid hn
  have hn255 : n < 256 := by rw [← hn]; exact byteN_lt _ _
  rw [hs1, hs2] at hs
  subst hs
  rw [hn] at hl hz
  have d1 : decide ((42 : Int) < (n : Int)) = false := decide_eq_false (by omega)
  have d2 : ¬ (42 : Int) < (n : Int) := by omega
  have rw1 := fun W => run_win W g q 64 c (21 + n) 63 .i64 .i64 (by omega) (by omega) (by omega)
  simp only [Int.natCast_add, Int.cast_ofNat_Int] at rw1
  have HZ := Lib.hid hz
  obtain ⟨b1, hb1⟩ : ∃ b, byteN x 1 = b := ⟨_, rfl⟩
  obtain ⟨b10, hb10⟩ : ∃ b, byteN x 10 = b := ⟨_, rfl⟩
  obtain ⟨b11, hb11⟩ : ∃ b, byteN x 11 = b := ⟨_, rfl⟩
  obtain ⟨u1, hu1⟩ : ∃ u, un (cutL x 2 (2 + 4)) = u := ⟨_, rfl⟩
  obtain ⟨u2, hu2⟩ : ∃ u, un (cutL x 6 (6 + 4)) = u := ⟨_, rfl⟩
  have hP : readP x = ⟨b1, u1, u2, b10, b11, cutL x 21 (21 + n)⟩ := by unfold readP; rw [hb1, hb10, hb11, hn, ← hu1, ← hu2]
  have lu1 : u1 < 4294967296 := by rw [← hu1]; exact Nat.lt_of_lt_of_le (un_lt _) (by rw [cutL_len x (by omega)]; decide)
  have lu2 : u2 < 4294967296 := by rw [← hu2]; exact Nat.lt_of_lt_of_le (un_lt _) (by rw [cutL_len x (by omega)]; decide)
  have lb1 : b1 < 256 := by rw [← hb1]; exact byteN_lt _ _
  have lb10 : b10 < 256 := by rw [← hb10]; exact byteN_lt _ _
  have lb11 : b11 < 256 := by rw [← hb11]; exact byteN_lt _ _
  have HBy := Lib.hid (And.intro hb1 (And.intro hb10 hb11))
  have HU1 := Lib.hid hu1
  have HU2 := Lib.hid hu2
  have HP := Lib.hid hP
  have hlen := cutL_len x (l := 21) (h := 21 + n) (by omega)
  rw [Nat.add_sub_cancel_left] at hlen
  have HF := Lib.hid (show Pc.Fit ⟨b1, u1, u2, b10, b11, cutL x 21 (21 + n)⟩ from ⟨by simp only; omega, by simp only; omega, by simp only; omega, by simp only; omega, by simp only; omega, by simp only; omega⟩)
  have HLn := Lib.hid hlen
  have rw2 := fun W => run_win W g q 64 c 21 (21 + n) .i64 .i64 (by omega) (by omega) (by omega)
  rw [Nat.add_sub_cancel_left] at rw2
  simp only [Int.natCast_add, Int.cast_ofNat_Int] at rw2
  have hmw := w21_nat n hl
  have w1 := w64_nat u1 (Nat.lt_trans lu1 (by decide))
  have w2 := w64_nat u2 (Nat.lt_trans lu2 (by decide))
  have w3 := w64_nat b1 (Nat.lt_trans lb1 (by decide))
  have w4 := w64_nat b10 (Nat.lt_trans lb10 (by decide))
  have w5 := w64_nat b11 (Nat.lt_trans lb11 (by decide))
  have HWs := Lib.hid (And.intro w1 (And.intro w2 (And.intro w3 (And.intro w4 (And.intro w5 rw2)))))
  clear w1 w2 w3 w4 w5 rw2
  clear lu1 lu2 lb1 lb10 lb11 hlen hb1 hb10 hb11 hu1 hu2 hP
  clear hs1 hs2 hn hz hT
  have hw64 := w64_nat n (Nat.lt_trans hn255 (by decide))
  clear hcc h hy0 hy1 hm hm' hx hD
  go_enter Tryd.func10, Tryd.ntmps10
  go_upto_region 9 with (first
    | ((with_reducible refine at_slot 2 ?_); refine wpList_allocH rfl 33 rfl _ zero_pc ?_; intro W1 HW1; have HR := Lib.hid (Rg.new HB.out HW1.out); have c0 := HR.out.cell HX.out 0 (by decide); have c63 := HR.out.cell HX.out 63 (by decide); rw [Nat.add_zero] at c0; rw [HY.out.1] at c0; rw [HY.out.2] at c63; clear HW1)
    | (go_at_call 21; go_must (refine (HR.out.laid HX.out 13 8 (c - 13) (by decide) (by decide)).mono ?_; rintro e w' ⟨rfl, rfl⟩; rw [HS1.out]))
    | (go_at_call 18; go_must (refine (HR.out.sum HX.out hc HD.out hN).mono ?_; rintro e W2 ⟨rfl, hb2⟩; rw [HS2.out]; have HR2 := Lib.hid (HR.out.step hb2); clear hb2 c0 c63; have zb := zbuild W2; have c12 := HR2.out.cell HX.out 12 (by decide); rw [HN.out] at c12))
    | (go_at_call 22; go_must (refine (HR2.out.noughts HX.out n _ hl).mono ?_; rintro e w' ⟨rfl, rfl⟩; rw [HZ.out])))
  clear c12 rw1 d1
  obtain ⟨w1, w2, w3, w4, w5, rw2⟩ := HWs.out
  have rw3 := fun W => run_win W g q 64 c 2 6 .i64 .i64 (by omega) (by clear w1 w2 w3 w4 w5 hmw hw64; omega) (by clear w1 w2 w3 w4 w5 hmw hw64; omega)
  have rw4 := fun W => run_win W g q 64 c 6 10 .i64 .i64 (by omega) (by clear w1 w2 w3 w4 w5 hmw hw64; omega) (by clear w1 w2 w3 w4 w5 hmw hw64; omega)
  simp only [Int.cast_ofNat_Int, Nat.reduceSub] at rw3 rw4
  have HCl := Lib.hid (fun V (hV : Below W2.heap.size W2 V) => by
    have := bclone_any V (some ⟨g, q + 21, none⟩) (cutL x 21 (21 + n)) (c - 21) ((HR2.out.step hV).hB.cut 21 (21 + n) (by rw [HX.out]; omega)) (by rw [HLn.out]; omega) (fun e => by cases e)
    rw [HLn.out] at this
    exact this)
  have H3 := Lib.hid (fun V (hV : Below W2.heap.size W2 V) => show V.cell? ⟨g, q + 1, none⟩ = some (.int .u8 (b1 : Int)) ∧ V.cell? ⟨g, q + 10, none⟩ = some (.int .u8 (b10 : Int)) ∧ V.cell? ⟨g, q + 11, none⟩ = some (.int .u8 (b11 : Int)) by
    have hr := HR2.out.step hV
    have e1 := hr.cell HX.out 1 (by decide)
    have e2 := hr.cell HX.out 10 (by decide)
    have e3 := hr.cell HX.out 11 (by decide)
    rw [HBy.out.1] at e1
    rw [HBy.out.2.1] at e2
    rw [HBy.out.2.2] at e3
    exact ⟨e1, e2, e3⟩)
  have HLa := Lib.hid (fun V (hV : Below W2.heap.size W2 V) => show Calls Tryd.prog 21 #[.slice (some ⟨g, q + 2, none⟩) 4 (c - 2)] V fun e w' => e = .returned (.int .u64 (u1 : Nat)) ∧ V = w' by
    have := (HR2.out.step hV).laid HX.out 2 4 (c - 2) (by decide) (by decide)
    rw [HU1.out] at this
    exact this)
  have HLb := Lib.hid (fun V (hV : Below W2.heap.size W2 V) => show Calls Tryd.prog 21 #[.slice (some ⟨g, q + 6, none⟩) 4 (c - 6)] V fun e w' => e = .returned (.int .u64 (u2 : Nat)) ∧ V = w' by
    have := (HR2.out.step hV).laid HX.out 6 4 (c - 6) (by decide) (by decide)
    rw [HU2.out] at this
    exact this)
  go_cut [7] from 47 (fun v7 wx => Laid7 w g q x ⟨b1, u1, u2, b10, b11, cutL x 21 (21 + n)⟩ v7 wx)
  case first =>
    obtain ⟨b0, hb0⟩ : ∃ b0, W2.heap.size = b0 := ⟨_, rfl⟩
    go_region_held3 (fun V => V.cell? ⟨g, q + 1, none⟩ = some (.int .u8 (b1 : Int)) ∧ V.cell? ⟨g, q + 10, none⟩ = some (.int .u8 (b10 : Int)) ∧ V.cell? ⟨g, q + 11, none⟩ = some (.int .u8 (b11 : Int)))
      (first | with_reducible exact H3.out _ (Below.setCell (Below.setCell (Below.setCell (Below.setCell (Below.setCell (Below.setCell HB3.out (Nat.le_of_eq hb0) _) (Nat.le_of_eq hb0) _) (Nat.le_of_eq hb0) _) (Nat.le_of_eq hb0) _) (Nat.le_of_eq hb0) _) (Nat.le_of_eq hb0) _) | with_reducible exact H3.out _ HB3.out | with_reducible exact H3.out _ (Below.alloc HB3.out HB3.out.size _) | with_reducible exact H3.out _ (Below.drew (Below.alloc (Below.refl _ _) (Nat.le_refl _) _)) | with_reducible exact H3.out _ (Below.drew (Below.refl _ _)))
      (first
        | (go_at_call 21; with_reducible refine (HLa.out _ ?b).mono ?_; (case b => first | with_reducible exact Below.drew (Below.refl _ _) | with_reducible exact Below.drew (Below.alloc (Below.refl _ _) (Nat.le_refl _) _)); rintro e w' ⟨rfl, rfl⟩)
        | (go_at_call 21; with_reducible refine (HLb.out _ ?b).mono ?_; (case b => first | with_reducible exact Below.drew (Below.refl _ _) | with_reducible exact Below.drew (Below.alloc (Below.refl _ _) (Nat.le_refl _) _)); rintro e w' ⟨rfl, rfl⟩)
        | (go_at_call 23; with_reducible refine (HCl.out _ ?b).mono ?_; (case b => first | with_reducible exact Below.drew (Below.refl _ _) | with_reducible exact Below.drew (Below.alloc (Below.refl _ _) (Nat.le_refl _) _)); rintro e W3 ⟨v3, rfl, hnb, hb3⟩
           obtain ⟨A3, c3, rfl, hnb⟩ := hnb
           have HB3 := Lib.hid (show Below W2.heap.size W2 W3 by first | exact (Below.drew (Below.refl _ _)).trans hb3 | exact (Below.drew (Below.alloc (Below.refl _ _) (Nat.le_refl _) _)).trans (hb3.mono (by simp)))
           have HNB := Lib.hid hnb
           (first | ((with_reducible have HZ6 := Lib.hid (new6 hb3)); rw [hb0] at HZ6; have z0 := HZ6.out.cell 0 _ rfl; have z1 := HZ6.out.cell 1 _ rfl; have z2 := HZ6.out.cell 2 _ rfl; have z3 := HZ6.out.cell 3 _ rfl; have z4 := HZ6.out.cell 4 _ rfl; have z5 := HZ6.out.cell 5 _ rfl; have f0 := HZ6.out.2 0 (by decide); have f1 := HZ6.out.2 1 (by decide); have f2 := HZ6.out.2 2 (by decide); have f3 := HZ6.out.2 3 (by decide); have f4 := HZ6.out.2 4 (by decide); have f5 := HZ6.out.2 5 (by decide)) | skip)
           clear hnb hb3))
    all_goals go_wp2_with fail
    all_goals subst hb0
    all_goals go_meet
    all_goals simp only [IntWalk.i64_left, w1, w2, w3, w4, w5]
    all_goals first
      | (have hz := HZ6
         have hl := laid_first (p := ⟨b1, u1, u2, b10, b11, cutL x 21 (21 + n)⟩) HR2.out HB3.out (by simp) rfl HNB.out hz.out
         simp only [World.setCells, Nat.zero_add, Nat.reduceAdd] at hl
         with_reducible exact hl)
      | (have hl := laid_last (p := ⟨b1, u1, u2, b10, b11, cutL x 21 (21 + n)⟩) HR2.out HB3.out (Nat.le_refl _) rfl HNB.out
         simp only at hl
         with_reducible exact hl)
  case rest =>
    clear rw2 rw3 rw4
    obtain ⟨bb, A, c', rfl, hp, hbt, hle, hgt, hno, hrg⟩ := hcut
    have y0 := hp.cell 0 _ rfl
    have y1 := hp.cell 1 _ rfl
    have y2 := hp.cell 2 _ rfl
    have y3 := hp.cell 3 _ rfl
    have y4 := hp.cell 4 _ rfl
    have y5 := hp.cell 5 _ rfl
    obtain ⟨p, hpe⟩ : ∃ p : Pc, (⟨b1, u1, u2, b10, b11, cutL x 21 (21 + n)⟩ : Pc) = p := ⟨_, rfl⟩
    simp only at y0 y1 y2 y3 y4 y5
    have HP2 := Lib.hid (HP.out.trans hpe)
    have HWr := rwrong_any _ A c' wc HF.out
    rw [hpe] at HWr hp hbt hle hno
    have hda : (cutL x 21 (21 + n)).length = p.da.length := by rw [← hpe]
    have hF : p.bad = 0 → fieldOf p.bad = ⟨#[]⟩ := fun h => by rw [h]; rfl
    have hie := fieldOf_ie (p := p)
    rw [← hpe] at HWr
    unfold Pc.pv at HWr
    simp only at HWr
    rw [hpe] at HWr
    have HWf := Lib.hid HWr
    have HR4 := Lib.hid hrg
    have HPE := Lib.hid hpe
    have HL := Lib.hid (And.intro hp (And.intro hbt (And.intro hle (And.intro hgt hno))))
    clear hp hbt hle hgt hno hrg w1 w2 w3 w4 w5 hmw hw64 HWr hpe hda
    by_cases hb : p.bad = 0
    · have hF0 := hF hb
      have hcc : readC x = 0 := by rw [HC.out, HP2.out, if_neg (by simp [hb])]
      have HC0 := Lib.hid hcc
      rw [hF0] at HWf
      clear hie hF hcc
      go_upto_region 9 with (first
        | (go_at_call 20; go_must (refine HWf.out.mono ?_; rintro e W5 ⟨rfl, hb5⟩; have HR5 := Lib.hid (HR4.out.step hb5); have hp5 := HL.out.1.keep (HL.out.1.lt (Nat.succ_pos 5)) hb5; rw [← HPE.out] at hp5; have x0 := hp5.cell 0 _ rfl; have x1 := hp5.cell 1 _ rfl; have x2 := hp5.cell 2 _ rfl; have x3 := hp5.cell 3 _ rfl; have x4 := hp5.cell 4 _ rfl; have x5 := hp5.cell 5 _ rfl; simp only at x0 x1 x2 x3 x4 x5; have HB5 := Lib.hid hb5; clear hb5 hp5 y0 y1 y2 y3 y4 y5))
        | ((with_reducible refine at_store 33 ?_); go_must (refine wpList_storeH rfl 33 (.tmp 2) _ rfl w.heap.size 0 (pcs ⟨b1, u1, u2, b10, b11, cutL x 21 (21 + n)⟩ A c').toArray rfl rfl HR5.out.hr.th size_pc (pcs_one _ _ _) ?_); intro W6 HW6))
      obtain ⟨h1, h2⟩ := HR5.out.fin (L' := pcs ⟨b1, u1, u2, b10, b11, cutL x 21 (21 + n)⟩ A c') rfl HW6.out
      refine ret_cell_tmp2 (pcs ⟨b1, u1, u2, b10, b11, cutL x 21 (21 + n)⟩ A c') w.heap.size rfl rfl h1.1 Tryd.underlying33 rfl size_pc rfl ?_
      obtain ⟨-, hbt, hle, hgt, hno⟩ := HL.out
      rw [← HPE.out] at hbt hle hno
      have hrA : readA x = ⟨b1, u1, u2, b10, b11, cutL x 21 (21 + n)⟩ := by rw [readA, if_pos HC0.out, HP.out]
      refine ⟨A, c', ?_, ?_, ?_, ?_, h2⟩
      · rw [hrA, readM, if_pos HC0.out, errR, if_pos HC0.out, HY.out.1]
        rfl
      · rw [hrA]
        intro h0
        obtain ⟨ad, e, hc1⟩ := hbt.keep HB5.out h0
        obtain ⟨gg, e1, e2⟩ := hgt ad e
        subst e1
        refine ⟨_, e, fun j v hv => ?_⟩
        have := hc1 j v hv
        rw [Addr.add_mid] at this ⊢
        rw [HW6.out, World.cell?_of_block (heap_setCells _ _ _ _ _ (by show gg ≠ _; omega))]
        exact this
      · rw [hrA]; exact hno
      · rw [hrA]; exact hle
    · have hie0 := hie hb
      have hcc : readC x = 1 := by rw [HC.out, HP2.out, if_pos hb]
      have HC0 := Lib.hid hcc
      obtain ⟨F, hFF⟩ : ∃ F, fieldOf p.bad = F := ⟨_, rfl⟩
      rw [hFF] at HWf hie0
      clear hie hF hcc hFF hb
      go_upto_region 9 with (first
        | (go_at_call 20; go_must (refine HWf.out.mono ?_; rintro e W5 ⟨rfl, hb5⟩; have HR5 := Lib.hid (HR4.out.step hb5); clear hb5; have zb5 := zbuild W5))
        | ((with_reducible refine at_store 33 ?_); go_must (refine wpList_storeH rfl 33 (.tmp 2) _ rfl w.heap.size 0 (pcs zeroPc none 0).toArray rfl rfl HR5.out.hr.th size_pc (pcs_one _ _ _) ?_); intro W6 HW6))
      obtain ⟨h1, h2⟩ := HR5.out.fin (L' := pcs zeroPc none 0) rfl HW6.out
      refine ret_cell_tmp2 (pcs zeroPc none 0) w.heap.size rfl rfl h1.1 Tryd.underlying33 rfl size_pc rfl ?_
      exact rdans_no HC0.out (by decide) h2

theorem rread_any (w : World) (A : Option Addr) (c : Nat) (x : List UInt8) (hl : x.length ≤ c) (hc : c ≤ 9223372036854775807) (h : Bt w A x) (hA : ∀ ad, A = some ad → ∃ g q, ad = ⟨g, q, none⟩) (hD : Deb w) (hN : 7 ≤ w.heap.size) :
    Calls Tryd.prog 10 #[.slice A x.length c] w (RdAns w x) := by
  by_cases hx : x.length = 64
  · obtain ⟨ad, rfl, -⟩ := h (by omega)
    obtain ⟨g, q, rfl⟩ := hA ad rfl
    have hc64 : 64 ≤ c := by omega
    rw [hx]
    by_cases hm : x.getD 0 0 = x.getD 63 0
    · by_cases hs : un (cutL x 13 21) = fnv (sumL x)
      · by_cases h42 : byteN x 12 ≤ 42
        · rcases hz : allZ (cutL x (21 + byteN x 12) 63) with _ | _
          · exact read_more w g q c x hx hc64 h hD hN hm hs h42 hz
          · exact read_piece w g q c x hx hc64 h hD hN hm hs h42 hz
        · exact read_long w g q c x hx hc64 h hD hN hm hs (by omega)
      · exact read_sums w g q c x hx hc64 h hD hN hm hs
    · exact read_marks w g q c x hx hc64 h hm
  · exact read_len w A c x hx (by omega)
end Go.Proofs.YtmejpjknofbffaaDoor
