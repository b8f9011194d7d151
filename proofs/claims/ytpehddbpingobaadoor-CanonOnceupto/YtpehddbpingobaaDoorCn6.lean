/-
  The program's canonical texts: a value's, walked.
-/
import Derived.Test.YtpehddbpingobaaDoorCn5
namespace Go.Proofs.YtpehddbpingobaaDoor
open Go.RowKit Go.Lib
set_option linter.unusedVariables false
set_option linter.unusedSimpArgs false

theorem laid_from {B b : Nat} {x y : List UInt8} {w W0 : World} {e : Ending} {w' : World} (hb0 : Fr B b w W0) (h : Laid B b x y W0 e w') : Laid B b x y w e w' := ⟨h.1, h.2.1, hb0.trans h.2.2⟩
set_option maxHeartbeats 4000000 in
set_option maxRecDepth 100000 in
theorem put_head (d : Nat) (fl : List V → Res) (fm : List (ByteArray × V) → Res) (k : Int) (y : Bool) (n : Int) (t : ByteArray) (l : List V) (m : List (ByteArray × V)) (c : C6) (B b : Nat) (x : List UInt8) (w : World)
    (hk : chkHead fl fm (.mk k y n t l m) = none) (hv : Val w (· < B) 1000000 (.mk k y n t l m) c.arr) (hT : Tabs w) (hB : 6 ≤ B) (h : Txt B b x w) (hx : x.length + (canT (.mk k y n t l m)).length ≤ 400000000)
    (hL : k = 4 → ∀ A ca W, Fr B b w W → ValL w (· < B) 1000000 l A 0 → l.length ≤ ca → l.length ≤ 1000000 → Txt B b x W → Calls Tryd.prog 35 #[.pointer (some ⟨b, 0, none⟩), .slice A l.length ca] W (Laid B b x (91 :: (canL 0 l ++ [93])) W))
    (hM : k = 5 → ∀ A ca W, Fr B b w W → ValM w (· < B) 1000000 m A 0 → m.length ≤ ca → m.length ≤ 1000000 → Txt B b x W → Calls Tryd.prog 36 #[.pointer (some ⟨b, 0, none⟩), .slice A m.length ca] W (Laid B b x (123 :: (canM 0 m ++ [125])) W)) :
    Calls Tryd.prog 17 #[.pointer (some ⟨b, 0, none⟩), .agg c.arr] w (Laid B b x (canT (.mk k y n t l m)) w) := by
  obtain ⟨hk0, h2, h3, -, -⟩ := chkHead_none hk
  rw [Val] at hv
  obtain ⟨A, ca, A', ca', e, ⟨hlc, hmc, hts, hlM, hmM, -, -⟩, hvl, hvm⟩ := hv
  rw [e]
  have hBw : B ≤ w.heap.size := by have := h.lt; omega
  obtain ⟨W0, hW0⟩ : ∃ W0, w.alloc (.cells #[.int .i64 k, .bool y, .int .i64 n, .string t, .slice A l.length ca, .slice A' m.length ca'] 39) = W0 := ⟨_, rfl⟩
  have hb0 : Below w.heap.size w W0 := hW0 ▸ (Below.refl _ _).alloc (Nat.le_refl _) _
  have hF0 : Fr B b w W0 := Fr.of_below hb0 hBw
  have ht0 : Txt B b x W0 := h.keep hb0
  have hwh : Whole W0 w.heap.size 39 #[.int .i64 k, .bool y, .int .i64 n, .string t, .slice A l.length ca, .slice A' m.length ca'] := hW0 ▸ Whole.made _ _ _
  obtain ⟨y0, y1, y2, y3, y4, y5⟩ := hwh.six
  have HWh := Lib.hid hwh
  have hbne : w.heap.size ≠ b := by have := h.lt; omega
  have hT0 : Tabs W0 := hT.below hF0.1 (Nat.lt_of_lt_of_le (by decide) hB) (Nat.lt_of_lt_of_le (by decide) hB)
  have hz0 : w.heap.size < W0.heap.size := lt_of_cell y0
  have HL := Lib.hid hL
  have HM := Lib.hid hM
  have H0 := Lib.hid (And.intro hW0 (And.intro hF0 (And.intro ht0 (And.intro hT0 (And.intro hvl hvm)))))
  have HS := Lib.hid (fun W (hW : Below W0.heap.size W0 W) (s : ByteArray) (hs : x.length + s.size ≤ 1000000000) => writeString_any B b x s W (ht0.keep hW) hs)
  rw [canT] at hx ⊢
  clear e hk hwh hW0 hb0 hF0 ht0 hT0 hvl hvm hL hM h hT
  rcases hk0 with rfl | rfl | rfl | rfl | rfl | rfl
  · rw [if_neg (by decide), if_neg (by decide), if_neg (by decide), if_neg (by decide), if_neg (by decide)] at hx ⊢
    have hz : (ByteArray.mk #[110, 117, 108, 108]).size = 4 := rfl
    go_enter Tryd.func17, Tryd.ntmps17
    go_wp2_with fail
    rw [H0.out.1]
    refine (HS.out _ (Below.refl _ _) _ (by omega)).mono ?_
    rintro e w1 ⟨rfl, ht1, hf1⟩
    have HT1 := Lib.hid (And.intro ht1 hf1)
    clear ht1 hf1
    go_wp2_with fail
    exact bodyPost_end (v := .tuple #[]) (by simp [results, Tryd.results17]) rfl (laid_from H0.out.2.1 ⟨rfl, HT1.out.1.txt, HT1.out.2⟩)
  · rw [if_pos rfl] at hx ⊢
    have HB := Lib.hid (fmtBool_any y)
    have hs5 : (ByteArray.mk (if y then [116, 114, 117, 101] else [102, 97, 108, 115, 101]).toArray).size ≤ 5 := by cases y <;> decide
    obtain ⟨D, hD⟩ : ∃ D : ByteArray, (⟨(if y then [116, 114, 117, 101] else [102, 97, 108, 115, 101]).toArray⟩ : ByteArray) = D := ⟨_, rfl⟩
    have hDl : D.data.toList = if y then [116, 114, 117, 101] else [102, 97, 108, 115, 101] := by rw [← hD]
    rw [hD] at hs5
    simp only [hD] at HB
    rw [← hDl] at hx ⊢
    clear hD hDl
    go_enter Tryd.func17, Tryd.ntmps17
    go_wp2_with fail
    rw [H0.out.1]
    go_region_held3 (fun w' => w'.cell? ⟨w.heap.size, 1, none⟩ = some (.bool y)) (first | with_reducible exact p1 | with_reducible exact y1 | (go_keep; done))
      (first
        | (go_at_call 33; go_must (refine (HB.out _).mono ?_); rintro e w1 ⟨rfl, rfl⟩)
        | (go_at_call 32; go_must (refine (HS.out _ ?_ D (by omega)).mono ?_); (first | with_reducible exact Below.refl _ _ | with_reducible exact (Below.refl _ _).drew); rintro e w1 ⟨rfl, ht1, hf1⟩
           have p1 : w1.cell? ⟨w.heap.size, 1, none⟩ = some (.bool y) := by
             have hw : Whole w1 w.heap.size 39 _ := hf1.block (show _ from HWh.out) hbne (by decide)
             exact (hw.cell 1).trans (by simp)
           have HT1 := Lib.hid (And.intro ht1 hf1)
           clear ht1 hf1))
    go_wp2_with fail
    exact bodyPost_end (v := .tuple #[]) (by simp [results, Tryd.results17]) rfl (laid_from H0.out.2.1 ⟨rfl, HT1.out.1.txt, (Fr.of_below ((Below.refl _ _).drew) (by omega)).trans HT1.out.2⟩)
  · rw [if_neg (by decide), if_pos rfl] at hx ⊢
    have hn := h2 rfl
    have hlen := itoa_length_le n (by omega) (by omega)
    have HB := Lib.hid (fun W (hW : Below W0.heap.size W0 W) => itoaI_any n W hn.1 hn.2 (H0.out.2.2.2.1.below hW (Nat.lt_of_lt_of_le (Nat.lt_of_lt_of_le (by decide) hB) (by omega)) (Nat.lt_of_lt_of_le (Nat.lt_of_lt_of_le (by decide) hB) (by omega))))
    obtain ⟨D, hD⟩ : ∃ D : ByteArray, (⟨(Lib.itoa n).toArray⟩ : ByteArray) = D := ⟨_, rfl⟩
    have hDl : D.data.toList = Lib.itoa n := by rw [← hD]
    have hs5 : D.size ≤ 21 := by
      have h9 : D.data.toList.length = D.size := by rw [Array.length_toList]; rfl
      rw [hDl] at h9
      omega
    simp only [hD] at HB
    rw [← hDl] at hx ⊢
    clear hD hDl hlen hn h2 h3
    go_enter Tryd.func17, Tryd.ntmps17
    go_wp2_with fail
    rw [H0.out.1]
    go_region_held3 (fun w' => w'.cell? ⟨w.heap.size, 2, none⟩ = some (.int .i64 n)) (first | with_reducible exact p2 | with_reducible exact z2 | with_reducible exact y2 | (go_keep; done))
      (first
        | (go_at_call 34; go_must (refine (HB.out _ ?_).mono ?_); (first | with_reducible exact Below.refl _ _ | with_reducible exact (Below.refl _ _).drew); rintro e w1 ⟨rfl, hb1⟩
           have HB1 := Lib.hid (((Below.refl W0.heap.size W0).drew).trans hb1)
           have z2 := (HB1.out.cell (p := ⟨w.heap.size, 2, none⟩) hz0).trans y2
           clear hb1)
        | (go_at_call 32; go_must (refine (HS.out _ ?_ D (by omega)).mono ?_); (first | with_reducible exact HB1.out | with_reducible exact HB1.out.drew); rintro e w2 ⟨rfl, ht1, hf1⟩
           have p2 : w2.cell? ⟨w.heap.size, 2, none⟩ = some (.int .i64 n) := by
             have hw : Whole w2 w.heap.size 39 _ := hf1.block (show _ from HWh.out.below HB1.out hz0) hbne (by decide)
             exact (hw.cell 2).trans (by simp)
           have HT1 := Lib.hid (And.intro ht1 hf1)
           clear ht1 hf1))
    go_wp2_with fail
    exact bodyPost_end (v := .tuple #[]) (by simp [results, Tryd.results17]) rfl (laid_from H0.out.2.1 ⟨rfl, HT1.out.1.txt, (Fr.of_below HB1.out (by omega)).trans HT1.out.2⟩)
  · rw [if_neg (by decide), if_neg (by decide), if_pos rfl] at hx ⊢
    have HQ := Lib.hid (quote_any B b x t W0 H0.out.2.2.2.1.1 (Nat.lt_of_lt_of_le (by decide) hB) H0.out.2.2.1 (by omega) (by omega))
    go_enter Tryd.func17, Tryd.ntmps17
    go_wp2_with fail
    rw [H0.out.1]
    refine HQ.out.mono ?_
    rintro e w1 ⟨rfl, ht1, hf1⟩
    have HT1 := Lib.hid (And.intro ht1 hf1)
    clear ht1 hf1
    go_wp2_with fail
    exact bodyPost_end (v := .tuple #[]) (by simp [results, Tryd.results17]) rfl (laid_from H0.out.2.1 ⟨rfl, HT1.out.1, HT1.out.2⟩)
  · rw [if_neg (by decide), if_neg (by decide), if_neg (by decide), if_pos rfl] at hx ⊢
    have HQ := Lib.hid (HL.out rfl A ca W0 H0.out.2.1 H0.out.2.2.2.2.1 hlc hlM H0.out.2.2.1)
    go_enter Tryd.func17, Tryd.ntmps17
    go_wp2_with fail
    rw [H0.out.1]
    refine HQ.out.mono ?_
    rintro e w1 ⟨rfl, ht1, hf1⟩
    have HT1 := Lib.hid (And.intro ht1 hf1)
    clear ht1 hf1
    go_wp2_with fail
    exact bodyPost_end (v := .tuple #[]) (by simp [results, Tryd.results17]) rfl (laid_from H0.out.2.1 ⟨rfl, HT1.out.1, HT1.out.2⟩)
  · rw [if_neg (by decide), if_neg (by decide), if_neg (by decide), if_neg (by decide), if_pos rfl] at hx ⊢
    have HQ := Lib.hid (HM.out rfl A' ca' W0 H0.out.2.1 H0.out.2.2.2.2.2 hmc hmM H0.out.2.2.1)
    go_enter Tryd.func17, Tryd.ntmps17
    go_wp2_with fail
    rw [H0.out.1]
    refine HQ.out.mono ?_
    rintro e w1 ⟨rfl, ht1, hf1⟩
    have HT1 := Lib.hid (And.intro ht1 hf1)
    clear ht1 hf1
    go_wp2_with fail
    exact bodyPost_end (v := .tuple #[]) (by simp [results, Tryd.results17]) rfl (laid_from H0.out.2.1 ⟨rfl, HT1.out.1, HT1.out.2⟩)
end Go.Proofs.YtpehddbpingobaaDoor
