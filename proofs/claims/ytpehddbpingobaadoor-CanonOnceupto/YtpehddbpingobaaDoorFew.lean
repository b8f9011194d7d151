/-
  The law's own Few, walked: whether there is at most so much of a value.
-/
import Derived.Test.YtpehddbpingobaaDoorSize1
namespace Go.Proofs.YtpehddbpingobaaDoor
open Go.RowKit Go.Lib
set_option linter.unusedVariables false
set_option linter.unusedSimpArgs false

set_option maxRecDepth 100000 in
set_option maxHeartbeats 4000000 in
theorem few_any (M : Nat) (hM : M ≤ 1000000000) (most : Nat) (hmost : most ≤ 1000000000) : ∀ (v : V) (cs : Array Value) (B : Nat) (w : World), wgt v ≤ 1000000000 → Val w (· < B) M v cs → B ≤ w.heap.size →
    Calls Tryd.prog 5 #[.agg cs, .int .i64 most] w fun e w' => e = .returned (.bool (decide (wgt v ≤ most))) ∧ Below w.heap.size w w'
  | .mk k y m t l mp, cs, B, w, hw, hv, hB => by
    obtain ⟨n, hn⟩ : ∃ n, n = 1000000000 := ⟨_, rfl⟩
    have hn' : n ≤ 1000000000 := by omega
    have hn2 : 1000000000 ≤ n := by omega
    clear hn
    have ih := Lib.hid (size_any M hM n)
    rw [Val] at hv
    obtain ⟨A, c, A', c', rfl, ⟨hlc, hmc, ht, hlM, hmM, -, -⟩, hl, hm⟩ := hv
    rw [wgt] at hw ⊢
    have HV := Lib.hid (And.intro hl (And.intro hm hw))
    clear hl hm hw
    have ht' : t.size ≤ 1000000000 := by omega
    go_enter Tryd.func5, Tryd.ntmps5
    go_wp2_with fail
    go_loopg [5, 18] l.length (SzL (w.alloc (.cells #[.int .i64 k, .bool y, .int .i64 m, .string t, .slice A l.length c, .slice A' mp.length c'] 25)) l (1 + t.size / 20))
    case atStart => exact ⟨0, by simp, rfl, by simp [wgtL]; skip, Below.refl _ _⟩
    case round =>
      obtain ⟨j, hk, rfl, rfl, hb⟩ := hrel
      have hbw : Below w.heap.size w wr := ((Below.refl w.heap.size w).alloc (Nat.le_refl _) _).trans (hb.mono (by simp))
      have hzr : w.heap.size < wr.heap.size := by have := hb.size; simp at this; omega
      by_cases hlt : j < l.length
      · obtain ⟨b, off, cs, rfl, hbB, hc, hx⟩ := HV.out.1.get j hlt
        obtain ⟨cj, rfl⟩ := hx.c6
        have hcj : ∀ q, q < 6 → wr.cell? ⟨b, off + j * 6 + q, none⟩ = cj.arr[q]? := fun q hq => by
          rw [hbw.cell (p := ⟨b, off + j * 6 + q, none⟩) (show b < w.heap.size by omega)]
          simpa using hc q hq
        obtain ⟨x0, x1, x2, x3, x4, x5⟩ := cells6 hcj rfl
        have hsum : 1 + t.size / 20 + wgtL (l.take j) + wgt l[j] ≤ 1000000000 := by
          have h1 := HV.out.2.2
          have h2 := wgtL_le l (j + 1)
          rw [wgtL_take l j hlt] at h2
          omega
        have hwj : wgt l[j] ≤ n := by
          have h1 := HV.out.2.2
          have h2 := wgtL_le l (j + 1)
          rw [wgtL_take l j hlt] at h2
          omega
        have hw2 : wgtL (l.take (j + 1)) = wgtL (l.take j) + wgt l[j] := wgtL_take l j hlt
        have hcall := fun W (hW : Below w.heap.size w W) => ih.out l[j] cj.arr B W hwj (by omega) (hx.keep (fun p hp => hW.cell (Nat.lt_of_lt_of_le hp hB)) (fun _ h => h)) (Nat.le_trans hB hW.size)
        have HX := Lib.hid (And.intro hb (And.intro hbw (And.intro hk hw2)))
        have HC := Lib.hid hcall
        obtain ⟨a, ha⟩ : ∃ a, wgtL (l.take j) = a := ⟨_, rfl⟩
        obtain ⟨x, hxx⟩ : ∃ x, wgt l[j] = x := ⟨_, rfl⟩
        rw [ha] at hsum ⊢
        rw [hxx] at hsum HC
        have HE := Lib.hid (And.intro ha hxx)
        clear ha hxx
        clear hb hbw hk hw2 hcall hcj hc hx hwj
        obtain ⟨jk, jy, jn, jt, ja, jla, jca, jb, jlb, jcb⟩ := cj
        dsimp only [C6.arr] at x0 x1 x2 x3 x4 x5 HC
        go_wp2_with fail
        refine (HC.out _ (HX.out.2.1.alloc (by omega) _)).mono ?_
        rintro e W2 ⟨rfl, hb2⟩
        go_wp2_with fail
        go_roundg (l.length - (j + 1))
        case rel =>
          obtain ⟨hb, hbw, hk, hw2⟩ := HX.out
          obtain ⟨ha, hxx⟩ := HE.out
          refine ⟨j + 1, by omega, by go_num, congrArg (Value.int .i64) ?_, hb.trans (((Below.refl _ _).alloc (Nat.le_refl _) _ |>.trans (hb2.mono (by simp))).mono (by simp; omega))⟩
          rw [hw2, ha, hxx]
          omega
        case measure => have := HX.out.2.2.1; omega
      · obtain rfl : j = l.length := by omega
        have d5 : wr.cell? ⟨w.heap.size, 5, none⟩ = some (.slice A' mp.length c') := (hb.cell (p := ⟨w.heap.size, 5, none⟩) (by simp)).trans (by simp)
        have hsL : wgtL (l.take l.length) = wgtL l := by rw [List.take_length]
        rw [hsL]
        have hs0 : 1 + t.size / 20 + wgtL l + wgtM mp ≤ 1000000000 := by have := HV.out.2.2; omega
        obtain ⟨n0, hn0⟩ : ∃ n0, 1 + t.size / 20 + wgtL l = n0 := ⟨_, rfl⟩
        rw [hn0] at hs0 ⊢
        have HN := Lib.hid (And.intro hn0 (And.intro hb hbw))
        clear hn0 hsL hb hbw
        go_wp2_with fail
        obtain ⟨wo, rfl⟩ : ∃ wo : World, wo = wr := ⟨_, rfl⟩
        go_loopg [5, 30] mp.length (SzM wo mp n0)
        case atStart => exact ⟨0, by simp, rfl, by simp [wgtM], Below.refl _ _⟩
        case round =>
          obtain ⟨j, hk, rfl, rfl, hb⟩ := hrel
          have hbw : Below w.heap.size w wr := HN.out.2.2.trans (hb.mono (by omega))
          have hzr : w.heap.size < wr.heap.size := by have := hb.size; omega
          by_cases hlt : j < mp.length
          · obtain ⟨b, off, cs, rfl, hbB, hsM, hkc, hc, hx⟩ := HV.out.2.1.get j hlt
            obtain ⟨cj, rfl⟩ := hx.c6
            obtain ⟨ks, hks⟩ : ∃ ks, mp[j].1 = ks := ⟨_, rfl⟩
            rw [hks] at hkc hsM
            have hck : wr.cell? ⟨b, off + j * 7, none⟩ = some (.string ks) := by
              rw [hbw.cell (p := ⟨b, off + j * 7, none⟩) (show b < w.heap.size by omega)]
              simpa using hkc
            have hcj : ∀ q, q < 6 → wr.cell? ⟨b, off + j * 7 + (1 + q), none⟩ = cj.arr[q]? := fun q hq => by
              rw [hbw.cell (p := ⟨b, off + j * 7 + (1 + q), none⟩) (show b < w.heap.size by omega)]
              simpa using hc q hq
            obtain ⟨xk, x0, x1, x2, x3, x4, x5⟩ := cells7 hck hcj rfl
            have hle : wgtM (mp.take (j + 1)) ≤ wgtM mp := wgtM_le mp (j + 1)
            have hw2 : wgtM (mp.take (j + 1)) = wgtM (mp.take j) + (wgt mp[j].2 + ks.size / 20) := by rw [← hks]; exact wgtM_take mp j hlt
            have hwj : wgt mp[j].2 ≤ n := by have := HV.out.2.2; omega
            have hcall := fun W (hW : Below w.heap.size w W) => ih.out mp[j].2 cj.arr B W hwj (by omega) (hx.keep (fun p hp => hW.cell (Nat.lt_of_lt_of_le hp hB)) (fun _ h => h)) (Nat.le_trans hB hW.size)
            obtain ⟨a, ha⟩ : ∃ a, wgtM (mp.take j) = a := ⟨_, rfl⟩
            obtain ⟨x, hxx⟩ : ∃ x, wgt mp[j].2 = x := ⟨_, rfl⟩
            have hsum : n0 + (a + (x + ks.size / 20)) ≤ 1000000000 := by rw [← ha, ← hxx]; omega
            have hks9 : ks.size ≤ 1000000000 := by omega
            rw [ha]
            have HC := Lib.hid hcall
            rw [hxx] at HC
            have HX := Lib.hid (And.intro hb (And.intro hbw (And.intro hk (And.intro hw2 (And.intro ha hxx)))))
            clear hb hbw hk hw2 hcall hcj hc hx hwj ha hxx hle hck hkc hks hsM
            obtain ⟨jk, jy, jn, jt, ja, jla, jca, jb, jlb, jcb⟩ := cj
            dsimp only [C6.arr] at x0 x1 x2 x3 x4 x5 HC
            go_wp2_with fail
            obtain ⟨W, hWd⟩ : ∃ W, wr.alloc (.cells #[.string ks, .int .i64 jk, .bool jy, .int .i64 jn, .string jt, .slice ja jla jca, .slice jb jlb jcb] 50) = W := ⟨_, rfl⟩
            rw [hWd]
            have hWb : Below wr.heap.size wr W := hWd ▸ (Below.refl _ _).alloc (Nat.le_refl _) _
            have hW7 : Whole W wr.heap.size 50 #[.string ks, .int .i64 jk, .bool jy, .int .i64 jn, .string jt, .slice ja jla jca, .slice jb jlb jcb] := hWd ▸ Whole.made _ _ _
            have yk : W.cell? ⟨wr.heap.size, 0, none⟩ = some (.string ks) := hW7.cell 0
            have y0 : W.cell? ⟨wr.heap.size, 1, none⟩ = some (.int .i64 jk) := hW7.cell 1
            have y1 : W.cell? ⟨wr.heap.size, 2, none⟩ = some (.bool jy) := hW7.cell 2
            have y2 : W.cell? ⟨wr.heap.size, 3, none⟩ = some (.int .i64 jn) := hW7.cell 3
            have y3 : W.cell? ⟨wr.heap.size, 4, none⟩ = some (.string jt) := hW7.cell 4
            have y4 : W.cell? ⟨wr.heap.size, 5, none⟩ = some (.slice ja jla jca) := hW7.cell 5
            have y5 : W.cell? ⟨wr.heap.size, 6, none⟩ = some (.slice jb jlb jcb) := hW7.cell 6
            have hzW : wr.heap.size < W.heap.size := hW7.lt
            have HW := Lib.hid (And.intro hWb (HX.out.2.1.trans (hWb.mono (by omega))))
            clear hWd hWb hW7 xk x0 x1 x2 x3 x4 x5
            go_region_held3 (fun w' => w'.cell? ⟨wr.heap.size, 0, none⟩ = some (.string ks) ∧ w'.cell? ⟨wr.heap.size, 1, none⟩ = some (.int .i64 jk) ∧ w'.cell? ⟨wr.heap.size, 2, none⟩ = some (.bool jy) ∧ w'.cell? ⟨wr.heap.size, 3, none⟩ = some (.int .i64 jn) ∧ w'.cell? ⟨wr.heap.size, 4, none⟩ = some (.string jt) ∧ w'.cell? ⟨wr.heap.size, 5, none⟩ = some (.slice ja jla jca) ∧ w'.cell? ⟨wr.heap.size, 6, none⟩ = some (.slice jb jlb jcb)) (go_keep)
              (first
                | (go_at_call 14; refine (HC.out _ ?_).mono ?_; (first | exact HW.out.2 | exact HW.out.2.drew); rintro e W2 ⟨rfl, hb2⟩
                   have zk := (hb2.cell (p := ⟨wr.heap.size, 0, none⟩) hzW).trans yk
                   have z0 := (hb2.cell (p := ⟨wr.heap.size, 1, none⟩) hzW).trans y0
                   have z1 := (hb2.cell (p := ⟨wr.heap.size, 2, none⟩) hzW).trans y1
                   have z2 := (hb2.cell (p := ⟨wr.heap.size, 3, none⟩) hzW).trans y2
                   have z3 := (hb2.cell (p := ⟨wr.heap.size, 4, none⟩) hzW).trans y3
                   have z4 := (hb2.cell (p := ⟨wr.heap.size, 5, none⟩) hzW).trans y4
                   have z5 := (hb2.cell (p := ⟨wr.heap.size, 6, none⟩) hzW).trans y5
                   have HB := Lib.hid hb2
                   clear hb2))
            go_wp2_with fail
            go_roundg (mp.length - (j + 1))
            case rel =>
              obtain ⟨hb, hbw, hk, hw2, ha, hxx⟩ := HX.out
              have hb2 : Below W.heap.size W W2 := ((Below.refl W.heap.size W).drew).trans HB.out
              refine ⟨j + 1, by omega, by go_num, congrArg (Value.int .i64) ?_, hb.trans ((HW.out.1.trans (hb2.mono HW.out.1.size)).mono hb.size)⟩
              rw [hw2, ha, hxx, IntWalk.i64_in ((ks.size : Int) / 20) (by omega), IntWalk.i64_in ((x : Int) + (ks.size : Int) / 20) (by omega), IntWalk.i64_in _ (by omega)]
              omega
            case measure => have := HX.out.2.2.1; omega
          · obtain rfl : j = mp.length := by omega
            have hsM : wgtM (mp.take mp.length) = wgtM mp := by rw [List.take_length]
            rw [hsM]
            have HL := Lib.hid hbw
            clear hsM hbw hb
            have hcmp : decide (((n0 + wgtM mp : Nat) : Int) ≤ (most : Int)) = decide (n0 + wgtM mp ≤ most) := by
              by_cases h : n0 + wgtM mp ≤ most
              · rw [decide_eq_true h, decide_eq_true (by omega)]
              · rw [decide_eq_false h, decide_eq_false (by omega)]
            have HD := Lib.hid hcmp
            clear hcmp
            go_wp2_with fail
            go_ret
            have h3 := HN.out.1
            refine ⟨?_, HL.out⟩
            rw [h3, ← HD.out]
            simp
end Go.Proofs.YtpehddbpingobaaDoor
