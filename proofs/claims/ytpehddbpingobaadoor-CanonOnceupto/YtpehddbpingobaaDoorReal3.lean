/-
  The law's own Real, walked: a value of the document's as one of the program's: the same, in new memory.
-/
import Derived.Test.YtpehddbpingobaaDoorReal2
import Derived.Deep.RegionLaw
import Derived.Test.YtpehddbpingobaaDoorCut
namespace Go.Proofs.YtpehddbpingobaaDoor
open Go.RowKit Go.Lib
set_option linter.unusedVariables false
set_option linter.unusedSimpArgs false

set_option maxRecDepth 100000 in
set_option maxHeartbeats 16000000 in
theorem real_strong : ∀ (n : Nat) (v : V) (cs : Array Value) (B : Nat) (w : World), wgt v ≤ n → n ≤ 1000 → Val w (· < B) 1000000 v cs → B ≤ w.heap.size →
    Calls Tryd.prog 8 #[.agg cs] w (RealAnsU v w)
  | 0, v, cs, B, w, h, _, _, _ => by have := wgt_pos v; omega
  | n + 1, .mk k y m t l mp, cs, B, w, hw, hn, hv, hB => by
    have ih := Lib.hid (real_strong n)
    rw [Val] at hv
    obtain ⟨A, c, A', c', rfl, ⟨hlc, hmc, ht, hlM, hmM, -, -⟩, hl, hm⟩ := hv
    rw [wgt] at hw
    obtain ⟨i0, hi, hz0, hz1, hz2⟩ := info_parts info_Value
    obtain ⟨i1, hi1, hy0, hy1, hy2⟩ := info_parts info_Member
    have hl1000 : l.length ≤ 1000 := by have := wgtL_len l; omega
    have hm1000 : mp.length ≤ 1000 := by have := wgtM_len mp; omega
    have HV := Lib.hid (And.intro hl (And.intro hm (And.intro hw hn)))
    clear hl hm hw
    go_enter Tryd.func8, Tryd.ntmps8
    go_wp2_with fail
    go_loopg [20] l.length (RealRelL w k y m t l #[.int .i64 k, .bool y, .int .i64 m, .string t, .slice A l.length c, .slice A' mp.length c'])
    case atStart =>
      refine ⟨0, .slice none 0 0, [], by simp, rfl, rfl, ((Whole.made w _ _).alloc _).alloc _, ?_, ?_, World.ownsRow_nil _ _ _ _, fun i h1 h2 => by simp at h2, (((Below.refl _ _).alloc (Nat.le_refl _) _).alloc (by simp) _).alloc (by simp; omega) _⟩
      · have := (Whole.made (w.alloc (.cells #[.int .i64 k, .bool y, .int .i64 m, .string t, .slice A l.length c, .slice A' mp.length c'] 25)) 39 zero6).alloc (.cells (nil6 k y m t (.slice none 0 0) (.slice none 0 0)) 39)
        simpa [zero6, nil6] using this
      · have := Whole.made ((w.alloc (.cells #[.int .i64 k, .bool y, .int .i64 m, .string t, .slice A l.length c, .slice A' mp.length c'] 25)).alloc (.cells zero6 39)) 39 (nil6 k y m t (.slice none 0 0) (.slice none 0 0))
        simpa [zero6, nil6] using this
    case round =>
      obtain ⟨j, v, css, hk, rfl, hcl, hW0, hW1, hW2, hown, hkids, hb⟩ := hrel
      by_cases hlt : j < l.length
      · obtain ⟨b, off, cs, rfl, hbB, hc, hx⟩ := HV.out.1.get j hlt
        obtain ⟨cj, rfl⟩ := hx.c6
        have hcj : ∀ q, q < 6 → wr.cell? ⟨b, off + j * 6 + q, none⟩ = cj.arr[q]? := fun q hq => by
          rw [hb.cell (p := ⟨b, off + j * 6 + q, none⟩) (show b < w.heap.size by omega)]
          simpa using hc q hq
        obtain ⟨x0, x1, x2, x3, x4, x5⟩ := cells6 hcj rfl
        have hwj : wgt l[j] ≤ n := by
          have h1 := HV.out.2.2.1
          have h2 := wgtL_le l (j + 1)
          rw [wgtL_take l j hlt] at h2
          omega
        have hcall := fun W (hW : Below w.heap.size w W) => ih.out l[j] cj.arr B W hwj (by omega) (hx.keep (fun p hp => hW.cell (Nat.lt_of_lt_of_le hp hB)) (fun _ h => h)) (Nat.le_trans hB hW.size)
        have hc4 := hW2.cell 4
        simp [nil6] at hc4
        have hf4 := hW2.frozen 4
        have hz : w.heap.size + 2 < wr.heap.size := hW2.lt
        have nb1 : v.ownBlock ≠ some wr.heap.size := fun e => by have := (hown.lt _ e).2; omega
        have nb2 : v.ownBlock ≠ some (w.heap.size + 2) := fun e => by have := (hown.lt _ e).1; omega
        have HX := Lib.hid (And.intro hk (And.intro hcl (And.intro hW0 (And.intro hW1 (And.intro hW2 (And.intro hown (And.intro hkids hb)))))))
        have HC := Lib.hid hcall
        clear hb hk hcl hcall hcj hc hx hwj hW0 hW1 hW2 hown hkids
        obtain ⟨jk, jy, jn, jt, ja, jla, jca, jb, jlb, jcb⟩ := cj
        dsimp only [C6.arr] at x0 x1 x2 x3 x4 x5 HC
        go_wp2_with fail
        obtain ⟨W, hWd⟩ : ∃ W, wr.alloc (.cells #[.int .i64 jk, .bool jy, .int .i64 jn, .string jt, .slice ja jla jca, .slice jb jlb jcb] 25) = W := ⟨_, rfl⟩
        rw [hWd]
        have hWb : Below wr.heap.size wr W := hWd ▸ (Below.refl _ _).alloc (Nat.le_refl _) _
        have hW6 : Whole W wr.heap.size 25 #[.int .i64 jk, .bool jy, .int .i64 jn, .string jt, .slice ja jla jca, .slice jb jlb jcb] := hWd ▸ Whole.made _ _ _
        obtain ⟨y0, y1, y2, y3, y4, y5⟩ := hW6.six
        have d4 := (hWb.cell (p := ⟨w.heap.size + 2, 4, none⟩) hz).trans hc4
        have g4 := (hWb.frozen (p := ⟨w.heap.size + 2, 4, none⟩) hz).trans hf4
        have hzW : wr.heap.size < W.heap.size := hW6.lt
        have hz2W : w.heap.size + 2 < W.heap.size := by omega
        have HW := Lib.hid (And.intro hWb (HX.out.2.2.2.2.2.2.2.trans (hWb.mono (by have := hz; omega))))
        clear hWd hWb hW6 x0 x1 x2 x3 x4 x5 hc4 hf4
        refine wp_cut_last [24, 25, 26, 27, 28, 29, 30] (RealRelL w k y m t l #[.int .i64 k, .bool y, .int .i64 m, .string t, .slice (some ⟨b, off, none⟩) l.length c, .slice A' mp.length c'] (l.length - (j + 1)) (.int .i64 ((j + 1 : Nat) : Int))) ?rest ?first
        case first =>
          go_region_law
            (first
              | (go_simp; go_at_call 8; refine (HC.out _ ?_).mono ?_; (first | exact HW.out.2 | exact HW.out.2.drew); rintro e W2 ⟨⟨o, rfl, ho⟩, hb2⟩
                 have z0 := (hb2.cell (p := ⟨wr.heap.size, 0, none⟩) hzW).trans y0
                 have z1 := (hb2.cell (p := ⟨wr.heap.size, 1, none⟩) hzW).trans y1
                 have z2 := (hb2.cell (p := ⟨wr.heap.size, 2, none⟩) hzW).trans y2
                 have z3 := (hb2.cell (p := ⟨wr.heap.size, 3, none⟩) hzW).trans y3
                 have z4 := (hb2.cell (p := ⟨wr.heap.size, 4, none⟩) hzW).trans y4
                 have z5 := (hb2.cell (p := ⟨wr.heap.size, 5, none⟩) hzW).trans y5
                 have d4' := (hb2.cell (p := ⟨w.heap.size + 2, 4, none⟩) hz2W).trans d4
                 have g4' := (hb2.frozen (p := ⟨w.heap.size + 2, 4, none⟩) hz2W).trans g4
                 have hzz : W.heap.size ≤ W2.heap.size := hb2.size
                 have hzW2 : wr.heap.size < W2.heap.size := Nat.lt_of_lt_of_le hzW hzz
                 have hzW3 : w.heap.size + 2 < W2.heap.size := Nat.lt_of_lt_of_le hz2W hzz
                 have hb2' : Below W.heap.size W W2 := by first | exact hb2 | exact ((Below.refl W.heap.size W).drew).trans hb2
                 have HO := Lib.hid (And.intro ho (And.intro hb2' (own_below (own_below HX.out.2.2.2.2.2.1 HW.out.1) hb2')))
                 clear ho hb2 hb2'
                 obtain ⟨ok, oy, on_, ot, oa, ola, oca, ob, olb, ocb⟩ := o
                 dsimp only [C6.arr] at HO ⊢)
              | (refine step_append_lies _ (by rfl) _ _ _ (by rfl) (w.heap.size + 3) 39 i0 (.agg #[.int .i64 0, .bool false, .int .i64 0, .string ⟨#[]⟩, .slice none 0 0, .slice none 0 0]) 6 88 Tryd.underlying36 hi hz0 hz1 hz2 rfl (by decide) v j (css.flatMap C6.cells) (by rfl) (HO.out.2.2.alloc _)
                   ⟨W2.heap.size, 0, none⟩ 1 1 [.int .i64 ok, .bool oy, .int .i64 on_, .string ot, .slice oa ola oca, .slice ob olb ocb] (by rfl) (by rfl) (World.news_of_block (cs := #[.int .i64 ok, .bool oy, .int .i64 on_, .string ot, .slice oa ola oca, .slice ob olb ocb]) (t := 39) (fr := (0, 0)) (heap_alloc_new W2 _)) (by simp [Value.oneCell'])
                   (by omega) (by unfold maxLen; omega) (by omega) (by simp; omega) (W2.heap.size + 1) (by simp) ?_; intro g cap w3 hown3 hgrow hat hlt3
                 have p0 := grown_cell hgrow (p := ⟨wr.heap.size, 0, none⟩) hzW2 nb1 z0
                 have p1 := grown_cell hgrow (p := ⟨wr.heap.size, 1, none⟩) hzW2 nb1 z1
                 have p2 := grown_cell hgrow (p := ⟨wr.heap.size, 2, none⟩) hzW2 nb1 z2
                 have p3 := grown_cell hgrow (p := ⟨wr.heap.size, 3, none⟩) hzW2 nb1 z3
                 have p4 := grown_cell hgrow (p := ⟨wr.heap.size, 4, none⟩) hzW2 nb1 z4
                 have p5 := grown_cell hgrow (p := ⟨wr.heap.size, 5, none⟩) hzW2 nb1 z5
                 have d5 := grown_cell hgrow (p := ⟨w.heap.size + 2, 4, none⟩) hzW3 nb2 d4'
                 have g5 := grown_frozen hgrow (p := ⟨w.heap.size + 2, 4, none⟩) hzW3 nb2 g4'
                 have HG := Lib.hid (And.intro hown3 (And.intro hgrow (And.intro hat hlt3)))
                 clear hown3 hgrow hat))
          all_goals
            obtain ⟨hown3, hgrow, hat, hlt3⟩ := HG.out
            exact ⟨⟨[.pointer (some ⟨w.heap.size + 1 + 1, 4, none⟩), v, .agg #[.int .i64 jk, .bool jy, .int .i64 jn, .string jt, .slice ja jla jca, .slice jb jlb jcb], .agg #[.int .i64 ok, .bool oy, .int .i64 on_, .string ot, .slice oa ola oca, .slice ob olb ocb], .slice (some ⟨W2.heap.size, 0, none⟩) 1 1, .slice (some ⟨g, 0, none⟩) (j + 1) cap, .pointer (some ⟨w.heap.size + 1 + 1, 4, none⟩)], rfl, by simp only [putAll, List.zip_cons_cons, List.zip_nil_left, Act.put, List.setIfInBounds_toArray, List.set_cons_zero, List.set_cons_succ]⟩, real_stepL (o := ⟨ok, oy, on_, ot, oa, ola, oca, ob, olb, ocb⟩) hlt rfl (by have hX := HX.out; exact ⟨by omega, hX.2⟩) HW.out.1 HO.out.2.1 HO.out.1 hown3 hgrow hat⟩
        case rest =>
          intro us wr2 hus hR
          obtain ⟨u24, u25, u26, u27, u28, u29, u30, rfl⟩ := len7 hus
          simp only [putAll, List.zip_cons_cons, List.zip_nil_left, Act.put, List.setIfInBounds_toArray, List.set_cons_zero, List.set_cons_succ]
          have HR := Lib.hid hR
          clear hus
          have hkk := HX.out.1
          clear hR HC HX HW y0 y1 y2 y3 y4 y5 d4 g4
          go_wp2_with fail
          go_roundg (l.length - (j + 1))
          case rel => exact HR.out
          case measure => omega
      · obtain rfl : j = l.length := by omega
        have d5 := hW0.cell 5
        simp at d5
        obtain ⟨AL, cL, rfl, hcL, hAL, hvL⟩ := rowL (v' := .slice none 0 0) hown hcl hkids rfl
        have hz : w.heap.size + 2 < wr.heap.size := hW2.lt
        have HX := Lib.hid (And.intro hW1 (And.intro hW2 (And.intro hvL hb)))
        have HL := Lib.hid (And.intro hcL hAL)
        clear hk hcl hW0 hW1 hW2 hown hkids hb hcL hAL hvL
        go_wp2_with fail
        go_loopg [35] mp.length (RealRelM w k y m t l AL cL mp)
        case atStart =>
          obtain ⟨hW1, hW2, hvL, hb⟩ := HX.out
          exact ⟨0, .slice none 0 0, [], by simp, rfl, rfl, hW1, hW2, by simpa using World.ownsRow_nil _ _ _ _, fun i h1 h2 => by simp at h2, hvL, hb⟩
        case round =>
          clear HX d5 hz hlt
          obtain ⟨j, v, css, hk, rfl, hcl, hW1, hW2, hown, hkids, hvL, hb⟩ := hrel
          by_cases hlt : j < mp.length
          · obtain ⟨b, off, cs, rfl, hbB, hsM, hkc, hc, hx⟩ := HV.out.2.1.get j hlt
            obtain ⟨cj, rfl⟩ := hx.c6
            obtain ⟨ks, hks⟩ : ∃ ks, mp[j].1 = ks := ⟨_, rfl⟩
            rw [hks] at hkc hsM
            have hck : wr.cell? ⟨b, off + j * 7, none⟩ = some (.string ks) := by
              rw [hb.cell (p := ⟨b, off + j * 7, none⟩) (show b < w.heap.size by omega)]
              simpa using hkc
            have hcj : ∀ q, q < 6 → wr.cell? ⟨b, off + j * 7 + (1 + q), none⟩ = cj.arr[q]? := fun q hq => by
              rw [hb.cell (p := ⟨b, off + j * 7 + (1 + q), none⟩) (show b < w.heap.size by omega)]
              simpa using hc q hq
            obtain ⟨xk, x0, x1, x2, x3, x4, x5⟩ := cells7 hck hcj rfl
            have hwj : wgt mp[j].2 ≤ n := by
              have h1 := HV.out.2.2.1
              have h2 := wgtM_le mp (j + 1)
              rw [wgtM_take mp j hlt] at h2
              omega
            have hcall := fun W (hW : Below w.heap.size w W) => ih.out mp[j].2 cj.arr B W hwj (by omega) (hx.keep (fun p hp => hW.cell (Nat.lt_of_lt_of_le hp hB)) (fun _ h => h)) (Nat.le_trans hB hW.size)
            have hc4 := hW2.cell 5
            simp [nil6] at hc4
            have hf4 := hW2.frozen 5
            have hz : w.heap.size + 2 < wr.heap.size := hW2.lt
            have nb1 : v.ownBlock ≠ some wr.heap.size := fun e => by have := (hown.lt _ e).2; omega
            have nb2 : v.ownBlock ≠ some (w.heap.size + 2) := fun e => by have := (hown.lt _ e).1; omega
            have HX := Lib.hid (And.intro hks (And.intro hk (And.intro hcl (And.intro hW1 (And.intro hW2 (And.intro hown (And.intro hkids (And.intro hvL hb))))))))
            have HC := Lib.hid hcall
            clear hb hk hcl hcall hcj hc hx hwj hW1 hW2 hown hkids hvL hks hck hkc
            obtain ⟨jk, jy, jn, jt, ja, jla, jca, jb, jlb, jcb⟩ := cj
            dsimp only [C6.arr] at x0 x1 x2 x3 x4 x5 HC
            go_wp2_with fail
            obtain ⟨W, hWd⟩ : ∃ W, wr.alloc (.cells #[.string ks, .int .i64 jk, .bool jy, .int .i64 jn, .string jt, .slice ja jla jca, .slice jb jlb jcb] 50) = W := ⟨_, rfl⟩
            rw [hWd]
            have hWb : Below wr.heap.size wr W := hWd ▸ (Below.refl _ _).alloc (Nat.le_refl _) _
            have hW7 : Whole W wr.heap.size 50 #[.string ks, .int .i64 jk, .bool jy, .int .i64 jn, .string jt, .slice ja jla jca, .slice jb jlb jcb] := hWd ▸ Whole.made _ _ _
            have yk : W.cell? ⟨wr.heap.size, 0, none⟩ = some (.string ks) := hW7.cell 0
            have y0 : W.cell? ⟨wr.heap.size, 1, none⟩ = some (.int .i64 jk) := hW7.cell 1
            have y1 : W.cell? ⟨wr.heap.size, 2, none⟩ = some (.bool jy) := hW7.cell 2
            have y2 : W.cell? ⟨wr.heap.size, 3, none⟩ = some (.int .i64 jn) := hW7.cell 3
            have y3 : W.cell? ⟨wr.heap.size, 4, none⟩ = some (.string jt) := hW7.cell 4
            have y4 : W.cell? ⟨wr.heap.size, 5, none⟩ = some (.slice ja jla jca) := hW7.cell 5
            have y5 : W.cell? ⟨wr.heap.size, 6, none⟩ = some (.slice jb jlb jcb) := hW7.cell 6
            have d4 := (hWb.cell (p := ⟨w.heap.size + 2, 5, none⟩) hz).trans hc4
            have g4 := (hWb.frozen (p := ⟨w.heap.size + 2, 5, none⟩) hz).trans hf4
            have hzW : wr.heap.size < W.heap.size := hW7.lt
            have hz2W : w.heap.size + 2 < W.heap.size := by omega
            have HW := Lib.hid (And.intro hWb (HX.out.2.2.2.2.2.2.2.2.trans (hWb.mono (by have := hz; omega))))
            clear hWd hWb hW7 xk x0 x1 x2 x3 x4 x5 hc4 hf4
            refine wp_cut_last [39, 40, 41, 42, 43, 44, 45, 46, 47, 48, 49] (RealRelM w k y m t l AL cL mp (mp.length - (j + 1)) (.int .i64 ((j + 1 : Nat) : Int))) ?rest ?first
            case first =>
              go_region_law
                (first
                  | (go_simp; go_at_call 8; refine (HC.out _ ?_).mono ?_; (first | exact HW.out.2 | exact HW.out.2.drew); rintro e W2 ⟨⟨o, rfl, ho⟩, hb2⟩
                     have zk := (hb2.cell (p := ⟨wr.heap.size, 0, none⟩) hzW).trans yk
                     have z0 := (hb2.cell (p := ⟨wr.heap.size, 1, none⟩) hzW).trans y0
                     have z1 := (hb2.cell (p := ⟨wr.heap.size, 2, none⟩) hzW).trans y1
                     have z2 := (hb2.cell (p := ⟨wr.heap.size, 3, none⟩) hzW).trans y2
                     have z3 := (hb2.cell (p := ⟨wr.heap.size, 4, none⟩) hzW).trans y3
                     have z4 := (hb2.cell (p := ⟨wr.heap.size, 5, none⟩) hzW).trans y4
                     have z5 := (hb2.cell (p := ⟨wr.heap.size, 6, none⟩) hzW).trans y5
                     have d4' := (hb2.cell (p := ⟨w.heap.size + 2, 5, none⟩) hz2W).trans d4
                     have g4' := (hb2.frozen (p := ⟨w.heap.size + 2, 5, none⟩) hz2W).trans g4
                     have hzz : W.heap.size ≤ W2.heap.size := hb2.size
                     have hzW2 : wr.heap.size < W2.heap.size := Nat.lt_of_lt_of_le hzW hzz
                     have hzW3 : w.heap.size + 2 < W2.heap.size := Nat.lt_of_lt_of_le hz2W hzz
                     have hb2' : Below W.heap.size W W2 := by first | exact hb2 | exact ((Below.refl W.heap.size W).drew).trans hb2
                     have HO := Lib.hid (And.intro ho (And.intro hb2' (own_below (own_below HX.out.2.2.2.2.2.1 HW.out.1) hb2')))
                     clear ho hb2 hb2'
                     obtain ⟨ok, oy, on_, ot, oa, ola, oca, ob, olb, ocb⟩ := o
                     dsimp only [C6.arr] at HO ⊢)
                  | (refine step_append_lies _ (by rfl) _ _ _ (by rfl) (w.heap.size + 3) 46 i1 (.agg #[.string ⟨#[]⟩, .int .i64 0, .bool false, .int .i64 0, .string ⟨#[]⟩, .slice none 0 0, .slice none 0 0]) 7 104 Tryd.underlying37 hi1 hy0 hy1 hy2 rfl (by decide) v j ((mp.zip css).flatMap fun p => mem7 p.1.1 p.2) (by rfl) (HO.out.2.2.alloc _)
                       ⟨W2.heap.size, 0, none⟩ 1 1 [.string ks, .int .i64 ok, .bool oy, .int .i64 on_, .string ot, .slice oa ola oca, .slice ob olb ocb] (by rfl) (by rfl) (World.news_of_block (cs := #[.string ks, .int .i64 ok, .bool oy, .int .i64 on_, .string ot, .slice oa ola oca, .slice ob olb ocb]) (t := 46) (fr := (0, 0)) (heap_alloc_new W2 _)) (by simp [Value.oneCell'])
                       (by omega) (by unfold maxLen; omega) (by omega) (by simp; omega) (W2.heap.size + 1) (by simp) ?_; intro g cap w3 hown3 hgrow hat hlt3
                     have pk := grown_cell hgrow (p := ⟨wr.heap.size, 0, none⟩) hzW2 nb1 zk
                     have p0 := grown_cell hgrow (p := ⟨wr.heap.size, 1, none⟩) hzW2 nb1 z0
                     have p1 := grown_cell hgrow (p := ⟨wr.heap.size, 2, none⟩) hzW2 nb1 z1
                     have p2 := grown_cell hgrow (p := ⟨wr.heap.size, 3, none⟩) hzW2 nb1 z2
                     have p3 := grown_cell hgrow (p := ⟨wr.heap.size, 4, none⟩) hzW2 nb1 z3
                     have p4 := grown_cell hgrow (p := ⟨wr.heap.size, 5, none⟩) hzW2 nb1 z4
                     have p5 := grown_cell hgrow (p := ⟨wr.heap.size, 6, none⟩) hzW2 nb1 z5
                     have d5 := grown_cell hgrow (p := ⟨w.heap.size + 2, 5, none⟩) hzW3 nb2 d4'
                     have g5 := grown_frozen hgrow (p := ⟨w.heap.size + 2, 5, none⟩) hzW3 nb2 g4'
                     have HG := Lib.hid (And.intro hown3 (And.intro hgrow (And.intro hat hlt3)))
                     clear hown3 hgrow hat))
              all_goals
                obtain ⟨hown3, hgrow, hat, hlt3⟩ := HG.out
                obtain ⟨rfl, hX2⟩ := HX.out
                exact ⟨⟨[.pointer (some ⟨w.heap.size + 1 + 1, 5, none⟩), v, .pointer (some ⟨wr.heap.size, 0, none⟩), .string mp[j].1, .pointer (some ⟨wr.heap.size, 1, none⟩), .agg #[.int .i64 jk, .bool jy, .int .i64 jn, .string jt, .slice ja jla jca, .slice jb jlb jcb], .agg #[.int .i64 ok, .bool oy, .int .i64 on_, .string ot, .slice oa ola oca, .slice ob olb ocb], .agg #[.string mp[j].1, .int .i64 ok, .bool oy, .int .i64 on_, .string ot, .slice oa ola oca, .slice ob olb ocb], .slice (some ⟨W2.heap.size, 0, none⟩) 1 1, .slice (some ⟨g, 0, none⟩) (j + 1) cap, .pointer (some ⟨w.heap.size + 1 + 1, 5, none⟩)], rfl, by simp only [putAll, List.zip_cons_cons, List.zip_nil_left, Act.put, List.setIfInBounds_toArray, List.set_cons_zero, List.set_cons_succ]⟩, real_stepM (o := ⟨ok, oy, on_, ot, oa, ola, oca, ob, olb, ocb⟩) hlt rfl hsM ⟨by omega, hX2.2⟩ HW.out.1 HO.out.2.1 HO.out.1 hown3 hgrow hat⟩
            case rest =>
              intro us wr2 hus hR
              obtain ⟨u39, u40, u41, u42, u43, u44, u45, u46, u47, u48, u49, rfl⟩ := len11 hus
              simp only [putAll, List.zip_cons_cons, List.zip_nil_left, Act.put, List.setIfInBounds_toArray, List.set_cons_zero, List.set_cons_succ]
              have HR := Lib.hid hR
              clear hus
              have hkk := HX.out.2.1
              clear hR HC HX HW yk y0 y1 y2 y3 y4 y5 d4 g4
              go_wp2_with fail
              go_roundg (mp.length - (j + 1))
              case rel => exact HR.out
              case measure => omega
          · obtain rfl : j = mp.length := by omega
            obtain ⟨AM, cM, rfl, hcM, hAM, hvM⟩ := rowM hown hcl hkids
            obtain ⟨a0, a1, a2, a3, a4, a5⟩ := hW1.six
            obtain ⟨b0, b1, b2, b3, b4, b5⟩ := Whole.six (show Whole wr (w.heap.size + 2) 39 #[.int .i64 k, .bool y, .int .i64 m, .string t, .slice AL l.length cL, .slice AM mp.length cM] from hW2)
            have f0 := hW1.frozen 0
            have f1 := hW1.frozen 1
            have f2 := hW1.frozen 2
            have f3 := hW1.frozen 3
            have f4 := hW1.frozen 4
            have f5 := hW1.frozen 5
            have hz : w.heap.size + 1 < wr.heap.size := hW1.lt
            have HX := Lib.hid (And.intro hcM (And.intro hAM (And.intro hvM (And.intro hvL hb))))
            clear hk hcl hW1 hW2 hown hkids hvL hvM hb hcM hAM
            go_wp2_with fail
            refine bodyPost_ret (v := .agg (C6.arr ⟨k, y, m, t, AL, l.length, cL, AM, mp.length, cM⟩)) (by simp [results, Tryd.results8, go_sem, a0, a1, a2, a3, a4, a5, C6.arr]) rfl ⟨⟨_, rfl, ?_⟩, ?_⟩
            · obtain ⟨hcM, hAM, hvM, hvL, hb⟩ := HX.out
              exact real_end ht hlM hmM HL.out.1 hcM HL.out.2 hAM hvL hvM (fun b hb => (Below.heap_setCell _ _ _ b (show b ≠ w.heap.size + 1 by omega)).trans ((Below.heap_setCell _ _ _ b (show b ≠ w.heap.size + 1 by omega)).trans ((Below.heap_setCell _ _ _ b (show b ≠ w.heap.size + 1 by omega)).trans ((Below.heap_setCell _ _ _ b (show b ≠ w.heap.size + 1 by omega)).trans ((Below.heap_setCell _ _ _ b (show b ≠ w.heap.size + 1 by omega)).trans (Below.heap_setCell _ _ _ b (show b ≠ w.heap.size + 1 by omega))))))) (by simp)
            · have hb := HX.out.2.2.2.2
              exact (((((hb.setCell (by simp) _).setCell (by simp) _).setCell (by simp) _).setCell (by simp) _).setCell (by simp) _).setCell (by simp) _
theorem real_any (n : Nat) (v : V) (cs : Array Value) (B : Nat) (w : World) (h1 : wgt v ≤ n) (h2 : n ≤ 1000) (h3 : Val w (· < B) 1000000 v cs) (h4 : B ≤ w.heap.size) : Calls Tryd.prog 8 #[.agg cs] w (RealAns v w) :=
  (real_strong n v cs B w h1 h2 h3 h4).mono fun _ _ h => h.weak
end Go.Proofs.YtpehddbpingobaaDoor
