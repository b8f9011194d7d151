/-
  value.each, walked, with the closure of Depth (EachS is made of this text by sed, for that of Size).
-/
import Derived.Test.YtdpohklklmkjbaaDoorEach2
namespace Go.Proofs.YtdpohklklmkjbaaDoor
open Go.RowKit Go.Lib
set_option linter.unusedVariables false
set_option linter.unusedSimpArgs false

set_option maxRecDepth 100000 in
set_option maxHeartbeats 4000000 in
theorem eachD_any (step : Int → Nat → Nat → Nat) (tot : Nat → List (V × Nat) → Nat) (hT : Tot step tot) (g : Nat) (hL : Looks 42 g step) (v : V) (cs : Array Value) (B : Nat) (w : World) (hv : Val w (· < B) 1000000 v cs) (hB : B ≤ g) (hg : g < w.heap.size) (hsz : vsize v ≤ 1000000) (hc : w.cell? ⟨g, 0, none⟩ = some (.int .i64 (0 : Nat))) (hf : w.frozen? ⟨g, 0, none⟩ = false) (htot : tot 0 [(v, 0)] ≤ 1000000) :
    Calls Tryd.prog 41 #[.agg cs, .func (Fn.func 42) #[] #[.pointer (some ⟨g, 0, none⟩)]] w fun e w' => e = .returned (.tuple #[]) ∧ w'.cell? ⟨g, 0, none⟩ = some (.int .i64 (tot 0 [(v, 0)] : Nat)) ∧ w'.frozen? ⟨g, 0, none⟩ = false ∧ Only g w w' := by
  obtain ⟨c, rfl⟩ := hv.c6
  obtain ⟨i0, hi, hz0, hz1, hz2⟩ := info_parts info_Nested
  obtain ⟨T, hTT⟩ : ∃ T, tot 0 [(v, 0)] = T := ⟨_, rfl⟩
  rw [hTT] at htot ⊢
  have HT := Lib.hid (And.intro hT (And.intro hTT (And.intro hv (And.intro hc hf))))
  have HL := Lib.hid hL
  clear hT hL hTT hv hc hf
  obtain ⟨jk, jy, jn, jt, ja, jla, jca, jb, jlb, jcb⟩ := c
  dsimp only [C6.arr]
  go_enter Tryd.func41, Tryd.ntmps41
  go_wp2_with fail
  go_loopg [4] (vsize v) (EachRel w B g tot T)
  case atStart =>
    obtain ⟨hT, hTT, hv, hc, hf⟩ := HT.out
    have hb : Below w.heap.size w ((w.alloc (.cells #[.int .i64 jk, .bool jy, .int .i64 jn, .string jt, .slice ja jla jca, .slice jb jlb jcb] 38)).alloc (.cells #[.int .i64 jk, .bool jy, .int .i64 jn, .string jt, .slice ja jla jca, .slice jb jlb jcb, .int .i64 0] 115)) := ((Below.refl _ _).alloc (Nat.le_refl _) _).alloc (by simp) _
    refine ⟨[((v, ⟨jk, jy, jn, jt, ja, jla, jca, jb, jlb, jcb⟩), 0)], 0, ⟨?_, fun p hp => by obtain rfl := List.mem_singleton.1 hp; exact hv, fun p hp => by obtain rfl := List.mem_singleton.1 hp; simpa using hsz, (hb.cell hg).trans hc, (hb.frozen hg).trans hf, (Only.refl g w).step hb⟩, hTT, by simp [nSize, nodeV], hsz⟩
    have := World.ownsRow_lit (base := w.heap.size + 1) (e := 115) (size := 7) (w.alloc (.cells #[.int .i64 jk, .bool jy, .int .i64 jn, .string jt, .slice ja jla jca, .slice jb jlb jcb] 38)) #[.int .i64 jk, .bool jy, .int .i64 jn, .string jt, .slice ja jla jca, .slice jb jlb jcb, .int .i64 0] 1 (by simp) (by unfold maxLen; omega) rfl
    simpa [node7, C6.cells] using this
  case round =>
    obtain ⟨st, acc, hW, htt, hk, hk1⟩ := hrel
    rcases nil_or_snoc st with rfl | ⟨st', ⟨⟨x, oc⟩, a⟩, rfl⟩
    · have hv0 : ∃ aa c', u4 = .slice aa 0 c' := by
        rcases Go.Joins.ownsRow_forms hW.own with ⟨rfl, _⟩ | ⟨g', cap, rfl⟩ <;> exact ⟨_, _, rfl⟩
      have HX := Lib.hid (And.intro hW htt)
      clear hW htt hk
      obtain ⟨aa, c', rfl⟩ := hv0
      go_wp2_with fail
      obtain ⟨hW, htt⟩ := HX.out
      have hacc : acc = T := by rw [← htt]; exact (HT.out.1.base acc).symm
      refine bodyPost_end (v := .tuple #[]) (by simp [results, Tryd.results41]) rfl ⟨rfl, ?_, hW.frz, hW.only⟩
      rw [← hacc]; exact hW.cell
    · obtain ⟨gO, cap, rfl, hgO, hgOl⟩ := hW.own.form (by simp)
      have hlen : (st' ++ [((x, oc), a)]).length = st'.length + 1 := by simp
      have hcap : st'.length + 1 ≤ cap := by
        rcases hW.own.2 with ⟨e, _⟩ | ⟨g', cap', cur, e, _, _, hnc, _⟩
        · cases e
        · injection e with e1 e2 e3; rw [e3]; simpa using hnc
      have hcell : ∀ q, q < 7 → wr.cell? ⟨gO, st'.length * 7 + q, none⟩ = (node7 ((x, oc), a))[q]? := fun q hq => by
        rw [hW.own.cellAt (st'.length * 7 + q) (by simp; omega), flat_get node7 7 node7_len _ _ _ (by simp) hq]
        simp
      have hstl := nSize_len ((st' ++ [((x, oc), a)]).map nodeV)
      rw [hk, List.length_map] at hstl
      have hvx := hW.vals ((x, oc), a) (by simp)
      have hax := hW.abt ((x, oc), a) (by simp)
      have hle := HT.out.1.le acc ((st' ++ [((x, oc), a)]).map nodeV)
      rw [htt] at hle
      rw [hlen] at hW hstl ⊢
      have hk2 : nSize (st'.map nodeV) + vsize x = gk := by rw [← hk, List.map_append, nSize_append]; simp [nSize, nodeV]
      have htt2 : tot acc (st'.map nodeV ++ [(x, a)]) = T := by rw [← htt, List.map_append]; rfl
      have hokk : oc.k = x.kind := by
        cases x with
        | mk k y m t l mp =>
        dsimp only at hvx
        rw [Val] at hvx
        obtain ⟨A, c1, A', c2, e, -⟩ := hvx
        have := congrArg (fun a => a[0]?) e
        simp [C6.arr] at this
        exact this
      obtain ⟨pk, py, pn, pt, pa, pla, pca, pb, plb, pcb⟩ := oc
      have c0 : wr.cell? ⟨gO, st'.length * 7, none⟩ = some (.int .i64 pk) := hcell 0 (by omega)
      have c1 : wr.cell? ⟨gO, st'.length * 7 + 1, none⟩ = some (.bool py) := hcell 1 (by omega)
      have c2 : wr.cell? ⟨gO, st'.length * 7 + 2, none⟩ = some (.int .i64 pn) := hcell 2 (by omega)
      have c3 : wr.cell? ⟨gO, st'.length * 7 + 3, none⟩ = some (.string pt) := hcell 3 (by omega)
      have c4 : wr.cell? ⟨gO, st'.length * 7 + 4, none⟩ = some (.slice pa pla pca) := hcell 4 (by omega)
      have c5 : wr.cell? ⟨gO, st'.length * 7 + 5, none⟩ = some (.slice pb plb pcb) := hcell 5 (by omega)
      have c6 : wr.cell? ⟨gO, st'.length * 7 + 6, none⟩ = some (.int .i64 a) := hcell 6 (by omega)
      dsimp only at hvx hax hokk
      have hgr : g < wr.heap.size := lt_of_cell hW.cell
      have hcall := HL.out ⟨pk, py, pn, pt, pa, pla, pca, pb, plb, pcb⟩ a acc (wr.alloc (.cells #[.int .i64 pk, .bool py, .int .i64 pn, .string pt, .slice pa pla pca, .slice pb plb pcb, .int .i64 a] 115)) ((World.cell?_alloc_lt _ _ _ hgr).trans hW.cell) ((World.frozen?_alloc_old _ _ _ (Nat.ne_of_lt hgr)).trans hW.frz) (by omega) (by omega)
      dsimp only [C6.arr] at hcall
      have HX := Lib.hid (And.intro hW (And.intro hvx (And.intro hk2 (And.intro htt2 (And.intro hcall hokk)))))
      clear hW hvx hk2 htt2 hcall hcell hlen hk htt hokk hle
      go_wp2_with fail
      refine HX.out.2.2.2.2.1.mono ?_
      rintro e W2 ⟨rfl, hc2, hf2, ho2⟩
      have hW2 : Wait w B g st' (.slice (some ⟨gO, 0, none⟩) st'.length cap) (step pk a acc) W2 := (HX.out.1.pop hg _).shown hg ho2 hc2 hf2
      have hN2 : Whole W2 wr.heap.size 115 #[.int .i64 pk, .bool py, .int .i64 pn, .string pt, .slice pa pla pca, .slice pb plb pcb, .int .i64 a] := (ho2.2.1 wr.heap.size (by simp) (by omega)).trans (Whole.made wr _ _)
      cases x with
      | mk k y m t l mp =>
      have hokk := HX.out.2.2.2.2.2
      simp only [V.kind] at hokk
      subst hokk
      have hvx := HX.out.2.1
      rw [Val] at hvx
      obtain ⟨A1, c1', A2, c2', e6, ⟨h1c, h2c, ht, hl, hm, -, -⟩, hvl, hvm⟩ := hvx
      simp only [C6.arr, Array.mk.injEq, List.cons.injEq, Value.int.injEq, Value.bool.injEq, Value.string.injEq, Value.slice.injEq, true_and, and_true] at e6
      obtain ⟨rfl, rfl, rfl, ⟨rfl, rfl, rfl⟩, rfl, rfl, rfl⟩ := e6
      by_cases k4 : pk = 4
      · subst k4
        have HV := Lib.hid hvl
        have hpx : parts (.mk 4 py pn pt l mp) = l := by simp [parts]
        have d0 := hN2.cell 0
        have d4 := hN2.cell 4
        simp at d0 d4
        have HY := Lib.hid (And.intro hW2 (And.intro hN2 hpx))
        have hzN : wr.heap.size < W2.heap.size := hN2.lt
        have hax2 : a + 1 + vsizeL l ≤ 1000000 := by rw [vsize_parts, hpx] at hax; omega
        have hgk : st'.length + vsizeL l + 1 ≤ 1000000 := by
          have h1 := HX.out.2.2.1
          have h2 := nSize_len (st'.map nodeV)
          rw [vsize_parts, hpx] at h1
          rw [List.length_map] at h2
          omega
        clear hW2 hN2 hc2 hf2 ho2 hpx hvl hvm c0 c1 c2 c3 c4 c5 c6 hax hstl
        go_wp2_with fail
        obtain ⟨wo, rfl⟩ : ∃ wo : World, wo = wr := ⟨_, rfl⟩
        go_loopg [4, 42] l.length (InE w B g wo.heap.size st' l a (step 4 a acc) #[.int .i64 4, .bool py, .int .i64 pn, .string pt, .slice pa l.length pca, .slice pb mp.length pcb, .int .i64 a])
        case atStart => exact ⟨0, _, [], by simp, rfl, rfl, rfl, HY.out.2.1, by simp [Value.ownBlock]; omega, by simpa using HY.out.1⟩
        case round =>
          clear d0 d4
          obtain ⟨j, ov2, ns, hk, rfl, rfl, hns, hN, hng, hWj⟩ := hrel
          
          have d6 := hN.cell 6
          simp at d6
          have hzN2 : wo.heap.size < wr.heap.size := hN.lt
          have hv0 : ∃ aa n' c', ov2 = .slice aa n' c' := by
            rcases Go.Joins.ownsRow_forms hWj.own with ⟨e, _⟩ | ⟨g', cap', e⟩ <;> exact ⟨_, _, _, e⟩
          by_cases hlt : j < l.length
          · have hltP : j < (l).length := by simpa using hlt
            have hnl : ns.length = j := by
              have := congrArg List.length hns
              rw [List.length_map, List.length_map, List.length_take, Nat.min_eq_left (Nat.le_of_lt hltP)] at this
              exact this
            have hpj : l[j]'hltP = (l[j]'hlt) := rfl
            have hvj := vsizeL_mem (List.getElem_mem hltP)
            have hvl2 := vsizeL_len l
            rw [hpj] at hvj
            obtain ⟨b, off, cs, rfl, hbB, hcc, hx⟩ := HV.out.get j hlt
            obtain ⟨cj, rfl⟩ := hx.c6
            have hcj : ∀ q, q < 6 → wr.cell? ⟨b, off + j * 6 + q, none⟩ = cj.arr[q]? := fun q hq => (hWj.only.cell (p := ⟨b, off + j * 6 + q, none⟩) (show b < w.heap.size by omega) (show b ≠ g by omega)).trans (by simpa using hcc q hq)
            obtain ⟨x0, x1, x2, x3, x4, x5⟩ := cells6 hcj rfl
            have hj1 : (j : Int) < (l.length : Int) := by omega
            have haj : a + 1 + vsize (l[j]'hlt) ≤ 1000000 := by omega
            have hlb : (st' ++ ns).length + 1 ≤ 1000000 := by rw [List.length_append, hnl]; omega
            have hzw : w.heap.size ≤ wr.heap.size := hWj.only.1
            have HZ := Lib.hid (And.intro hk (And.intro hns (And.intro hN (And.intro hng (And.intro hWj (And.intro hx haj))))))
            clear hk hns hN hng hWj hx hcj hcc hvj hvl2 hnl hpj haj hltP
            obtain ⟨qk, qy, qn, qt, qa, qla, qca, qb, qlb, qcb⟩ := cj
            dsimp only [C6.arr] at x0 x1 x2 x3 x4 x5
            obtain ⟨aa, n', c', rfl⟩ := hv0
            go_wp2_with (first
              | (at_builtin; refine wpList_append_lies _ rfl _ _ 116 rfl (w.heap.size + 1) 115 i0 (.agg #[.int .i64 0, .bool false, .int .i64 0, .string ⟨#[]⟩, .slice none 0 0, .slice none 0 0, .int .i64 0]) 7 96 Tryd.underlying116 hi hz0 hz1 hz2 rfl (by decide) _ _ _ rfl ((HZ.out.2.2.2.2.1.own.alloc _).alloc _) ⟨wr.heap.size + 1, 0, none⟩ 1 1 [.int .i64 qk, .bool qy, .int .i64 qn, .string qt, .slice qa qla qca, .slice qb qlb qcb, .int .i64 ((a : Int) + 1)] rfl rfl (by simpa using cells_new (wr.alloc (.cells _ _)) #[.int .i64 qk, .bool qy, .int .i64 qn, .string qt, .slice qa qla qca, .slice qb qlb qcb, .int .i64 ((a : Int) + 1)] 115) (fun x hx => by simp at hx; rcases hx with rfl | rfl | rfl | rfl | rfl | rfl | rfl <;> rfl) (by omega) (by unfold maxLen; omega) (by omega) (by simp; omega) (wr.heap.size + 2) (by simp) ?_; intro g2 cap2 w3 hown' hgrow3 hat3 hlt3
                 have HG := Lib.hid (And.intro hown' (And.intro hgrow3 (And.intro hat3 hlt3)))
                 clear hown' hgrow3 hat3))
            go_roundg (l.length - (j + 1))
            case rel =>
              obtain ⟨hk, hns, hN, hng, hWj, hx, haj⟩ := HZ.out
              obtain ⟨hown', hgrow3, hat3, hlt3'⟩ := HG.out
              have hltP : j < (l).length := by simpa using hlt
              refine ⟨j + 1, _, ns ++ [(((l[j]'hlt), ⟨qk, qy, qn, qt, qa, qla, qca, qb, qlb, qcb⟩), a + 1)], by first | omega | (simp; omega), by go_num, rfl, ?_, ((hN.alloc _).alloc _).grown hgrow3 (fun e => hng e.symm), ?_, ?_⟩
              · rw [List.map_append, hns, List.take_succ_eq_append_getElem hltP, List.map_append]
                simp [nodeV]
              · intro e
                simp only [Value.ownBlock, Option.some.injEq] at e
                rcases hat3 with h | h
                · exact hng (Eq.trans h (congrArg some e))
                · omega
              · rw [← List.append_assoc]
                refine hWj.push hg hx haj ?_ hgrow3
                have hn7 : ∀ y : V, node7 ((y, ⟨qk, qy, qn, qt, qa, qla, qca, qb, qlb, qcb⟩), a + 1) = [.int .i64 qk, .bool qy, .int .i64 qn, .string qt, .slice qa qla qca, .slice qb qlb qcb, .int .i64 ((a : Int) + 1)] := fun y => by simp [node7, C6.cells]
                have h9 := hown'
                rw [List.length_append] at h9 ⊢
                rw [hn7]
                exact h9
            case measure => have := HZ.out.1; omega
          · have hjl : j = l.length := by omega
            subst hjl
            have HZ := Lib.hid (And.intro hns hWj)
            clear hns hN hng hWj hk hlt
            obtain ⟨aa, n', c', rfl⟩ := hv0
            go_wp2_with fail
            go_roundg (nSize (st'.map nodeV) + vsizeL l)
            case rel =>
              obtain ⟨hns, hWj⟩ := HZ.out
              rw [List.take_of_length_le (by simp)] at hns
              have h1 := HT.out.1.step acc (st'.map nodeV) (.mk 4 py pn pt l mp) a
              rw [HX.out.2.2.2.1, kidsOf, HY.out.2.2] at h1
              refine ⟨st' ++ ns, _, hWj, ?_, ?_, ?_⟩
              · rw [List.map_append, hns, ← h1]; rfl
              · rw [List.map_append, nSize_append, hns, nSize_kidsL]
              · have h2 := HX.out.2.2.1
                rw [vsize_parts, HY.out.2.2] at h2
                omega
            case measure =>
              have h2 := HX.out.2.2.1
              rw [vsize_parts, HY.out.2.2] at h2
              omega
      by_cases k5 : pk = 5
      · subst k5
        have HV := Lib.hid hvm
        have hpx : parts (.mk 5 py pn pt l mp) = (mp.map (·.2)) := by simp [parts]
        have d0 := hN2.cell 0
        have d5 := hN2.cell 5
        simp at d0 d5
        have HY := Lib.hid (And.intro hW2 (And.intro hN2 hpx))
        have hzN : wr.heap.size < W2.heap.size := hN2.lt
        have hax2 : a + 1 + vsizeL (mp.map (·.2)) ≤ 1000000 := by rw [vsize_parts, hpx] at hax; omega
        have hgk : st'.length + vsizeL (mp.map (·.2)) + 1 ≤ 1000000 := by
          have h1 := HX.out.2.2.1
          have h2 := nSize_len (st'.map nodeV)
          rw [vsize_parts, hpx] at h1
          rw [List.length_map] at h2
          omega
        clear hW2 hN2 hc2 hf2 ho2 hpx hvl hvm c0 c1 c2 c3 c4 c5 c6 hax hstl
        go_wp2_with fail
        obtain ⟨wo, rfl⟩ : ∃ wo : World, wo = wr := ⟨_, rfl⟩
        go_loopg [4, 61] mp.length (InE w B g wo.heap.size st' (mp.map (·.2)) a (step 5 a acc) #[.int .i64 5, .bool py, .int .i64 pn, .string pt, .slice pa l.length pca, .slice pb mp.length pcb, .int .i64 a])
        case atStart => exact ⟨0, _, [], by simp, rfl, rfl, rfl, HY.out.2.1, by simp [Value.ownBlock]; omega, by simpa using HY.out.1⟩
        case round =>
          clear d0 d5
          obtain ⟨j, ov2, ns, hk, rfl, rfl, hns, hN, hng, hWj⟩ := hrel
          simp only [List.length_map] at hk
          have d6 := hN.cell 6
          simp at d6
          have hzN2 : wo.heap.size < wr.heap.size := hN.lt
          have hv0 : ∃ aa n' c', ov2 = .slice aa n' c' := by
            rcases Go.Joins.ownsRow_forms hWj.own with ⟨e, _⟩ | ⟨g', cap', e⟩ <;> exact ⟨_, _, _, e⟩
          by_cases hlt : j < mp.length
          · have hltP : j < ((mp.map (·.2))).length := by simpa using hlt
            have hnl : ns.length = j := by
              have := congrArg List.length hns
              rw [List.length_map, List.length_map, List.length_take, Nat.min_eq_left (Nat.le_of_lt hltP)] at this
              exact this
            have hpj : (mp.map (·.2))[j] = mp[j].2 := by simp
            have hvj := vsizeL_mem (List.getElem_mem hltP)
            have hvl2 := vsizeL_len (mp.map (·.2))
            rw [hpj] at hvj
            obtain ⟨b, off, cs, rfl, hbB, hsM, hkc, hcc, hx⟩ := HV.out.get j hlt
            obtain ⟨cj, rfl⟩ := hx.c6
            obtain ⟨ks, hks⟩ : ∃ ks, mp[j].1 = ks := ⟨_, rfl⟩
            rw [hks] at hkc
            have hck : wr.cell? ⟨b, off + j * 7, none⟩ = some (.string ks) := (hWj.only.cell (p := ⟨b, off + j * 7, none⟩) (show b < w.heap.size by omega) (show b ≠ g by omega)).trans (by simpa using hkc)
            have hcj : ∀ q, q < 6 → wr.cell? ⟨b, off + j * 7 + (1 + q), none⟩ = cj.arr[q]? := fun q hq => (hWj.only.cell (p := ⟨b, off + j * 7 + (1 + q), none⟩) (show b < w.heap.size by omega) (show b ≠ g by omega)).trans (by simpa using hcc q hq)
            obtain ⟨xk, x0, x1, x2, x3, x4, x5⟩ := cells7 hck hcj rfl
            clear hks hkc hck hsM
            have hj1 : (j : Int) < (mp.length : Int) := by omega
            have haj : a + 1 + vsize mp[j].2 ≤ 1000000 := by omega
            have hlb : (st' ++ ns).length + 1 ≤ 1000000 := by rw [List.length_append, hnl]; omega
            have hzw : w.heap.size ≤ wr.heap.size := hWj.only.1
            have HZ := Lib.hid (And.intro hk (And.intro hns (And.intro hN (And.intro hng (And.intro hWj (And.intro hx haj))))))
            clear hk hns hN hng hWj hx hcj hcc hvj hvl2 hnl hpj haj hltP
            obtain ⟨qk, qy, qn, qt, qa, qla, qca, qb, qlb, qcb⟩ := cj
            dsimp only [C6.arr] at x0 x1 x2 x3 x4 x5
            obtain ⟨aa, n', c', rfl⟩ := hv0
            go_wp2_with (first
              | (at_builtin; refine wpList_append_lies _ rfl _ _ 116 rfl (w.heap.size + 1) 115 i0 (.agg #[.int .i64 0, .bool false, .int .i64 0, .string ⟨#[]⟩, .slice none 0 0, .slice none 0 0, .int .i64 0]) 7 96 Tryd.underlying116 hi hz0 hz1 hz2 rfl (by decide) _ _ _ rfl ((HZ.out.2.2.2.2.1.own.alloc _).alloc _) ⟨wr.heap.size + 1, 0, none⟩ 1 1 [.int .i64 qk, .bool qy, .int .i64 qn, .string qt, .slice qa qla qca, .slice qb qlb qcb, .int .i64 ((a : Int) + 1)] rfl rfl (by simpa using cells_new (wr.alloc (.cells _ _)) #[.int .i64 qk, .bool qy, .int .i64 qn, .string qt, .slice qa qla qca, .slice qb qlb qcb, .int .i64 ((a : Int) + 1)] 115) (fun x hx => by simp at hx; rcases hx with rfl | rfl | rfl | rfl | rfl | rfl | rfl <;> rfl) (by omega) (by unfold maxLen; omega) (by omega) (by simp; omega) (wr.heap.size + 2) (by simp) ?_; intro g2 cap2 w3 hown' hgrow3 hat3 hlt3
                 have HG := Lib.hid (And.intro hown' (And.intro hgrow3 (And.intro hat3 hlt3)))
                 clear hown' hgrow3 hat3))
            go_roundg (mp.length - (j + 1))
            case rel =>
              obtain ⟨hk, hns, hN, hng, hWj, hx, haj⟩ := HZ.out
              obtain ⟨hown', hgrow3, hat3, hlt3'⟩ := HG.out
              have hltP : j < ((mp.map (·.2))).length := by simpa using hlt
              refine ⟨j + 1, _, ns ++ [((mp[j].2, ⟨qk, qy, qn, qt, qa, qla, qca, qb, qlb, qcb⟩), a + 1)], by first | omega | (simp; omega), by go_num, rfl, ?_, ((hN.alloc _).alloc _).grown hgrow3 (fun e => hng e.symm), ?_, ?_⟩
              · rw [List.map_append, hns, List.take_succ_eq_append_getElem hltP, List.map_append]
                simp [nodeV]
              · intro e
                simp only [Value.ownBlock, Option.some.injEq] at e
                rcases hat3 with h | h
                · exact hng (Eq.trans h (congrArg some e))
                · omega
              · rw [← List.append_assoc]
                refine hWj.push hg hx haj ?_ hgrow3
                have hn7 : ∀ y : V, node7 ((y, ⟨qk, qy, qn, qt, qa, qla, qca, qb, qlb, qcb⟩), a + 1) = [.int .i64 qk, .bool qy, .int .i64 qn, .string qt, .slice qa qla qca, .slice qb qlb qcb, .int .i64 ((a : Int) + 1)] := fun y => by simp [node7, C6.cells]
                have h9 := hown'
                rw [List.length_append] at h9 ⊢
                rw [hn7]
                exact h9
            case measure => have := HZ.out.1; omega
          · have hjl : j = mp.length := by omega
            subst hjl
            have HZ := Lib.hid (And.intro hns hWj)
            clear hns hN hng hWj hk hlt
            obtain ⟨aa, n', c', rfl⟩ := hv0
            go_wp2_with fail
            go_roundg (nSize (st'.map nodeV) + vsizeL (mp.map (·.2)))
            case rel =>
              obtain ⟨hns, hWj⟩ := HZ.out
              rw [List.take_of_length_le (by simp)] at hns
              have h1 := HT.out.1.step acc (st'.map nodeV) (.mk 5 py pn pt l mp) a
              rw [HX.out.2.2.2.1, kidsOf, HY.out.2.2] at h1
              refine ⟨st' ++ ns, _, hWj, ?_, ?_, ?_⟩
              · rw [List.map_append, hns, ← h1]; rfl
              · rw [List.map_append, nSize_append, hns, nSize_kidsL]
              · have h2 := HX.out.2.2.1
                rw [vsize_parts, HY.out.2.2] at h2
                omega
            case measure =>
              have h2 := HX.out.2.2.1
              rw [vsize_parts, HY.out.2.2] at h2
              omega
      · have e4 : (pk == 4) = false := beq_eq_false_iff_ne.2 k4
        have e5 : (pk == 5) = false := beq_eq_false_iff_ne.2 k5
        have hpn := parts_none (.mk pk py pn pt l mp) (by simp only [V.kind]; omega)
        have d0 := hN2.cell 0
        simp at d0
        have HY := Lib.hid (And.intro hW2 hpn)
        clear hW2 hN2 hc2 hf2 ho2 hpn hvl hvm c0 c1 c2 c3 c4 c5 c6 k4 k5
        go_wp2_with fail
        go_roundg (nSize (st'.map nodeV))
        case rel =>
          refine ⟨st', _, HY.out.1, ?_, rfl, by have := HX.out.2.2.1; omega⟩
          have h1 := HT.out.1.step acc (st'.map nodeV) (.mk pk py pn pt l mp) a
          rw [HX.out.2.2.2.1] at h1
          rw [← h1, kidsOf, HY.out.2]
          simp [V.kind]
        case measure => have := HX.out.2.2.1; have := vsize_pos (.mk pk py pn pt l mp); omega
end Go.Proofs.YtdpohklklmkjbaaDoor
