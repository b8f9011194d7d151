/-
  Proved: the statement of the law ValueSames (whether any two values are the same is the document's; each is the same as itself), in its second form. Conditions: those of the given row alone (the arguments are of bulk at most 1048576; the listed package variables hold what their initialisers lay).
-/
import Derived.Test.YtdpohklklmkjbaaDoorEach2
import Derived.Test.YtdpohklklmkjbaaDoorEachD
import Derived.Test.YtdpohklklmkjbaaDoorReal2
import Derived.Test.YtdpohklklmkjbaaDoorRefSame2
import Derived.Test.YtdpohklklmkjbaaDoorLawTexts2
import Derived.Test.YtdpohklklmkjbaaDoorReal3
import Derived.Test.YtdpohklklmkjbaaDoorOpen1
import Derived.Carry
import Derived.Deep.DeepWitnessRowRef
import Derived.SizedLaws
import Derived.ChangeMaps5
namespace Go.Proofs.YtdpohklklmkjbaaDoor
open Go.RowKit Go.Lib
set_option linter.unusedVariables false
set_option linter.unusedSimpArgs false

set_option maxRecDepth 100000 in
set_option maxHeartbeats 4000000 in
theorem eachS_any (step : Int → Nat → Nat → Nat) (tot : Nat → List (V × Nat) → Nat) (hT : Tot step tot) (g : Nat) (hL : Looks 43 g step) (v : V) (cs : Array Value) (B : Nat) (w : World) (hv : Val w (· < B) 1000000 v cs) (hB : B ≤ g) (hg : g < w.heap.size) (hsz : vsize v ≤ 1000000) (hc : w.cell? ⟨g, 0, none⟩ = some (.int .i64 (0 : Nat))) (hf : w.frozen? ⟨g, 0, none⟩ = false) (htot : tot 0 [(v, 0)] ≤ 1000000) :
    Calls Tryd.prog 41 #[.agg cs, .func (Fn.func 43) #[] #[.pointer (some ⟨g, 0, none⟩)]] w fun e w' => e = .returned (.tuple #[]) ∧ w'.cell? ⟨g, 0, none⟩ = some (.int .i64 (tot 0 [(v, 0)] : Nat)) ∧ w'.frozen? ⟨g, 0, none⟩ = false ∧ Only g w w' := by
  obtain ⟨c, rfl⟩ := hv.c6
  obtain ⟨i0, hi, hz0, hz1, hz2⟩ := info_parts info_Nested
  obtain ⟨T, hTT⟩ : ∃ T, tot 0 [(v, 0)] = T := ⟨_, rfl⟩
  rw [hTT] at htot ⊢
  have HT := Lib.hid (And.intro hT (And.intro hTT (And.intro hv (And.intro hc hf))))
  have HL := Lib.hid hL
  clear hT hL hTT hv hc hf
  obtain ⟨jk, jy, jn, jt, ja, jla, jca, jb, jlb, jcb⟩ := c
  dsimp only [C6.arr]
  go_enter Tryd.func41, Tryd.ntmps41
  go_wp2_with fail
  go_loopg [4] (vsize v) (EachRel w B g tot T)
  case atStart =>
    obtain ⟨hT, hTT, hv, hc, hf⟩ := HT.out
    have hb : Below w.heap.size w ((w.alloc (.cells #[.int .i64 jk, .bool jy, .int .i64 jn, .string jt, .slice ja jla jca, .slice jb jlb jcb] 38)).alloc (.cells #[.int .i64 jk, .bool jy, .int .i64 jn, .string jt, .slice ja jla jca, .slice jb jlb jcb, .int .i64 0] 115)) := ((Below.refl _ _).alloc (Nat.le_refl _) _).alloc (by simp) _
    refine ⟨[((v, ⟨jk, jy, jn, jt, ja, jla, jca, jb, jlb, jcb⟩), 0)], 0, ⟨?_, fun p hp => by obtain rfl := List.mem_singleton.1 hp; exact hv, fun p hp => by obtain rfl := List.mem_singleton.1 hp; simpa using hsz, (hb.cell hg).trans hc, (hb.frozen hg).trans hf, (Only.refl g w).step hb⟩, hTT, by simp [nSize, nodeV], hsz⟩
    have := World.ownsRow_lit (base := w.heap.size + 1) (e := 115) (size := 7) (w.alloc (.cells #[.int .i64 jk, .bool jy, .int .i64 jn, .string jt, .slice ja jla jca, .slice jb jlb jcb] 38)) #[.int .i64 jk, .bool jy, .int .i64 jn, .string jt, .slice ja jla jca, .slice jb jlb jcb, .int .i64 0] 1 (by simp) (by unfold maxLen; omega) rfl
    simpa [node7, C6.cells] using this
  case round =>
    obtain ⟨st, acc, hW, htt, hk, hk1⟩ := hrel
    rcases nil_or_snoc st with rfl | ⟨st', ⟨⟨x, oc⟩, a⟩, rfl⟩
    · have hv0 : ∃ aa c', u4 = .slice aa 0 c' := by
        rcases Go.Joins.ownsRow_forms hW.own with ⟨rfl, _⟩ | ⟨g', cap, rfl⟩ <;> exact ⟨_, _, rfl⟩
      have HX := Lib.hid (And.intro hW htt)
      clear hW htt hk
      obtain ⟨aa, c', rfl⟩ := hv0
      go_wp2_with fail
      obtain ⟨hW, htt⟩ := HX.out
      have hacc : acc = T := by rw [← htt]; exact (HT.out.1.base acc).symm
      refine bodyPost_end (v := .tuple #[]) (by simp [results, Tryd.results41]) rfl ⟨rfl, ?_, hW.frz, hW.only⟩
      rw [← hacc]; exact hW.cell
    · obtain ⟨gO, cap, rfl, hgO, hgOl⟩ := hW.own.form (by simp)
      have hlen : (st' ++ [((x, oc), a)]).length = st'.length + 1 := by simp
      have hcap : st'.length + 1 ≤ cap := by
        rcases hW.own.2 with ⟨e, _⟩ | ⟨g', cap', cur, e, _, _, hnc, _⟩
        · cases e
        · injection e with e1 e2 e3; rw [e3]; simpa using hnc
      have hcell : ∀ q, q < 7 → wr.cell? ⟨gO, st'.length * 7 + q, none⟩ = (node7 ((x, oc), a))[q]? := fun q hq => by
        rw [hW.own.cellAt (st'.length * 7 + q) (by simp; omega), flat_get node7 7 node7_len _ _ _ (by simp) hq]
        simp
      have hstl := nSize_len ((st' ++ [((x, oc), a)]).map nodeV)
      rw [hk, List.length_map] at hstl
      have hvx := hW.vals ((x, oc), a) (by simp)
      have hax := hW.abt ((x, oc), a) (by simp)
      have hle := HT.out.1.le acc ((st' ++ [((x, oc), a)]).map nodeV)
      rw [htt] at hle
      rw [hlen] at hW hstl ⊢
      have hk2 : nSize (st'.map nodeV) + vsize x = gk := by rw [← hk, List.map_append, nSize_append]; simp [nSize, nodeV]
      have htt2 : tot acc (st'.map nodeV ++ [(x, a)]) = T := by rw [← htt, List.map_append]; rfl
      have hokk : oc.k = x.kind := by
        cases x with
        | mk k y m t l mp =>
        dsimp only at hvx
        rw [Val] at hvx
        obtain ⟨A, c1, A', c2, e, -⟩ := hvx
        have := congrArg (fun a => a[0]?) e
        simp [C6.arr] at this
        exact this
      obtain ⟨pk, py, pn, pt, pa, pla, pca, pb, plb, pcb⟩ := oc
      have c0 : wr.cell? ⟨gO, st'.length * 7, none⟩ = some (.int .i64 pk) := hcell 0 (by omega)
      have c1 : wr.cell? ⟨gO, st'.length * 7 + 1, none⟩ = some (.bool py) := hcell 1 (by omega)
      have c2 : wr.cell? ⟨gO, st'.length * 7 + 2, none⟩ = some (.int .i64 pn) := hcell 2 (by omega)
      have c3 : wr.cell? ⟨gO, st'.length * 7 + 3, none⟩ = some (.string pt) := hcell 3 (by omega)
      have c4 : wr.cell? ⟨gO, st'.length * 7 + 4, none⟩ = some (.slice pa pla pca) := hcell 4 (by omega)
      have c5 : wr.cell? ⟨gO, st'.length * 7 + 5, none⟩ = some (.slice pb plb pcb) := hcell 5 (by omega)
      have c6 : wr.cell? ⟨gO, st'.length * 7 + 6, none⟩ = some (.int .i64 a) := hcell 6 (by omega)
      dsimp only at hvx hax hokk
      have hgr : g < wr.heap.size := lt_of_cell hW.cell
      have hcall := HL.out ⟨pk, py, pn, pt, pa, pla, pca, pb, plb, pcb⟩ a acc (wr.alloc (.cells #[.int .i64 pk, .bool py, .int .i64 pn, .string pt, .slice pa pla pca, .slice pb plb pcb, .int .i64 a] 115)) ((World.cell?_alloc_lt _ _ _ hgr).trans hW.cell) ((World.frozen?_alloc_old _ _ _ (Nat.ne_of_lt hgr)).trans hW.frz) (by omega) (by omega)
      dsimp only [C6.arr] at hcall
      have HX := Lib.hid (And.intro hW (And.intro hvx (And.intro hk2 (And.intro htt2 (And.intro hcall hokk)))))
      clear hW hvx hk2 htt2 hcall hcell hlen hk htt hokk hle
      go_wp2_with fail
      refine HX.out.2.2.2.2.1.mono ?_
      rintro e W2 ⟨rfl, hc2, hf2, ho2⟩
      have hW2 : Wait w B g st' (.slice (some ⟨gO, 0, none⟩) st'.length cap) (step pk a acc) W2 := (HX.out.1.pop hg _).shown hg ho2 hc2 hf2
      have hN2 : Whole W2 wr.heap.size 115 #[.int .i64 pk, .bool py, .int .i64 pn, .string pt, .slice pa pla pca, .slice pb plb pcb, .int .i64 a] := (ho2.2.1 wr.heap.size (by simp) (by omega)).trans (Whole.made wr _ _)
      cases x with
      | mk k y m t l mp =>
      have hokk := HX.out.2.2.2.2.2
      simp only [V.kind] at hokk
      subst hokk
      have hvx := HX.out.2.1
      rw [Val] at hvx
      obtain ⟨A1, c1', A2, c2', e6, ⟨h1c, h2c, ht, hl, hm, -, -⟩, hvl, hvm⟩ := hvx
      simp only [C6.arr, Array.mk.injEq, List.cons.injEq, Value.int.injEq, Value.bool.injEq, Value.string.injEq, Value.slice.injEq, true_and, and_true] at e6
      obtain ⟨rfl, rfl, rfl, ⟨rfl, rfl, rfl⟩, rfl, rfl, rfl⟩ := e6
      by_cases k4 : pk = 4
      · subst k4
        have HV := Lib.hid hvl
        have hpx : parts (.mk 4 py pn pt l mp) = l := by simp [parts]
        have d0 := hN2.cell 0
        have d4 := hN2.cell 4
        simp at d0 d4
        have HY := Lib.hid (And.intro hW2 (And.intro hN2 hpx))
        have hzN : wr.heap.size < W2.heap.size := hN2.lt
        have hax2 : a + 1 + vsizeL l ≤ 1000000 := by rw [vsize_parts, hpx] at hax; omega
        have hgk : st'.length + vsizeL l + 1 ≤ 1000000 := by
          have h1 := HX.out.2.2.1
          have h2 := nSize_len (st'.map nodeV)
          rw [vsize_parts, hpx] at h1
          rw [List.length_map] at h2
          omega
        clear hW2 hN2 hc2 hf2 ho2 hpx hvl hvm c0 c1 c2 c3 c4 c5 c6 hax hstl
        go_wp2_with fail
        obtain ⟨wo, rfl⟩ : ∃ wo : World, wo = wr := ⟨_, rfl⟩
        go_loopg [4, 42] l.length (InE w B g wo.heap.size st' l a (step 4 a acc) #[.int .i64 4, .bool py, .int .i64 pn, .string pt, .slice pa l.length pca, .slice pb mp.length pcb, .int .i64 a])
        case atStart => exact ⟨0, _, [], by simp, rfl, rfl, rfl, HY.out.2.1, by simp [Value.ownBlock]; omega, by simpa using HY.out.1⟩
        case round =>
          clear d0 d4
          obtain ⟨j, ov2, ns, hk, rfl, rfl, hns, hN, hng, hWj⟩ := hrel
          
          have d6 := hN.cell 6
          simp at d6
          have hzN2 : wo.heap.size < wr.heap.size := hN.lt
          have hv0 : ∃ aa n' c', ov2 = .slice aa n' c' := by
            rcases Go.Joins.ownsRow_forms hWj.own with ⟨e, _⟩ | ⟨g', cap', e⟩ <;> exact ⟨_, _, _, e⟩
          by_cases hlt : j < l.length
          · have hltP : j < (l).length := by simpa using hlt
            have hnl : ns.length = j := by
              have := congrArg List.length hns
              rw [List.length_map, List.length_map, List.length_take, Nat.min_eq_left (Nat.le_of_lt hltP)] at this
              exact this
            have hpj : l[j]'hltP = (l[j]'hlt) := rfl
            have hvj := vsizeL_mem (List.getElem_mem hltP)
            have hvl2 := vsizeL_len l
            rw [hpj] at hvj
            obtain ⟨b, off, cs, rfl, hbB, hcc, hx⟩ := HV.out.get j hlt
            obtain ⟨cj, rfl⟩ := hx.c6
            have hcj : ∀ q, q < 6 → wr.cell? ⟨b, off + j * 6 + q, none⟩ = cj.arr[q]? := fun q hq => (hWj.only.cell (p := ⟨b, off + j * 6 + q, none⟩) (show b < w.heap.size by omega) (show b ≠ g by omega)).trans (by simpa using hcc q hq)
            obtain ⟨x0, x1, x2, x3, x4, x5⟩ := cells6 hcj rfl
            have hj1 : (j : Int) < (l.length : Int) := by omega
            have haj : a + 1 + vsize (l[j]'hlt) ≤ 1000000 := by omega
            have hlb : (st' ++ ns).length + 1 ≤ 1000000 := by rw [List.length_append, hnl]; omega
            have hzw : w.heap.size ≤ wr.heap.size := hWj.only.1
            have HZ := Lib.hid (And.intro hk (And.intro hns (And.intro hN (And.intro hng (And.intro hWj (And.intro hx haj))))))
            clear hk hns hN hng hWj hx hcj hcc hvj hvl2 hnl hpj haj hltP
            obtain ⟨qk, qy, qn, qt, qa, qla, qca, qb, qlb, qcb⟩ := cj
            dsimp only [C6.arr] at x0 x1 x2 x3 x4 x5
            obtain ⟨aa, n', c', rfl⟩ := hv0
            go_wp2_with (first
              | (at_builtin; refine wpList_append_lies _ rfl _ _ 116 rfl (w.heap.size + 1) 115 i0 (.agg #[.int .i64 0, .bool false, .int .i64 0, .string ⟨#[]⟩, .slice none 0 0, .slice none 0 0, .int .i64 0]) 7 96 Tryd.underlying116 hi hz0 hz1 hz2 rfl (by decide) _ _ _ rfl ((HZ.out.2.2.2.2.1.own.alloc _).alloc _) ⟨wr.heap.size + 1, 0, none⟩ 1 1 [.int .i64 qk, .bool qy, .int .i64 qn, .string qt, .slice qa qla qca, .slice qb qlb qcb, .int .i64 ((a : Int) + 1)] rfl rfl (by simpa using cells_new (wr.alloc (.cells _ _)) #[.int .i64 qk, .bool qy, .int .i64 qn, .string qt, .slice qa qla qca, .slice qb qlb qcb, .int .i64 ((a : Int) + 1)] 115) (fun x hx => by simp at hx; rcases hx with rfl | rfl | rfl | rfl | rfl | rfl | rfl <;> rfl) (by omega) (by unfold maxLen; omega) (by omega) (by simp; omega) (wr.heap.size + 2) (by simp) ?_; intro g2 cap2 w3 hown' hgrow3 hat3 hlt3
                 have HG := Lib.hid (And.intro hown' (And.intro hgrow3 (And.intro hat3 hlt3)))
                 clear hown' hgrow3 hat3))
            go_roundg (l.length - (j + 1))
            case rel =>
              obtain ⟨hk, hns, hN, hng, hWj, hx, haj⟩ := HZ.out
              obtain ⟨hown', hgrow3, hat3, hlt3'⟩ := HG.out
              have hltP : j < (l).length := by simpa using hlt
              refine ⟨j + 1, _, ns ++ [(((l[j]'hlt), ⟨qk, qy, qn, qt, qa, qla, qca, qb, qlb, qcb⟩), a + 1)], by first | omega | (simp; omega), by go_num, rfl, ?_, ((hN.alloc _).alloc _).grown hgrow3 (fun e => hng e.symm), ?_, ?_⟩
              · rw [List.map_append, hns, List.take_succ_eq_append_getElem hltP, List.map_append]
                simp [nodeV]
              · intro e
                simp only [Value.ownBlock, Option.some.injEq] at e
                rcases hat3 with h | h
                · exact hng (Eq.trans h (congrArg some e))
                · omega
              · rw [← List.append_assoc]
                refine hWj.push hg hx haj ?_ hgrow3
                have hn7 : ∀ y : V, node7 ((y, ⟨qk, qy, qn, qt, qa, qla, qca, qb, qlb, qcb⟩), a + 1) = [.int .i64 qk, .bool qy, .int .i64 qn, .string qt, .slice qa qla qca, .slice qb qlb qcb, .int .i64 ((a : Int) + 1)] := fun y => by simp [node7, C6.cells]
                have h9 := hown'
                rw [List.length_append] at h9 ⊢
                rw [hn7]
                exact h9
            case measure => have := HZ.out.1; omega
          · have hjl : j = l.length := by omega
            subst hjl
            have HZ := Lib.hid (And.intro hns hWj)
            clear hns hN hng hWj hk hlt
            obtain ⟨aa, n', c', rfl⟩ := hv0
            go_wp2_with fail
            go_roundg (nSize (st'.map nodeV) + vsizeL l)
            case rel =>
              obtain ⟨hns, hWj⟩ := HZ.out
              rw [List.take_of_length_le (by simp)] at hns
              have h1 := HT.out.1.step acc (st'.map nodeV) (.mk 4 py pn pt l mp) a
              rw [HX.out.2.2.2.1, kidsOf, HY.out.2.2] at h1
              refine ⟨st' ++ ns, _, hWj, ?_, ?_, ?_⟩
              · rw [List.map_append, hns, ← h1]; rfl
              · rw [List.map_append, nSize_append, hns, nSize_kidsL]
              · have h2 := HX.out.2.2.1
                rw [vsize_parts, HY.out.2.2] at h2
                omega
            case measure =>
              have h2 := HX.out.2.2.1
              rw [vsize_parts, HY.out.2.2] at h2
              omega
      by_cases k5 : pk = 5
      · subst k5
        have HV := Lib.hid hvm
        have hpx : parts (.mk 5 py pn pt l mp) = (mp.map (·.2)) := by simp [parts]
        have d0 := hN2.cell 0
        have d5 := hN2.cell 5
        simp at d0 d5
        have HY := Lib.hid (And.intro hW2 (And.intro hN2 hpx))
        have hzN : wr.heap.size < W2.heap.size := hN2.lt
        have hax2 : a + 1 + vsizeL (mp.map (·.2)) ≤ 1000000 := by rw [vsize_parts, hpx] at hax; omega
        have hgk : st'.length + vsizeL (mp.map (·.2)) + 1 ≤ 1000000 := by
          have h1 := HX.out.2.2.1
          have h2 := nSize_len (st'.map nodeV)
          rw [vsize_parts, hpx] at h1
          rw [List.length_map] at h2
          omega
        clear hW2 hN2 hc2 hf2 ho2 hpx hvl hvm c0 c1 c2 c3 c4 c5 c6 hax hstl
        go_wp2_with fail
        obtain ⟨wo, rfl⟩ : ∃ wo : World, wo = wr := ⟨_, rfl⟩
        go_loopg [4, 61] mp.length (InE w B g wo.heap.size st' (mp.map (·.2)) a (step 5 a acc) #[.int .i64 5, .bool py, .int .i64 pn, .string pt, .slice pa l.length pca, .slice pb mp.length pcb, .int .i64 a])
        case atStart => exact ⟨0, _, [], by simp, rfl, rfl, rfl, HY.out.2.1, by simp [Value.ownBlock]; omega, by simpa using HY.out.1⟩
        case round =>
          clear d0 d5
          obtain ⟨j, ov2, ns, hk, rfl, rfl, hns, hN, hng, hWj⟩ := hrel
          simp only [List.length_map] at hk
          have d6 := hN.cell 6
          simp at d6
          have hzN2 : wo.heap.size < wr.heap.size := hN.lt
          have hv0 : ∃ aa n' c', ov2 = .slice aa n' c' := by
            rcases Go.Joins.ownsRow_forms hWj.own with ⟨e, _⟩ | ⟨g', cap', e⟩ <;> exact ⟨_, _, _, e⟩
          by_cases hlt : j < mp.length
          · have hltP : j < ((mp.map (·.2))).length := by simpa using hlt
            have hnl : ns.length = j := by
              have := congrArg List.length hns
              rw [List.length_map, List.length_map, List.length_take, Nat.min_eq_left (Nat.le_of_lt hltP)] at this
              exact this
            have hpj : (mp.map (·.2))[j] = mp[j].2 := by simp
            have hvj := vsizeL_mem (List.getElem_mem hltP)
            have hvl2 := vsizeL_len (mp.map (·.2))
            rw [hpj] at hvj
            obtain ⟨b, off, cs, rfl, hbB, hsM, hkc, hcc, hx⟩ := HV.out.get j hlt
            obtain ⟨cj, rfl⟩ := hx.c6
            obtain ⟨ks, hks⟩ : ∃ ks, mp[j].1 = ks := ⟨_, rfl⟩
            rw [hks] at hkc
            have hck : wr.cell? ⟨b, off + j * 7, none⟩ = some (.string ks) := (hWj.only.cell (p := ⟨b, off + j * 7, none⟩) (show b < w.heap.size by omega) (show b ≠ g by omega)).trans (by simpa using hkc)
            have hcj : ∀ q, q < 6 → wr.cell? ⟨b, off + j * 7 + (1 + q), none⟩ = cj.arr[q]? := fun q hq => (hWj.only.cell (p := ⟨b, off + j * 7 + (1 + q), none⟩) (show b < w.heap.size by omega) (show b ≠ g by omega)).trans (by simpa using hcc q hq)
            obtain ⟨xk, x0, x1, x2, x3, x4, x5⟩ := cells7 hck hcj rfl
            clear hks hkc hck hsM
            have hj1 : (j : Int) < (mp.length : Int) := by omega
            have haj : a + 1 + vsize mp[j].2 ≤ 1000000 := by omega
            have hlb : (st' ++ ns).length + 1 ≤ 1000000 := by rw [List.length_append, hnl]; omega
            have hzw : w.heap.size ≤ wr.heap.size := hWj.only.1
            have HZ := Lib.hid (And.intro hk (And.intro hns (And.intro hN (And.intro hng (And.intro hWj (And.intro hx haj))))))
            clear hk hns hN hng hWj hx hcj hcc hvj hvl2 hnl hpj haj hltP
            obtain ⟨qk, qy, qn, qt, qa, qla, qca, qb, qlb, qcb⟩ := cj
            dsimp only [C6.arr] at x0 x1 x2 x3 x4 x5
            obtain ⟨aa, n', c', rfl⟩ := hv0
            go_wp2_with (first
              | (at_builtin; refine wpList_append_lies _ rfl _ _ 116 rfl (w.heap.size + 1) 115 i0 (.agg #[.int .i64 0, .bool false, .int .i64 0, .string ⟨#[]⟩, .slice none 0 0, .slice none 0 0, .int .i64 0]) 7 96 Tryd.underlying116 hi hz0 hz1 hz2 rfl (by decide) _ _ _ rfl ((HZ.out.2.2.2.2.1.own.alloc _).alloc _) ⟨wr.heap.size + 1, 0, none⟩ 1 1 [.int .i64 qk, .bool qy, .int .i64 qn, .string qt, .slice qa qla qca, .slice qb qlb qcb, .int .i64 ((a : Int) + 1)] rfl rfl (by simpa using cells_new (wr.alloc (.cells _ _)) #[.int .i64 qk, .bool qy, .int .i64 qn, .string qt, .slice qa qla qca, .slice qb qlb qcb, .int .i64 ((a : Int) + 1)] 115) (fun x hx => by simp at hx; rcases hx with rfl | rfl | rfl | rfl | rfl | rfl | rfl <;> rfl) (by omega) (by unfold maxLen; omega) (by omega) (by simp; omega) (wr.heap.size + 2) (by simp) ?_; intro g2 cap2 w3 hown' hgrow3 hat3 hlt3
                 have HG := Lib.hid (And.intro hown' (And.intro hgrow3 (And.intro hat3 hlt3)))
                 clear hown' hgrow3 hat3))
            go_roundg (mp.length - (j + 1))
            case rel =>
              obtain ⟨hk, hns, hN, hng, hWj, hx, haj⟩ := HZ.out
              obtain ⟨hown', hgrow3, hat3, hlt3'⟩ := HG.out
              have hltP : j < ((mp.map (·.2))).length := by simpa using hlt
              refine ⟨j + 1, _, ns ++ [((mp[j].2, ⟨qk, qy, qn, qt, qa, qla, qca, qb, qlb, qcb⟩), a + 1)], by first | omega | (simp; omega), by go_num, rfl, ?_, ((hN.alloc _).alloc _).grown hgrow3 (fun e => hng e.symm), ?_, ?_⟩
              · rw [List.map_append, hns, List.take_succ_eq_append_getElem hltP, List.map_append]
                simp [nodeV]
              · intro e
                simp only [Value.ownBlock, Option.some.injEq] at e
                rcases hat3 with h | h
                · exact hng (Eq.trans h (congrArg some e))
                · omega
              · rw [← List.append_assoc]
                refine hWj.push hg hx haj ?_ hgrow3
                have hn7 : ∀ y : V, node7 ((y, ⟨qk, qy, qn, qt, qa, qla, qca, qb, qlb, qcb⟩), a + 1) = [.int .i64 qk, .bool qy, .int .i64 qn, .string qt, .slice qa qla qca, .slice qb qlb qcb, .int .i64 ((a : Int) + 1)] := fun y => by simp [node7, C6.cells]
                have h9 := hown'
                rw [List.length_append] at h9 ⊢
                rw [hn7]
                exact h9
            case measure => have := HZ.out.1; omega
          · have hjl : j = mp.length := by omega
            subst hjl
            have HZ := Lib.hid (And.intro hns hWj)
            clear hns hN hng hWj hk hlt
            obtain ⟨aa, n', c', rfl⟩ := hv0
            go_wp2_with fail
            go_roundg (nSize (st'.map nodeV) + vsizeL (mp.map (·.2)))
            case rel =>
              obtain ⟨hns, hWj⟩ := HZ.out
              rw [List.take_of_length_le (by simp)] at hns
              have h1 := HT.out.1.step acc (st'.map nodeV) (.mk 5 py pn pt l mp) a
              rw [HX.out.2.2.2.1, kidsOf, HY.out.2.2] at h1
              refine ⟨st' ++ ns, _, hWj, ?_, ?_, ?_⟩
              · rw [List.map_append, hns, ← h1]; rfl
              · rw [List.map_append, nSize_append, hns, nSize_kidsL]
              · have h2 := HX.out.2.2.1
                rw [vsize_parts, HY.out.2.2] at h2
                omega
            case measure =>
              have h2 := HX.out.2.2.1
              rw [vsize_parts, HY.out.2.2] at h2
              omega
      · have e4 : (pk == 4) = false := beq_eq_false_iff_ne.2 k4
        have e5 : (pk == 5) = false := beq_eq_false_iff_ne.2 k5
        have hpn := parts_none (.mk pk py pn pt l mp) (by simp only [V.kind]; omega)
        have d0 := hN2.cell 0
        simp at d0
        have HY := Lib.hid (And.intro hW2 hpn)
        clear hW2 hN2 hc2 hf2 ho2 hpn hvl hvm c0 c1 c2 c3 c4 c5 c6 k4 k5
        go_wp2_with fail
        go_roundg (nSize (st'.map nodeV))
        case rel =>
          refine ⟨st', _, HY.out.1, ?_, rfl, by have := HX.out.2.2.1; omega⟩
          have h1 := HT.out.1.step acc (st'.map nodeV) (.mk pk py pn pt l mp) a
          rw [HX.out.2.2.2.1] at h1
          rw [← h1, kidsOf, HY.out.2]
          simp [V.kind]
        case measure => have := HX.out.2.2.1; have := vsize_pos (.mk pk py pn pt l mp); omega
end Go.Proofs.YtdpohklklmkjbaaDoor

namespace Go.Proofs.YtdpohklklmkjbaaDoor
open Go.RowKit Go.Lib
set_option linter.unusedVariables false
set_option linter.unusedSimpArgs false

/-- Only a block of the call's own has changed: all that was there is as it was. -/
theorem Only.below {w W W' : World} {g : Nat} (h : Only g W W') (hb : Below w.heap.size w W) (hg : w.heap.size ≤ g) : Below w.heap.size w W' := h.2.2 _ _ hb hg hb.size

set_option maxRecDepth 100000 in
set_option maxHeartbeats 1000000 in
theorem Depth_any (v : V) (cs : Array Value) (B : Nat) (w : World) (hv : Val w (· < B) 1000000 v cs) (hB : B ≤ w.heap.size) (hsz : vsize v ≤ 1000000) (hd : dep v ≤ 1000000) :
    Calls Tryd.prog 18 #[.agg cs] w fun e w' => e = .returned (.int .i64 (dep v : Nat)) ∧ Below w.heap.size w w' := by
  have htot : totD 0 [(v, 0)] = dep v := by
    simp only [totD, deepOf]
    by_cases hk : v.kind = 4 ∨ v.kind = 5
    · rw [if_pos hk]; omega
    · rw [if_neg hk, dep_none v hk]; omega
  obtain ⟨c, rfl⟩ := hv.c6
  obtain ⟨jk, jy, jn, jt, ja, jla, jca, jb, jlb, jcb⟩ := c
  dsimp only [C6.arr] at hv ⊢
  obtain ⟨W, hW⟩ : ∃ W, (w.alloc (.cells #[.int .i64 jk, .bool jy, .int .i64 jn, .string jt, .slice ja jla jca, .slice jb jlb jcb] 38)).alloc (.cells #[.int .i64 0] 3) = W := ⟨_, rfl⟩
  have hbW : Below w.heap.size w W := hW ▸ ((Below.refl _ _).alloc (Nat.le_refl _) _).alloc (by simp) _
  have hWh : Whole W (w.heap.size + 1) 3 #[.int .i64 0] := by
    have := Whole.made (w.alloc (.cells #[.int .i64 jk, .bool jy, .int .i64 jn, .string jt, .slice ja jla jca, .slice jb jlb jcb] 38)) 3 #[.int .i64 0]
    rw [hW] at this
    simpa using this
  have hcall := eachD_any stepD totD tot_depth (w.heap.size + 1) (depth1_any _) v _ B W (hv.keep (fun p hp => hbW.cell (Nat.lt_of_lt_of_le hp hB)) (fun _ h => h)) (by omega) hWh.lt hsz (hWh.cell 0) (hWh.frozen 0) (by rw [htot]; exact hd)
  rw [htot] at hcall
  have HC := Lib.hid (And.intro hcall (And.intro hbW hW))
  clear hcall hbW hW hWh hv htot
  go_enter Tryd.func18, Tryd.ntmps18
  go_wp2_with fail
  rw [HC.out.2.2]
  refine HC.out.1.mono ?_
  rintro e W2 ⟨rfl, hc, hf, ho⟩
  go_wp2_with fail
  go_ret
  exact ⟨rfl, ho.below HC.out.2.1 (by omega)⟩

set_option maxRecDepth 100000 in
set_option maxHeartbeats 1000000 in
theorem Size_any (v : V) (cs : Array Value) (B : Nat) (w : World) (hv : Val w (· < B) 1000000 v cs) (hB : B ≤ w.heap.size) (hsz : vsize v ≤ 1000000) :
    Calls Tryd.prog 20 #[.agg cs] w fun e w' => e = .returned (.int .i64 (vsize v : Nat)) ∧ Below w.heap.size w w' := by
  have htot : totS 0 [(v, 0)] = vsize v := by simp [totS, nSize]
  obtain ⟨c, rfl⟩ := hv.c6
  obtain ⟨jk, jy, jn, jt, ja, jla, jca, jb, jlb, jcb⟩ := c
  dsimp only [C6.arr] at hv ⊢
  obtain ⟨W, hW⟩ : ∃ W, (w.alloc (.cells #[.int .i64 jk, .bool jy, .int .i64 jn, .string jt, .slice ja jla jca, .slice jb jlb jcb] 38)).alloc (.cells #[.int .i64 0] 3) = W := ⟨_, rfl⟩
  have hbW : Below w.heap.size w W := hW ▸ ((Below.refl _ _).alloc (Nat.le_refl _) _).alloc (by simp) _
  have hWh : Whole W (w.heap.size + 1) 3 #[.int .i64 0] := by
    have := Whole.made (w.alloc (.cells #[.int .i64 jk, .bool jy, .int .i64 jn, .string jt, .slice ja jla jca, .slice jb jlb jcb] 38)) 3 #[.int .i64 0]
    rw [hW] at this
    simpa using this
  have hcall := eachS_any stepS totS tot_size (w.heap.size + 1) (size1_any _) v _ B W (hv.keep (fun p hp => hbW.cell (Nat.lt_of_lt_of_le hp hB)) (fun _ h => h)) (by omega) hWh.lt hsz (hWh.cell 0) (hWh.frozen 0) (by rw [htot]; exact hsz)
  rw [htot] at hcall
  have HC := Lib.hid (And.intro hcall (And.intro hbW hW))
  clear hcall hbW hW hWh hv htot
  go_enter Tryd.func20, Tryd.ntmps20
  go_wp2_with fail
  rw [HC.out.2.2]
  refine HC.out.1.mono ?_
  rintro e W2 ⟨rfl, hc, hf, ho⟩
  go_wp2_with fail
  go_ret
  exact ⟨rfl, ho.below HC.out.2.1 (by omega)⟩
end Go.Proofs.YtdpohklklmkjbaaDoor

namespace Go.Proofs.YtdpohklklmkjbaaDoor
open Go.RowKit Go.Lib
set_option linter.unusedVariables false
set_option linter.unusedSimpArgs false

def getM (key : ByteArray) : List (ByteArray × V) → Option V
  | [] => none
  | (s, v) :: r => if s.toList == key.toList then some v else getM key r
def getV (v : V) (key : ByteArray) : Option V := if v.kind = 5 then getM key v.mp else none
def GetAns (r : Option V) (w : World) (e : Ending) (w' : World) : Prop :=
  Below w.heap.size w w' ∧ ((r = none ∧ e = .returned (.tuple #[.agg zero6, .bool false])) ∨ ∃ (x : V) (o : C6), r = some x ∧ e = .returned (.tuple #[.agg o.arr, .bool true]) ∧ Val w' (fun b => w.heap.size ≤ b ∧ b < w'.heap.size) 1000000 (canon x) o.arr)
def GetRel (w : World) (key : ByteArray) (m : List (ByteArray × V)) (k : Nat) (i : Value) (wr : World) : Prop :=
  ∃ j : Nat, j + k = m.length ∧ i = .int .i64 j ∧ Whole wr (w.heap.size + 1) 38 zero6 ∧ getM key (m.drop j) = getM key m ∧ Below w.heap.size w wr
theorem vsizeM_mem {x : ByteArray × V} : ∀ {l : List (ByteArray × V)}, x ∈ l → vsize x.2 ≤ vsizeM l
  | (s, v) :: r, h => by
    rw [vsizeM]
    rcases List.mem_cons.1 h with rfl | h
    · dsimp only; omega
    · have := vsizeM_mem h; omega

set_option maxRecDepth 100000 in
set_option maxHeartbeats 4000000 in
theorem Get_any (v : V) (key : ByteArray) (cs : Array Value) (B : Nat) (w : World) (hv : Val w (· < B) 1000000 v cs) (hB : B ≤ w.heap.size) (hsz : vsize v ≤ 1000000) :
    Calls Tryd.prog 15 #[.agg cs, .string key] w (GetAns (getV v key) w) := by
  cases v with
  | mk k y n t l m =>
  rw [Val] at hv
  obtain ⟨A1, c1, A2, c2, rfl, ⟨h1c, h2c, ht, hl, hm, hn1, hn2⟩, hvl, hvm⟩ := hv
  by_cases k5 : k = 5
  · subst k5
    have hg : getV (.mk 5 y n t l m) key = getM key m := by simp [getV, V.kind, V.mp]
    rw [hg]
    obtain ⟨R, hR⟩ : ∃ R, getM key m = R := ⟨_, rfl⟩
    rw [hR]
    have hsm : vsizeM m ≤ 1000000 := by rw [vsize, if_neg (by omega), if_pos rfl] at hsz; omega
    have HV := Lib.hid (And.intro hvm (And.intro hR hsm))
    clear hvl hvm hg hR hsz hsm
    go_enter Tryd.func15, Tryd.ntmps15
    go_wp2_with fail
    go_loopg [15] m.length (GetRel w key m)
    case atStart =>
      refine ⟨0, by simp, rfl, ?_, rfl, ((Below.refl _ _).alloc (Nat.le_refl _) _).alloc (by simp) _⟩
      have := Whole.made (w.alloc (.cells #[.int .i64 5, .bool y, .int .i64 n, .string t, .slice A1 l.length c1, .slice A2 m.length c2] 38)) 38 zero6
      simpa [zero6] using this
    case round =>
      obtain ⟨j, hk, rfl, hres, hrest, hb⟩ := hrel
      have hz : w.heap.size + 1 < wr.heap.size := hres.lt
      by_cases hlt : j < m.length
      · obtain ⟨b, off, cs, rfl, hbB, hsM, hkc, hc, hx⟩ := HV.out.1.get j hlt
        obtain ⟨cj, rfl⟩ := hx.c6
        obtain ⟨s, hs⟩ : ∃ s, m[j].1 = s := ⟨_, rfl⟩
        rw [hs] at hkc
        have hck : wr.cell? ⟨b, off + j * 7, none⟩ = some (.string s) := (hb.cell (p := ⟨b, off + j * 7, none⟩) (by simp; omega)).trans (by simpa using hkc)
        have hcj : ∀ q, q < 6 → wr.cell? ⟨b, off + j * 7 + (1 + q), none⟩ = cj.arr[q]? := fun q hq => (hb.cell (p := ⟨b, off + j * 7 + (1 + q), none⟩) (by simp; omega)).trans (by simpa using hc q hq)
        obtain ⟨xk, x0, x1, x2, x3, x4, x5⟩ := cells7 hck hcj rfl
        have hj1 : (j : Int) < (m.length : Int) := by omega
        have hdrop : getM key (m.drop j) = if s.toList == key.toList then some m[j].2 else getM key (m.drop (j + 1)) := by
          rw [List.drop_eq_getElem_cons hlt]
          show getM key ((m[j].1, m[j].2) :: _) = _
          rw [getM, hs]
        have hvj := vsizeM_mem (List.getElem_mem hlt)
        have hcall := fun W (hW : Below w.heap.size w W) => Copy_any m[j].2 cj.arr B W (hx.keep (fun p hp => hW.cell (Nat.lt_of_lt_of_le hp hB)) (fun _ h => h)) (Nat.le_trans hB hW.size) (by have := HV.out.2.2; omega)
        have HX := Lib.hid (And.intro hk (And.intro hres (And.intro hrest (And.intro hb (And.intro hdrop hcall)))))
        cases hsk : (s.toList == key.toList)
        · clear hk hres hrest hb hcall hcj hc hx hck hkc hvj hdrop hs hsM
          obtain ⟨qk, qy, qn, qt, qa, qla, qca, qb, qlb, qcb⟩ := cj
          dsimp only [C6.arr] at x0 x1 x2 x3 x4 x5
          go_wp2_with fail
          go_roundg (m.length - (j + 1))
          case rel =>
            obtain ⟨hk, hres, hrest, hb, hdrop, -⟩ := HX.out
            refine ⟨j + 1, by omega, by go_num, hres.alloc _, ?_, hb.alloc hb.size _⟩
            rw [← hrest, hdrop, hsk]; rfl
          case measure => have := HX.out.1; omega
        · have f0 := hres.frozen 0
          have f1 := hres.frozen 1
          have f2 := hres.frozen 2
          have f3 := hres.frozen 3
          have f4 := hres.frozen 4
          have f5 := hres.frozen 5
          have hbz := hb.size
          clear hk hrest hcall hcj hc hx hck hkc hvj hdrop hs hsM
          obtain ⟨qk, qy, qn, qt, qa, qla, qca, qb, qlb, qcb⟩ := cj
          dsimp only [C6.arr] at x0 x1 x2 x3 x4 x5 HX
          go_wp2_with fail
          refine (HX.out.2.2.2.2.2 _ (hb.alloc hbz _)).mono ?_
          rintro e W2 ⟨⟨o, rfl, ho⟩, hb2⟩
          have hb3 : Below wr.heap.size wr W2 := ((Below.refl _ _).alloc (Nat.le_refl _) _).trans (hb2.mono (by simp))
          have hres2 := hres.below hb3 hres.lt
          obtain ⟨a0, a1, a2, a3, a4, a5⟩ := Whole.six hres2
          have g0 := hres2.frozen 0
          have g1 := hres2.frozen 1
          have g2 := hres2.frozen 2
          have g3 := hres2.frozen 3
          have g4 := hres2.frozen 4
          have g5 := hres2.frozen 5
          have hz2 : w.heap.size + 1 < W2.heap.size := hres2.lt
          have HO := Lib.hid (And.intro ho (And.intro hb2 (hb.trans (hb3.mono hbz))))
          clear ho hb2 hb3 hres hres2 hb f0 f1 f2 f3 f4 f5 x0 x1 x2 x3 x4 x5 xk
          obtain ⟨ok, oy, on_, ot, oa, ola, oca, ob, olb, ocb⟩ := o
          dsimp only [C6.arr] at HO ⊢
          go_wp2_with fail
          refine bodyPost_ret (v := .tuple #[.agg (C6.arr ⟨ok, oy, on_, ot, oa, ola, oca, ob, olb, ocb⟩), .bool true]) (by simp [results, Tryd.results15, go_sem, a0, a1, a2, a3, a4, a5, C6.arr]) rfl ⟨?_, .inr ⟨m[j].2, ⟨ok, oy, on_, ot, oa, ola, oca, ob, olb, ocb⟩, ?_, rfl, ?_⟩⟩
          · have hbw := HO.out.2.2
            exact (((((hbw.setCell (by simp) _).setCell (by simp) _).setCell (by simp) _).setCell (by simp) _).setCell (by simp) _).setCell (by simp) _
          · rw [← HV.out.2.1, ← HX.out.2.2.1, HX.out.2.2.2.2.1, hsk]; rfl
          · obtain ⟨ho, hb2, hbw⟩ := HO.out
            refine Val.keep (fun p hp => World.cell?_of_block ?_) (fun b hb => ?_) ho
            · have h1 := hp.1
              simp at h1
              have hne : p.block ≠ w.heap.size + 1 := by omega
              exact (Below.heap_setCell _ _ _ _ hne).trans ((Below.heap_setCell _ _ _ _ hne).trans ((Below.heap_setCell _ _ _ _ hne).trans ((Below.heap_setCell _ _ _ _ hne).trans ((Below.heap_setCell _ _ _ _ hne).trans (Below.heap_setCell _ _ _ _ hne)))))
            · have h1 := hb.1
              simp at h1
              exact ⟨by omega, by have := hb.2; simpa using this⟩
      · have hjl : j = m.length := by omega
        subst hjl
        obtain ⟨a0, a1, a2, a3, a4, a5⟩ := Whole.six hres
        have g0 := hres.frozen 0
        have g1 := hres.frozen 1
        have g2 := hres.frozen 2
        have g3 := hres.frozen 3
        have g4 := hres.frozen 4
        have g5 := hres.frozen 5
        have HX := Lib.hid (And.intro hrest hb)
        clear hres hrest hb hk
        go_wp2_with fail
        refine bodyPost_ret (v := .tuple #[.agg zero6, .bool false]) (by simp [results, Tryd.results15, go_sem, a0, a1, a2, a3, a4, a5, zero6]) rfl ⟨?_, .inl ⟨?_, rfl⟩⟩
        · have hbw := HX.out.2
          exact (((((hbw.setCell (by simp) _).setCell (by simp) _).setCell (by simp) _).setCell (by simp) _).setCell (by simp) _).setCell (by simp) _
        · rw [← HV.out.2.1, ← HX.out.1, List.drop_of_length_le (Nat.le_refl _)]; rfl
  · have hg : getV (.mk k y n t l m) key = none := by simp [getV, V.kind, k5]
    rw [hg]
    have e5 : (k != 5) = true := by simpa using k5
    clear hvl hvm hg k5
    go_enter Tryd.func15, Tryd.ntmps15
    go_wp2_with fail
    refine bodyPost_ret (v := .tuple #[.agg zero6, .bool false]) (by simp [results, Tryd.results15, go_sem, zero6]) rfl ⟨?_, .inl ⟨rfl, rfl⟩⟩
    repeat (first | exact Below.refl _ _ | refine Below.setCell ?_ (by simp <;> omega) _ | refine Below.alloc ?_ (by simp <;> omega) _)
end Go.Proofs.YtdpohklklmkjbaaDoor

namespace Go.Proofs.YtdpohklklmkjbaaDoor
open Go.RowKit Go.Lib Go.Shelf Go.Sort
set_option linter.unusedVariables false
set_option linter.unusedSimpArgs false

def NoRel (W : World) (k : Nat) (i : Value) (wr : World) : Prop := i = .int .i64 0 ∧ W = wr

set_option maxRecDepth 100000 in
set_option maxHeartbeats 4000000 in
theorem Members_none (A : Option Addr) (c : Nat) (w : World) (hA : A = none → c = 0) :
    Calls Tryd.prog 27 #[.slice A 0 c] w fun e w' => MemAns w w' [] e ∧ Below w.heap.size w w' := by
  have hval : Val w (· < w.heap.size) 1000000 (.mk 5 false 0 ⟨#[]⟩ [] []) #[.int .i64 5, .bool false, .int .i64 0, .string ⟨#[]⟩, .slice none 0 0, .slice A 0 c] := by
    rw [Val]
    exact ⟨none, 0, A, c, by simp, ⟨by simp, by simp, by simp [ByteArray.size], by simp, by simp, fun _ => rfl, hA⟩, by rw [ValL]; trivial, by rw [ValM]; trivial⟩
  have HV := Lib.hid hval
  clear hval
  go_enter Tryd.func27, Tryd.ntmps27
  go_wp2_with fail
  refine (Copy_made _ _ w.heap.size _ (HV.out.keep (fun p hp => Below.cell ((Below.refl w.heap.size w).alloc (Nat.le_refl _) _) hp) (fun _ h => h)) (by simp) (by simp [vsize, vsizeM])).mono ?_
  rintro e W1 ⟨⟨o, rfl, hm⟩, hb1⟩
  obtain ⟨b, cap, rfl, hbn⟩ := hm.empty
  have hzA : (w.alloc (.cells zero6 38)).heap.size = w.heap.size + 1 := by simp
  have hb1' : Below (w.heap.size + 1) (w.alloc (.cells zero6 38)) W1 := hzA ▸ hb1
  have hres : Whole W1 w.heap.size 38 zero6 := (Whole.made w _ _).below hb1' (by omega)
  have hz1 : w.heap.size + 1 ≤ W1.heap.size := by have := hb1'.size; omega
  have hbw : Below w.heap.size w W1 := ((Below.refl w.heap.size w).alloc (Nat.le_refl _) _).trans (hb1'.mono (by omega))
  have HX := Lib.hid (And.intro hres (And.intro hbw hbn))
  clear hm hb1 hb1' hres hbw hbn hzA HV
  simp only [C6.arr]
  go_wp2_with fail
  obtain ⟨W2, hW2⟩ : ∃ W2, W1.alloc (.cells #[.int .i64 5, .bool false, .int .i64 0, .string ⟨#[]⟩, .slice none 0 0, .slice b 0 cap] 38) = W2 := ⟨_, rfl⟩
  rw [hW2]
  have hbW2 : Below W1.heap.size W1 W2 := hW2 ▸ (Below.refl _ _).alloc (Nat.le_refl _) _
  have hr2 := HX.out.1.below hbW2 HX.out.1.lt
  have h42 : Whole W2 W1.heap.size 38 #[.int .i64 5, .bool false, .int .i64 0, .string ⟨#[]⟩, .slice none 0 0, .slice b 0 cap] := hW2 ▸ Whole.made _ _ _
  obtain ⟨a0, a1, a2, a3, a4, a5⟩ := Whole.six hr2
  obtain ⟨b0, b1, b2, b3, b4, b5⟩ := h42.six
  have f0 := hr2.frozen 0
  have f1 := hr2.frozen 1
  have f2 := hr2.frozen 2
  have f3 := hr2.frozen 3
  have f4 := hr2.frozen 4
  have f5 := hr2.frozen 5
  have hz2 : w.heap.size < W2.heap.size := hr2.lt
  have hz3 : W1.heap.size < W2.heap.size := h42.lt
  have HB := Lib.hid (HX.out.2.1.trans (hbW2.mono HX.out.2.1.size))
  clear hW2 hbW2 hr2 h42
  refine (sort_none b cap W2).mono ?_
  rintro e W3 ⟨rfl, rfl⟩
  go_wp2_with fail
  go_loopg [16] 0 (NoRel W2)
  case atStart => exact ⟨rfl, rfl⟩
  case round =>
    obtain ⟨rfl, rfl⟩ := hrel
    go_wp2_with fail
    obtain ⟨W4, hW4⟩ : ∃ W4, put6 W2 w.heap.size 0 ⟨5, false, 0, ⟨#[]⟩, none, 0, 0, b, 0, cap⟩ = W4 := ⟨_, rfl⟩
    have hW4' := hW4
    unfold put6 at hW4'
    simp only [Nat.zero_add] at hW4'
    rw [hW4']
    obtain ⟨m0, m1, m2, m3, m4, m5⟩ : W4.cell? ⟨w.heap.size, 0, none⟩ = some (.int .i64 5) ∧ W4.cell? ⟨w.heap.size, 1, none⟩ = some (.bool false) ∧ W4.cell? ⟨w.heap.size, 2, none⟩ = some (.int .i64 0) ∧ W4.cell? ⟨w.heap.size, 3, none⟩ = some (.string ⟨#[]⟩) ∧ W4.cell? ⟨w.heap.size, 4, none⟩ = some (.slice none 0 0) ∧ W4.cell? ⟨w.heap.size, 5, none⟩ = some (.slice b 0 cap) := by
      rw [← hW4']
      simp [go_sem, a0, a1, a2, a3, a4, a5]
    clear hW4'
    refine bodyPost_ret (v := .tuple #[.agg #[.int .i64 5, .bool false, .int .i64 0, .string ⟨#[]⟩, .slice none 0 0, .slice b 0 cap], .nilIface]) (by simp [results, Tryd.results27, go_sem, m0, m1, m2, m3, m4, m5]) rfl ⟨?_, ?_⟩
    · refine ⟨[], by simp [canonM], fun i j hi hj hij => by simp at hi, .inl ⟨⟨5, false, 0, ⟨#[]⟩, none, 0, 0, b, 0, cap⟩, rfl, fun i h => by simp at h, ?_⟩⟩
      rw [Val]
      exact ⟨none, 0, b, cap, by simp [C6.arr], ⟨by simp, by simp, by simp [ByteArray.size], by simp, by simp, fun _ => rfl, HX.out.2.2⟩, by rw [ValL]; trivial, by rw [ValM]; trivial⟩
    · rw [← hW4]; exact below_put6 HB.out w.heap.size 0 ⟨5, false, 0, ⟨#[]⟩, none, 0, 0, b, 0, cap⟩ (Nat.le_refl _)

theorem Members_any (ms : List (ByteArray × V)) (A : Option Addr) (c B : Nat) (w : World) (hv : ValM w (· < B) 1000000 ms A 0) (hB : B ≤ w.heap.size) (hl : ms.length ≤ 1000000) (hc : ms.length ≤ c) (hA : A = none → c = 0) (hsz : vsizeM ms ≤ 900000000) :
    Calls Tryd.prog 27 #[.slice A ms.length c] w fun e w' => MemAns w w' ms e ∧ Below w.heap.size w w' := by
  by_cases hne : ms = []
  · subst hne
    exact Members_none A c w hA
  · exact Members_some ms A c B w hv hB hl hc hA hsz hne
end Go.Proofs.YtdpohklklmkjbaaDoor

namespace Go.Proofs.YtdpohklklmkjbaaDoor
open Go.RowKit Go.Lib
set_option linter.unusedVariables false
set_option linter.unusedSimpArgs false

theorem vsizeL_take : ∀ (l : List V) (j : Nat) (h : j < l.length), vsizeL (l.take (j + 1)) = vsizeL (l.take j) + vsize l[j]
  | v :: r, 0, h => by simp [vsizeL]
  | v :: r, j + 1, h => by
    have := vsizeL_take r j (by simpa using h)
    simp only [List.take_succ_cons, vsizeL, List.getElem_cons_succ] at *
    omega
theorem vsizeL_le : ∀ (l : List V) (j : Nat), vsizeL (l.take j) ≤ vsizeL l
  | [], j => by simp [vsizeL]
  | v :: r, 0 => by simp [vsizeL]
  | v :: r, j + 1 => by have := vsizeL_le r j; simp only [List.take_succ_cons, vsizeL]; omega
def RSzRel (w : World) (l : List V) (k : Nat) (n i : Value) (wr : World) : Prop :=
  ∃ j : Nat, j + k = l.length ∧ i = .int .i64 j ∧ n = .int .i64 (1 + vsizeL (l.take j) : Nat) ∧ Below w.heap.size w wr

set_option maxRecDepth 100000 in
set_option maxHeartbeats 4000000 in
theorem refsize_any : ∀ (n : Nat) (v : V) (cs : Array Value) (B : Nat) (w : World), vsize v ≤ n → n ≤ 1000000 → Val w (· < B) 1000000 v cs → B ≤ w.heap.size →
    Calls Tryd.prog 21 #[.agg cs] w fun e w' => e = .returned (.int .i64 (vsize v : Nat)) ∧ Below w.heap.size w w'
  | 0, v, cs, B, w, h, _, _, _ => by have := vsize_pos v; omega
  | n + 1, v, cs, B, w, hw, hn, hv, hB => by
    have ih := Lib.hid (refsize_any n)
    obtain ⟨c, rfl⟩ := hv.c6
    have hvp := vsize_parts v
    have HV := Lib.hid (And.intro hw hvp)
    have HP := Lib.hid (fun W (hW : Below w.heap.size w W) => parts_any v _ B W (hv.keep (fun p hp => hW.cell (Nat.lt_of_lt_of_le hp hB)) (fun _ h => h)) (Nat.le_trans hB hW.size))
    clear hv hw hvp
    obtain ⟨jk, jy, jn, jt, ja, jla, jca, jb, jlb, jcb⟩ := c
    dsimp only [C6.arr] at HP ⊢
    have hb0 : ∀ o, Below w.heap.size w (w.alloc o) := fun o => (Below.refl _ _).alloc (Nat.le_refl _) _
    go_enter Tryd.func21, Tryd.ntmps21
    go_wp2_with fail
    refine (HP.out _ (hb0 _)).mono ?_
    rintro e W ⟨⟨A, c, rfl, hpc, hpl, hvl⟩, hb⟩
    obtain ⟨l, hl⟩ : ∃ l, parts v = l := ⟨_, rfl⟩
    rw [hl] at hpc hpl hvl HV ⊢
    have HX := Lib.hid (And.intro hvl ((hb0 _).trans (hb.mono (by simp))))
    have hzW : w.heap.size < W.heap.size := by have := hb.size; simp at this; omega
    clear hvl hb hl HP
    go_wp2_with fail
    go_loopg [3, 10] l.length (RSzRel W l)
    case atStart => exact ⟨0, by simp, rfl, by simp [vsizeL], Below.refl _ _⟩
    case round =>
      obtain ⟨j, hk, rfl, rfl, hb⟩ := hrel
      by_cases hlt : j < l.length
      · obtain ⟨b, off, cs, rfl, hbB, hc, hx⟩ := HX.out.1.get j hlt
        obtain ⟨cj, rfl⟩ := hx.c6
        have hcj : ∀ q, q < 6 → wr.cell? ⟨b, off + j * 6 + q, none⟩ = cj.arr[q]? := fun q hq => (hb.cell (p := ⟨b, off + j * 6 + q, none⟩) hbB).trans (by simpa using hc q hq)
        obtain ⟨x0, x1, x2, x3, x4, x5⟩ := cells6 hcj rfl
        have htk := vsizeL_take l j hlt
        have hle := vsizeL_le l (j + 1)
        have hwj : vsize l[j] ≤ n := by have := HV.out; omega
        have hcall := ih.out l[j] cj.arr W.heap.size wr hwj (by omega) (hx.keep (fun p hp => hb.cell hp) (fun _ h => h)) hb.size
        obtain ⟨a, ha⟩ : ∃ a, vsizeL (l.take j) = a := ⟨_, rfl⟩
        obtain ⟨x, hxx⟩ : ∃ x, vsize l[j] = x := ⟨_, rfl⟩
        rw [ha] at htk ⊢
        rw [hxx] at hcall htk
        have hs1 : 1 + a + x ≤ 1000000 := by have := HV.out; omega
        have HC := Lib.hid (And.intro hcall (And.intro htk (And.intro hk hb)))
        have hj1 : (j : Int) < (l.length : Int) := by omega
        clear hcall hk hb hcj hc hx ha hxx htk hle hwj
        obtain ⟨qk, qy, qn, qt, qa, qla, qca, qb, qlb, qcb⟩ := cj
        dsimp only [C6.arr] at x0 x1 x2 x3 x4 x5 HC
        go_wp2_with fail
        refine HC.out.1.mono ?_
        rintro e W2 ⟨rfl, hb2⟩
        go_wp2_with fail
        go_roundg (l.length - (j + 1))
        case rel =>
          obtain ⟨-, htk, hk, hb⟩ := HC.out
          refine ⟨j + 1, by omega, by go_num, ?_, hb.trans (hb2.mono hb.size)⟩
          rw [htk]
          congr 1
          omega
        case measure => have := HC.out.2.2.1; omega
      · obtain rfl : j = l.length := by omega
        have hsL : vsizeL (l.take l.length) = vsizeL l := by rw [List.take_length]
        rw [hsL]
        have HB := Lib.hid hb
        clear hsL hb hk
        go_wp2_with fail
        go_ret
        exact ⟨by rw [HV.out.2]; rfl, HX.out.2.trans (HB.out.mono HX.out.2.size)⟩

def RGetAns (r : Option V) (B : Nat) (w : World) (e : Ending) (w' : World) : Prop :=
  Below w.heap.size w w' ∧ ((r = none ∧ e = .returned (.tuple #[.agg zero6, .bool false])) ∨ ∃ (x : V) (o : C6), r = some x ∧ e = .returned (.tuple #[.agg o.arr, .bool true]) ∧ Val w (· < B) 1000000 x o.arr)
def RGetRel (w : World) (key : ByteArray) (m : List (ByteArray × V)) (box : Array Value) (k : Nat) (i : Value) (wr : World) : Prop :=
  ∃ j : Nat, j + k = m.length ∧ i = .int .i64 j ∧ Whole wr w.heap.size 25 box ∧ Whole wr (w.heap.size + 1) 25 zero6 ∧ getM key (m.drop j) = getM key m ∧ Below w.heap.size w wr

set_option maxRecDepth 100000 in
set_option maxHeartbeats 4000000 in
theorem refget_any (v : V) (key : ByteArray) (cs : Array Value) (B : Nat) (w : World) (hv : Val w (· < B) 1000000 v cs) (hB : B ≤ w.heap.size) :
    Calls Tryd.prog 16 #[.agg cs, .string key] w (RGetAns (getV v key) B w) := by
  cases v with
  | mk k y n t l m =>
  rw [Val] at hv
  obtain ⟨A1, c1, A2, c2, rfl, ⟨h1c, h2c, ht, hl, hm, hn1, hn2⟩, hvl, hvm⟩ := hv
  by_cases k5 : k = 5
  · subst k5
    have hg : getV (.mk 5 y n t l m) key = getM key m := by simp [getV, V.kind, V.mp]
    rw [hg]
    obtain ⟨R, hR⟩ : ∃ R, getM key m = R := ⟨_, rfl⟩
    rw [hR]
    have HV := Lib.hid (And.intro hvm hR)
    clear hvl hvm hg hR
    go_enter Tryd.func16, Tryd.ntmps16
    go_wp2_with fail
    go_loopg [13] m.length (RGetRel w key m #[.int .i64 5, .bool y, .int .i64 n, .string t, .slice A1 l.length c1, .slice A2 m.length c2])
    case atStart =>
      refine ⟨0, by simp, rfl, (Whole.made w _ _).alloc _, ?_, rfl, ((Below.refl _ _).alloc (Nat.le_refl _) _).alloc (by simp) _⟩
      have := Whole.made (w.alloc (.cells #[.int .i64 5, .bool y, .int .i64 n, .string t, .slice A1 l.length c1, .slice A2 m.length c2] 25)) 25 zero6
      simpa [zero6] using this
    case round =>
      obtain ⟨j, hk, rfl, hbox, hres, hrest, hb⟩ := hrel
      have hz : w.heap.size + 1 < wr.heap.size := hres.lt
      have b5 := hbox.cell 5
      simp at b5
      obtain ⟨a0, a1, a2, a3, a4, a5⟩ := Whole.six hres
      have g0 := hres.frozen 0
      have g1 := hres.frozen 1
      have g2 := hres.frozen 2
      have g3 := hres.frozen 3
      have g4 := hres.frozen 4
      have g5 := hres.frozen 5
      by_cases hlt : j < m.length
      · obtain ⟨b, off, cs, rfl, hbB, hsM, hkc, hc, hx⟩ := HV.out.1.get j hlt
        obtain ⟨cj, rfl⟩ := hx.c6
        obtain ⟨s, hs⟩ : ∃ s, m[j].1 = s := ⟨_, rfl⟩
        rw [hs] at hkc
        have hck : wr.cell? ⟨b, off + j * 7, none⟩ = some (.string s) := (hb.cell (p := ⟨b, off + j * 7, none⟩) (by simp; omega)).trans (by simpa using hkc)
        have hcj : ∀ q, q < 6 → wr.cell? ⟨b, off + j * 7 + (1 + q), none⟩ = cj.arr[q]? := fun q hq => (hb.cell (p := ⟨b, off + j * 7 + (1 + q), none⟩) (by simp; omega)).trans (by simpa using hc q hq)
        obtain ⟨xk, x0, x1, x2, x3, x4, x5⟩ := cells7 hck hcj rfl
        have hj1 : (j : Int) < (m.length : Int) := by omega
        have hdrop : getM key (m.drop j) = if s.toList == key.toList then some m[j].2 else getM key (m.drop (j + 1)) := by
          rw [List.drop_eq_getElem_cons hlt]
          show getM key ((m[j].1, m[j].2) :: _) = _
          rw [getM, hs]
        have HX := Lib.hid (And.intro hk (And.intro hbox (And.intro hres (And.intro hrest (And.intro hb (And.intro hdrop hx))))))
        cases hsk : (s.toList == key.toList)
        · clear hk hbox hres hrest hb hcj hc hx hck hkc hdrop hs hsM
          obtain ⟨qk, qy, qn, qt, qa, qla, qca, qb, qlb, qcb⟩ := cj
          dsimp only [C6.arr] at x0 x1 x2 x3 x4 x5
          go_wp2_with fail
          go_roundg (m.length - (j + 1))
          case rel =>
            obtain ⟨hk, hbox, hres, hrest, hb, hdrop, -⟩ := HX.out
            exact ⟨j + 1, by omega, by go_num, hbox, hres, by rw [← hrest, hdrop, hsk]; rfl, hb⟩
          case measure => have := HX.out.1; omega
        · clear hk hbox hres hrest hb hcj hc hx hck hkc hdrop hs hsM
          obtain ⟨qk, qy, qn, qt, qa, qla, qca, qb, qlb, qcb⟩ := cj
          dsimp only [C6.arr] at x0 x1 x2 x3 x4 x5
          go_wp2_with fail
          refine bodyPost_ret (v := .tuple #[.agg (C6.arr ⟨qk, qy, qn, qt, qa, qla, qca, qb, qlb, qcb⟩), .bool true]) (by simp [results, Tryd.results16, go_sem, a0, a1, a2, a3, a4, a5, C6.arr]) rfl ⟨?_, .inr ⟨m[j].2, ⟨qk, qy, qn, qt, qa, qla, qca, qb, qlb, qcb⟩, ?_, rfl, HX.out.2.2.2.2.2.2⟩⟩
          · have hbw := HX.out.2.2.2.2.1
            exact (((((hbw.setCell (by simp) _).setCell (by simp) _).setCell (by simp) _).setCell (by simp) _).setCell (by simp) _).setCell (by simp) _
          · rw [← HV.out.2, ← HX.out.2.2.2.1, HX.out.2.2.2.2.2.1, hsk]; rfl
      · have hjl : j = m.length := by omega
        subst hjl
        have HX := Lib.hid (And.intro hrest hb)
        clear hbox hres hrest hb hk
        go_wp2_with fail
        refine bodyPost_ret (v := .tuple #[.agg zero6, .bool false]) (by simp [results, Tryd.results16, go_sem, a0, a1, a2, a3, a4, a5, zero6]) rfl ⟨?_, .inl ⟨?_, rfl⟩⟩
        · have hbw := HX.out.2
          exact (((((hbw.setCell (by simp) _).setCell (by simp) _).setCell (by simp) _).setCell (by simp) _).setCell (by simp) _).setCell (by simp) _
        · rw [← HV.out.2, ← HX.out.1, List.drop_of_length_le (Nat.le_refl _)]; rfl
  · have hg : getV (.mk k y n t l m) key = none := by simp [getV, V.kind, k5]
    rw [hg]
    have e5 : (k == 5) = false := by simpa using k5
    clear hvl hvm hg k5
    go_enter Tryd.func16, Tryd.ntmps16
    go_wp2_with fail
    refine bodyPost_ret (v := .tuple #[.agg zero6, .bool false]) (by simp [results, Tryd.results16, go_sem, zero6]) rfl ⟨?_, .inl ⟨rfl, rfl⟩⟩
    repeat (first | exact Below.refl _ _ | refine Below.setCell ?_ (by simp <;> omega) _ | refine Below.alloc ?_ (by simp <;> omega) _)
end Go.Proofs.YtdpohklklmkjbaaDoor

namespace Go.Proofs.YtdpohklklmkjbaaDoor
open Go.RowKit Go.Lib
set_option linter.unusedVariables false
set_option linter.unusedSimpArgs false

mutual
theorem same_refl : ∀ v, same v v = true
  | .mk k y n t l m => by
    rw [same]
    have h1 := sameL_refl l
    have h2 := sameM_refl m
    simp [h1, h2]
theorem sameL_refl : ∀ l, sameL l l = true
  | [] => by rw [sameL]
  | v :: r => by rw [sameL, same_refl v, sameL_refl r]; rfl
theorem sameM_refl : ∀ l, sameM l l = true
  | [] => by rw [sameM]
  | (s, v) :: r => by rw [sameM, same_refl v, sameM_refl r]; simp
end
mutual
theorem same_canon : ∀ v, same (canon v) v = true
  | .mk k y n t l m => by
    have h1 := sameL_canon l
    have h2 := sameM_canon m
    rw [canon, same, show (k == k) = true by simp, Bool.true_and]
    by_cases k1 : k = 1
    · subst k1; simp
    rw [if_neg k1]
    by_cases k2 : k = 2
    · subst k2; simp
    rw [if_neg k2]
    by_cases k3 : k = 3
    · subst k3; simp
    rw [if_neg k3]
    by_cases k4 : k = 4
    · subst k4; simpa using h1
    rw [if_neg k4]
    by_cases k5 : k = 5
    · subst k5; simpa using h2
    rw [if_neg k5]
theorem sameL_canon : ∀ l, sameL (canonL l) l = true
  | [] => by rw [canonL, sameL]
  | v :: r => by rw [canonL, sameL, same_canon v, sameL_canon r]; rfl
theorem sameM_canon : ∀ l, sameM (canonM l) l = true
  | [] => by rw [canonM, sameM]
  | (s, v) :: r => by rw [canonM, sameM, same_canon v, sameM_canon r]; simp
end
theorem beq_swap {α : Type} [BEq α] [LawfulBEq α] (a b : α) : (a == b) = (b == a) := by
  by_cases h : a = b
  · subst h; rfl
  · rw [beq_eq_false_iff_ne.2 h, beq_eq_false_iff_ne.2 (fun e => h e.symm)]
mutual
theorem same_symm : ∀ v v', same v v' = same v' v
  | .mk k y n t l m, .mk k' y' n' t' l' m' => by
    have h1 := sameL_symm l l'
    have h2 := sameM_symm m m'
    rw [same, same, beq_swap k k']
    by_cases hk : k = k'
    · subst hk
      rw [beq_swap y y', beq_swap n n', beq_swap t.toList t'.toList, h1, h2]
    · rw [show (k' == k) = false by rw [beq_eq_false_iff_ne]; exact fun e => hk e.symm]; rfl
theorem sameL_symm : ∀ l l', sameL l l' = sameL l' l
  | [], [] => rfl
  | [], _ :: _ => by simp [sameL]
  | _ :: _, [] => by simp [sameL]
  | v :: r, v' :: r' => by rw [sameL, sameL, same_symm v v', sameL_symm r r']
theorem sameM_symm : ∀ l l', sameM l l' = sameM l' l
  | [], [] => rfl
  | [], _ :: _ => by simp [sameM]
  | _ :: _, [] => by simp [sameM]
  | (s, v) :: r, (s', v') :: r' => by rw [sameM, sameM, same_symm v v', sameM_symm r r', beq_swap s.toList s'.toList]
end
/-! What counts of a value is as much, and as deep. -/
mutual
theorem vsize_canon : ∀ v, vsize (canon v) = vsize v
  | .mk k y n t l m => by
    have h1 := vsizeL_canon l
    have h2 := vsizeM_canon m
    rw [canon, vsize, vsize]
    by_cases k4 : k = 4
    · simp [k4, h1]
    · by_cases k5 : k = 5
      · simp [k5, h2]
      · simp [k4, k5]
theorem vsizeL_canon : ∀ l, vsizeL (canonL l) = vsizeL l
  | [] => by rw [canonL]
  | v :: r => by rw [canonL, vsizeL, vsizeL, vsize_canon v, vsizeL_canon r]
theorem vsizeM_canon : ∀ l, vsizeM (canonM l) = vsizeM l
  | [] => by rw [canonM]
  | (s, v) :: r => by rw [canonM, vsizeM, vsizeM, vsize_canon v, vsizeM_canon r]
end
mutual
theorem vsize_wgt : ∀ v, vsize v ≤ wgt v
  | .mk k y n t l m => by
    have h1 := vsizeL_wgt l
    have h2 := vsizeM_wgt m
    rw [vsize, wgt]
    split <;> split <;> omega
theorem vsizeL_wgt : ∀ l, vsizeL l ≤ wgtL l
  | [] => by simp [vsizeL]
  | v :: r => by have h1 := vsize_wgt v; have h2 := vsizeL_wgt r; rw [vsizeL, wgtL]; omega
theorem vsizeM_wgt : ∀ l, vsizeM l ≤ wgtM l
  | [] => by simp [vsizeM]
  | (s, v) :: r => by have h1 := vsize_wgt v; have h2 := vsizeM_wgt r; rw [vsizeM, wgtM]; omega
end
mutual
theorem wgt_canon : ∀ v, wgt (canon v) ≤ wgt v
  | .mk k y n t l m => by
    have h1 := wgtL_canon l
    have h2 := wgtM_canon m
    have h0 : (ByteArray.mk #[]).size = 0 := rfl
    rw [canon, wgt, wgt]
    have a1 : (if k = 3 then t else ⟨#[]⟩ : ByteArray).size ≤ t.size := by split <;> omega
    have a2 : wgtL (if k = 4 then canonL l else []) ≤ wgtL l := by
      split
      · exact h1
      · simp [wgtL]
    have a3 : wgtM (if k = 5 then canonM m else []) ≤ wgtM m := by
      split
      · exact h2
      · simp [wgtM]
    omega
theorem wgtL_canon : ∀ l, wgtL (canonL l) ≤ wgtL l
  | [] => by rw [canonL]; exact Nat.le_refl _
  | v :: r => by have h1 := wgt_canon v; have h2 := wgtL_canon r; rw [canonL, wgtL, wgtL]; omega
theorem wgtM_canon : ∀ l, wgtM (canonM l) ≤ wgtM l
  | [] => by rw [canonM]; exact Nat.le_refl _
  | (s, v) :: r => by have h1 := wgt_canon v; have h2 := wgtM_canon r; rw [canonM, wgtM, wgtM]; omega
end
end Go.Proofs.YtdpohklklmkjbaaDoor

namespace Go.Proofs.YtdpohklklmkjbaaDoor
open Go.RowKit Go.Lib
set_option linter.unusedVariables false
set_option linter.unusedSimpArgs false

/-- A cell behind: as it was; or a number for a number; or a text, by at most n longer. -/
def Like (n : Nat) (u u' : Value) : Prop := u' = u ∨ (∃ a b : Int, u = .int .i64 a ∧ u' = .int .i64 b) ∨ ∃ s s' : ByteArray, u = .string s ∧ u' = .string s' ∧ s'.size ≤ s.size + n
theorem Like.trans {n m : Nat} {u v x : Value} (h : Like n u v) (h' : Like m v x) : Like (n + m) u x := by
  rcases h with rfl | ⟨a, b, rfl, rfl⟩ | ⟨s, s', rfl, rfl, hs⟩
  · rcases h' with rfl | ⟨a, b, rfl, rfl⟩ | ⟨s, s', rfl, rfl, hs⟩
    · exact .inl rfl
    · exact .inr (.inl ⟨a, b, rfl, rfl⟩)
    · exact .inr (.inr ⟨s, s', rfl, rfl, by omega⟩)
  · rcases h' with rfl | ⟨a', b', e, rfl⟩ | ⟨s, s', e, rfl, hs⟩
    · exact .inr (.inl ⟨a, b, rfl, rfl⟩)
    · exact .inr (.inl ⟨a, b', rfl, rfl⟩)
    · cases e
  · rcases h' with rfl | ⟨a', b', e, rfl⟩ | ⟨s1, s2, e, rfl, hs2⟩
    · exact .inr (.inr ⟨s, s', rfl, rfl, by omega⟩)
    · cases e
    · injection e with e
      subst e
      exact .inr (.inr ⟨s, s2, rfl, rfl, by omega⟩)
theorem Like.more {n m : Nat} {u v : Value} (h : Like n u v) (hm : n ≤ m) : Like m u v := by
  rcases h with h | h | ⟨s, s', h1, h2, h3⟩
  · exact .inl h
  · exact .inr (.inl h)
  · exact .inr (.inr ⟨s, s', h1, h2, by omega⟩)
/-- What turn does: only blocks that Q says, cell by cell as 'Like' says; nothing is made. -/
structure Mod (Q : Nat → Prop) (n : Nat) (w w' : World) : Prop where
  os : w'.os = w.os
  tape : w'.tape = w.tape
  output : w'.output = w.output
  size : w'.heap.size = w.heap.size
  far : ∀ k, ¬ Q k → w'.heap[k]? = w.heap[k]?
  frz : ∀ p, w'.frozen? p = w.frozen? p
  cell : ∀ p u, w.cell? p = some u → ∃ u', w'.cell? p = some u' ∧ Like n u u'
theorem Mod.refl (Q : Nat → Prop) (w : World) : Mod Q 0 w w := ⟨rfl, rfl, rfl, rfl, fun _ _ => rfl, fun _ => rfl, fun _ u h => ⟨u, h, .inl rfl⟩⟩
theorem Mod.trans {Q : Nat → Prop} {n m : Nat} {w w1 w2 : World} (h : Mod Q n w w1) (h' : Mod Q m w1 w2) : Mod Q (n + m) w w2 :=
  ⟨h'.os.trans h.os, h'.tape.trans h.tape, h'.output.trans h.output, h'.size.trans h.size, fun k hk => (h'.far k hk).trans (h.far k hk), fun p => (h'.frz p).trans (h.frz p), fun p u hu => by
    obtain ⟨u1, h1, l1⟩ := h.cell p u hu
    obtain ⟨u2, h2, l2⟩ := h'.cell p u1 h1
    exact ⟨u2, h2, l1.trans l2⟩⟩
theorem Mod.more {Q : Nat → Prop} {n m : Nat} {w w1 : World} (h : Mod Q n w w1) (hm : n ≤ m) : Mod Q m w w1 :=
  ⟨h.os, h.tape, h.output, h.size, h.far, h.frz, fun p u hu => by obtain ⟨u', h1, h2⟩ := h.cell p u hu; exact ⟨u', h1, h2.more hm⟩⟩
/-- One store of that kind. -/
theorem Mod.put {Q : Nat → Prop} {n : Nat} {w : World} {b o : Nat} {u u' : Value} (hQ : Q b) (hc : w.cell? ⟨b, o, none⟩ = some u) (hl : Like n u u') : Mod Q n w (w.setCell ⟨b, o, none⟩ u') where
  os := rfl
  tape := rfl
  output := rfl
  size := by simp [World.setCell]
  far := fun k hk => Below.heap_setCell _ _ _ _ (fun e => hk (by simpa [e] using hQ))
  frz := fun p => World.frozen?_setCell _ _ _ _
  cell := fun p x hx => by
    by_cases hp : p = ⟨b, o, none⟩
    · subst hp
      rw [hc] at hx
      injection hx with hx
      subst hx
      exact ⟨u', World.cell?_setCell_same _ _ _ hc, hl⟩
    · exact ⟨x, (World.cell?_setCell_other _ _ _ _ (fun e => hp e.symm)).trans hx, .inl rfl⟩

mutual
/-- The shape of a value at a place: its slices, its parts' kinds and keys, not frozen, in blocks that Q says. -/
def Sh (w : World) (Q : Nat → Prop) (L : Nat) : V → Nat → Nat → Prop
  | .mk _ _ _ _ l m, b, off => ∃ A c A' c', w.cell? ⟨b, off + 4, none⟩ = some (.slice A l.length c) ∧ w.cell? ⟨b, off + 5, none⟩ = some (.slice A' m.length c') ∧ ShL w Q L l A 0 ∧ ShM w Q L m A' 0
def ShL (w : World) (Q : Nat → Prop) (L : Nat) : List V → Option Addr → Nat → Prop
  | [], _, _ => True
  | v :: r, A, i => (∃ b off k, A = some ⟨b, off, none⟩ ∧ Q b ∧ w.cell? ⟨b, off + i * 6, none⟩ = some (.int .i64 k) ∧ Unfrozen w b ∧ Sh w Q L v b (off + i * 6)) ∧ ShL w Q L r A (i + 1)
def ShM (w : World) (Q : Nat → Prop) (L : Nat) : List (ByteArray × V) → Option Addr → Nat → Prop
  | [], _, _ => True
  | (_, v) :: r, A, i => (∃ b off s, A = some ⟨b, off, none⟩ ∧ Q b ∧ w.cell? ⟨b, off + i * 7, none⟩ = some (.string s) ∧ s.size ≤ L ∧ Unfrozen w b ∧ Sh w Q L v b (off + i * 7 + 1)) ∧ ShM w Q L r A (i + 1)
end
theorem Mod.slice {Q : Nat → Prop} {n : Nat} {w w' : World} (h : Mod Q n w w') {p : Addr} {A : Option Addr} {l c : Nat} (hc : w.cell? p = some (.slice A l c)) : w'.cell? p = some (.slice A l c) := by
  obtain ⟨u', h1, h2⟩ := h.cell p _ hc
  rcases h2 with rfl | ⟨a, b, e, -⟩ | ⟨s, s', e, -⟩
  · exact h1
  · cases e
  · cases e
mutual
theorem Sh.keep {w w' : World} {Q : Nat → Prop} {L n : Nat} (h : Mod Q n w w') : ∀ {v : V} {b off : Nat}, Sh w Q L v b off → Sh w' Q (L + n) v b off
  | .mk _ _ _ _ l m, b, off, hv => by
    rw [Sh] at hv ⊢
    obtain ⟨A, c, A', c', h4, h5, hl, hm⟩ := hv
    exact ⟨A, c, A', c', h.slice h4, h.slice h5, ShL.keep h hl, ShM.keep h hm⟩
theorem ShL.keep {w w' : World} {Q : Nat → Prop} {L n : Nat} (h : Mod Q n w w') : ∀ {l : List V} {A : Option Addr} {i : Nat}, ShL w Q L l A i → ShL w' Q (L + n) l A i
  | [], _, _, _ => by rw [ShL]; trivial
  | v :: r, A, i, hv => by
    rw [ShL] at hv ⊢
    obtain ⟨⟨b, off, k, e, hb, hk, hu, hx⟩, hr⟩ := hv
    obtain ⟨u', h1, h2⟩ := h.cell _ _ hk
    have hu' : Unfrozen w' b := fun o => (h.frz _).trans (hu o)
    refine ⟨?_, ShL.keep h hr⟩
    rcases h2 with rfl | ⟨a, a', -, rfl⟩ | ⟨s, s', e', -⟩
    · exact ⟨b, off, k, e, hb, h1, hu', Sh.keep h hx⟩
    · exact ⟨b, off, a', e, hb, h1, hu', Sh.keep h hx⟩
    · cases e'
theorem ShM.keep {w w' : World} {Q : Nat → Prop} {L n : Nat} (h : Mod Q n w w') : ∀ {l : List (ByteArray × V)} {A : Option Addr} {i : Nat}, ShM w Q L l A i → ShM w' Q (L + n) l A i
  | [], _, _, _ => by rw [ShM]; trivial
  | (t, v) :: r, A, i, hv => by
    rw [ShM] at hv ⊢
    obtain ⟨⟨b, off, s, e, hb, hk, hs, hu, hx⟩, hr⟩ := hv
    obtain ⟨u', h1, h2⟩ := h.cell _ _ hk
    have hu' : Unfrozen w' b := fun o => (h.frz _).trans (hu o)
    refine ⟨?_, ShM.keep h hr⟩
    rcases h2 with rfl | ⟨a, a', e', -⟩ | ⟨s1, s2, e', rfl, h3⟩
    · exact ⟨b, off, s, e, hb, h1, by omega, hu', Sh.keep h hx⟩
    · cases e'
    · injection e' with e'
      subst e'
      exact ⟨b, off, s2, e, hb, h1, by omega, hu', Sh.keep h hx⟩
end
mutual
/-- What Real made has that shape. -/
theorem Val.sh {w : World} {Q : Nat → Prop} {M : Nat} (hQ : ∀ b, Q b → Unfrozen w b) : ∀ {v : V} {cs : Array Value} {b off : Nat}, Val w Q M v cs → (∀ q, q < 6 → w.cell? ⟨b, off + q, none⟩ = cs[q]?) → Sh w Q M v b off
  | .mk k y n t l m, cs, b, off, hv, hc => by
    rw [Val] at hv
    obtain ⟨A, c, A', c', rfl, -, hl, hm⟩ := hv
    rw [Sh]
    exact ⟨A, c, A', c', hc 4 (by omega), hc 5 (by omega), ValL.sh hQ hl, ValM.sh hQ hm⟩
theorem ValL.sh {w : World} {Q : Nat → Prop} {M : Nat} (hQ : ∀ b, Q b → Unfrozen w b) : ∀ {l : List V} {A : Option Addr} {i : Nat}, ValL w Q M l A i → ShL w Q M l A i
  | [], _, _, _ => by rw [ShL]; trivial
  | .mk k y n t l' m' :: r, A, i, hv => by
    rw [ValL] at hv
    obtain ⟨⟨b, off, cs, e, hb, hc, hx⟩, hr⟩ := hv
    rw [ShL]
    refine ⟨⟨b, off, k, e, hb, ?_, hQ b hb, Val.sh hQ hx hc⟩, ValL.sh hQ hr⟩
    have h0 := hc 0 (by omega)
    rw [Val] at hx
    obtain ⟨A, c, A', c', rfl, -⟩ := hx
    exact h0
theorem ValM.sh {w : World} {Q : Nat → Prop} {M : Nat} (hQ : ∀ b, Q b → Unfrozen w b) : ∀ {l : List (ByteArray × V)} {A : Option Addr} {i : Nat}, ValM w Q M l A i → ShM w Q M l A i
  | [], _, _, _ => by rw [ShM]; trivial
  | (s, v) :: r, A, i, hv => by
    rw [ValM] at hv
    obtain ⟨⟨b, off, cs, e, hb, hs, hk, hc, hx⟩, hr⟩ := hv
    rw [ShM]
    exact ⟨⟨b, off, s, e, hb, hk, hs, hQ b hb, Val.sh hQ hx (fun q hq => by rw [Nat.add_assoc]; exact hc q hq)⟩, ValM.sh hQ hr⟩
end
end Go.Proofs.YtdpohklklmkjbaaDoor

namespace Go.Proofs.YtdpohklklmkjbaaDoor
open Go.RowKit Go.Lib
set_option linter.unusedVariables false
set_option linter.unusedSimpArgs false

theorem ShL.get {w : World} {Q : Nat → Prop} {L : Nat} : ∀ {l : List V} {A : Option Addr} {i : Nat}, ShL w Q L l A i → ∀ (j : Nat) (hj : j < l.length),
    ∃ b off k, A = some ⟨b, off, none⟩ ∧ Q b ∧ w.cell? ⟨b, off + (i + j) * 6, none⟩ = some (.int .i64 k) ∧ Unfrozen w b ∧ Sh w Q L l[j] b (off + (i + j) * 6)
  | v :: r, A, i, hv, 0, _ => by rw [ShL] at hv; exact hv.1
  | v :: r, A, i, hv, j + 1, hj => by
    rw [ShL] at hv
    obtain ⟨b, off, k, e, hb, hc, hu, hx⟩ := ShL.get hv.2 j (by simpa using hj)
    rw [show i + 1 + j = i + (j + 1) by omega] at hc hx
    exact ⟨b, off, k, e, hb, hc, hu, by simpa using hx⟩
theorem ShM.get {w : World} {Q : Nat → Prop} {L : Nat} : ∀ {l : List (ByteArray × V)} {A : Option Addr} {i : Nat}, ShM w Q L l A i → ∀ (j : Nat) (hj : j < l.length),
    ∃ b off s, A = some ⟨b, off, none⟩ ∧ Q b ∧ w.cell? ⟨b, off + (i + j) * 7, none⟩ = some (.string s) ∧ s.size ≤ L ∧ Unfrozen w b ∧ Sh w Q L l[j].2 b (off + (i + j) * 7 + 1)
  | (t, v) :: r, A, i, hv, 0, _ => by rw [ShM] at hv; exact hv.1
  | (t, v) :: r, A, i, hv, j + 1, hj => by
    rw [ShM] at hv
    obtain ⟨b, off, s, e, hb, hc, hs, hu, hx⟩ := ShM.get hv.2 j (by simpa using hj)
    rw [show i + 1 + j = i + (j + 1) by omega] at hc hx
    exact ⟨b, off, s, e, hb, hc, hs, hu, by simpa using hx⟩
def TurnL (Q : Nat → Prop) (w : World) (l : List V) (k : Nat) (i : Value) (wr : World) : Prop := ∃ j : Nat, j + k = l.length ∧ i = .int .i64 j ∧ Mod Q (2 * wgtL (l.take j)) w wr
def TurnM (Q : Nat → Prop) (w : World) (n0 : Nat) (m : List (ByteArray × V)) (k : Nat) (i : Value) (wr : World) : Prop := ∃ j : Nat, j + k = m.length ∧ i = .int .i64 j ∧ Mod Q (n0 + 2 * wgtM (m.take j)) w wr

set_option maxRecDepth 100000 in
set_option maxHeartbeats 4000000 in
theorem turn_any (Q : Nat → Prop) : ∀ (N : Nat) (v : V) (b off L : Nat) (w : World), wgt v ≤ N → Sh w Q L v b off → L + 2 * wgt v ≤ 2000000 →
    Calls Tryd.prog 23 #[.pointer (some ⟨b, off, none⟩)] w fun e w' => e = .returned (.tuple #[]) ∧ Mod Q (2 * wgt v - 1) w w'
  | 0, v, b, off, L, w, h, _, _ => by have := wgt_pos v; omega
  | N + 1, .mk k y n t l m, b, off, L, w, hw, hv, hL => by
    have ih := Lib.hid (turn_any Q N)
    rw [wgt] at hw hL ⊢
    rw [Sh] at hv
    obtain ⟨A, c, A', c', h4, h5, hl, hm⟩ := hv
    have hln : l.length ≤ 2000000 := by have := wgtL_len l; omega
    have hmn : m.length ≤ 2000000 := by have := wgtM_len m; omega
    have HV := Lib.hid (And.intro hl (And.intro hm (And.intro hw (And.intro hL (And.intro h4 h5)))))
    clear hl hm hw hL h5
    go_enter Tryd.func23, Tryd.ntmps23
    go_wp2_with fail
    go_loopg [9] l.length (TurnL Q w l)
    case atStart => exact ⟨0, by simp, rfl, by simpa [wgtL] using Mod.refl Q w⟩
    case round =>
      obtain ⟨j, hk, rfl, hM⟩ := hrel
      have d4 := hM.slice HV.out.2.2.2.2.1
      have d5 := hM.slice HV.out.2.2.2.2.2
      by_cases hlt : j < l.length
      · obtain ⟨b', off', kk, rfl, hQ, hc, hu, hx⟩ := (HV.out.1.keep hM).get j hlt
        rw [Nat.zero_add] at hc hx
        have htk := wgtL_take l j hlt
        have hle := wgtL_le l (j + 1)
        have hcall := ih.out l[j] b' (off' + j * 6) _ wr (by have := HV.out.2.2.1; omega) hx (by have := HV.out.2.2.2.1; omega)
        have hj1 : (j : Int) < (l.length : Int) := by omega
        have HX := Lib.hid (And.intro hk (And.intro hM (And.intro hQ (And.intro hc (And.intro hu (And.intro htk hcall))))))
        clear hk hM hQ hc hu hx htk hle hcall h4 d5
        go_wp2_with fail
        refine HX.out.2.2.2.2.2.2.mono ?_
        rintro e W2 ⟨rfl, hM2⟩
        obtain ⟨u', hu1, hu2⟩ := hM2.cell _ _ HX.out.2.2.2.1
        have hint : ∃ a, u' = .int .i64 a := by
          rcases hu2 with rfl | ⟨a, a', -, rfl⟩ | ⟨s, s', e', -⟩
          · exact ⟨_, rfl⟩
          · exact ⟨_, rfl⟩
          · cases e'
        obtain ⟨a, rfl⟩ := hint
        have d4' := hM2.slice d4
        have f0 : W2.frozen? ⟨b', off' + j * 6, none⟩ = false := (hM2.frz _).trans (HX.out.2.2.2.2.1 _)
        have HM := Lib.hid (And.intro hM2 hu1)
        clear hM2 hu2 d4
        go_wp2_with fail
        go_roundg (l.length - (j + 1))
        case rel =>
          obtain ⟨hk, hM, hQ, hc, hu, htk, -⟩ := HX.out
          refine ⟨j + 1, by omega, by go_num, ((hM.trans HM.out.1).trans (Mod.put (n := 0) hQ HM.out.2 (.inr (.inl ⟨_, _, rfl, rfl⟩)))).more ?_⟩
          have := wgt_pos l[j]
          omega
        case measure => have := HX.out.1; omega
      · have hjl : j = l.length := by omega
        subst hjl
        rw [List.take_length] at hM
        have HM := Lib.hid hM
        clear hM hk h4 d4
        go_wp2_with fail
        obtain ⟨wo, rfl⟩ : ∃ wo : World, wo = wr := ⟨_, rfl⟩
        go_loopg [36] m.length (TurnM Q w (2 * wgtL l) m)
        case atStart => exact ⟨0, by simp, rfl, by simpa [wgtM] using HM.out⟩
        case round =>
          clear d5
          obtain ⟨j, hk, rfl, hM⟩ := hrel
          have d5 := hM.slice HV.out.2.2.2.2.2
          by_cases hlt2 : j < m.length
          · obtain ⟨b', off', s, rfl, hQ, hc, hs, hu, hx⟩ := (HV.out.2.1.keep hM).get j hlt2
            rw [Nat.zero_add] at hc hx
            have htk := wgtM_take m j hlt2
            have hle := wgtM_le m (j + 1)
            have hcall := ih.out m[j].2 b' (off' + j * 7 + 1) _ wr (by have := HV.out.2.2.1; omega) hx (by have := HV.out.2.2.2.1; omega)
            have hj1 : (j : Int) < (m.length : Int) := by omega
            have HX := Lib.hid (And.intro hk (And.intro hM (And.intro hQ (And.intro hc (And.intro hu (And.intro htk (And.intro hcall (And.intro hs hle))))))))
            clear hk hM hQ hc hu hx htk hle hcall hs
            go_wp2_with fail
            refine HX.out.2.2.2.2.2.2.1.mono ?_
            rintro e W2 ⟨rfl, hM2⟩
            obtain ⟨u', hu1, hu2⟩ := hM2.cell _ _ HX.out.2.2.2.1
            have hstr : ∃ s2 : ByteArray, u' = .string s2 ∧ s2.size ≤ s.size + (2 * wgt m[j].2 - 1) := by
              rcases hu2 with rfl | ⟨a, a', e', -⟩ | ⟨s1, s2, e', rfl, h3⟩
              · exact ⟨_, rfl, by omega⟩
              · cases e'
              · injection e' with e'
                subst e'
                exact ⟨_, rfl, h3⟩
            obtain ⟨s2, rfl, hs2⟩ := hstr
            have hs3 : s2.size + 1 ≤ 9000000 := by
              have h1 := HX.out.2.2.2.2.2.2.2.1
              have h2 := HX.out.2.2.2.2.2.2.2.2
              have h3 := HX.out.2.2.2.2.2.1
              have h6 := HV.out.2.2.2.1
              omega
            have d5' := hM2.slice d5
            have f0 : W2.frozen? ⟨b', off' + j * 7, none⟩ = false := (hM2.frz _).trans (HX.out.2.2.2.2.1 _)
            have HM2 := Lib.hid (And.intro hM2 hu1)
            clear hM2 hu2 d5 hs2
            go_wp2_with fail
            go_roundg (m.length - (j + 1))
            case rel =>
              obtain ⟨hk, hM, hQ, hc, hu, htk, -⟩ := HX.out
              refine ⟨j + 1, by omega, by go_num, ((hM.trans HM2.out.1).trans (Mod.put (n := 1) hQ HM2.out.2 (.inr (.inr ⟨_, _, rfl, rfl, ?_⟩)))).more ?_⟩
              · rw [ByteArray.size_append]; exact Nat.le_refl _
              · have := wgt_pos m[j].2
                omega
            case measure => have := HX.out.1; omega
          · have hjl : j = m.length := by omega
            subst hjl
            rw [List.take_length] at hM
            have HM2 := Lib.hid hM
            clear hM hk
            go_wp2_with fail
            exact bodyPost_end (v := .tuple #[]) (by simp [results, Tryd.results23]) rfl ⟨rfl, HM2.out.more (by omega)⟩
end Go.Proofs.YtdpohklklmkjbaaDoor

namespace Go.Proofs.YtdpohklklmkjbaaDoor
open Go.RowKit Go.Lib
set_option linter.unusedVariables false
set_option linter.unusedSimpArgs false

def V0 : V := .mk 0 false 0 ⟨#[]⟩ [] []
theorem val_zero (w : World) (Q : Nat → Prop) (M : Nat) : Val w Q M V0 zero6 := by
  rw [V0, Val]
  exact ⟨none, 0, none, 0, rfl, ⟨by simp, by simp, by simp [ByteArray.size], by simp, by simp, fun _ => rfl, fun _ => rfl⟩, by rw [ValL]; trivial, by rw [ValM]; trivial⟩
def orV : Option V → V
  | none => V0
  | some x => x
def orC : Option V → V
  | none => V0
  | some x => canon x
theorem same_or : ∀ r, same (orC r) (orV r) = true
  | none => same_refl _
  | some x => same_canon x
theorem wgtM_get {key : ByteArray} {x : V} : ∀ {m : List (ByteArray × V)}, getM key m = some x → wgt x ≤ wgtM m
  | [], h => by cases h
  | (s, v) :: r, h => by
    rw [getM] at h
    rw [wgtM]
    by_cases hs : s.toList == key.toList
    · rw [if_pos hs] at h; injection h with h; subst h; omega
    · rw [if_neg hs] at h; have := wgtM_get h; omega
theorem wgt_or (v : V) (key : ByteArray) : wgt (orC (getV v key)) ≤ wgt v := by
  cases hr : getV v key with
  | none =>
    have h1 := wgt_pos v
    have h2 : wgt (orC none) = 1 := by simp [orC, V0, wgt, wgtL, wgtM, ByteArray.size]
    omega
  | some x =>
    have h1 : wgt (orC (some x)) ≤ wgt x := wgt_canon x
    cases v with
    | mk k y n t l m =>
    rw [getV] at hr
    by_cases hk : (V.mk k y n t l m).kind = 5
    · rw [if_pos hk] at hr
      have h2 := wgtM_get hr
      rw [wgt]
      simp only [V.mp] at h2
      omega
    · rw [if_neg hk] at hr; cases hr
/-- What Get answers, whether the key is there or not. -/
def GetOr (r : Option V) (w : World) (e : Ending) (w' : World) : Prop :=
  ∃ o : C6, e = .returned (.tuple #[.agg o.arr, .bool r.isSome]) ∧ Below w.heap.size w w' ∧ Val w' (· < w'.heap.size) 1000000 (orC r) o.arr
theorem GetAns.or {r : Option V} {w : World} {e : Ending} {w' : World} (h : GetAns r w e w') : GetOr r w e w' := by
  obtain ⟨hb, ⟨rfl, rfl⟩ | ⟨x, o, rfl, rfl, hv⟩⟩ := h
  · exact ⟨⟨0, false, 0, ⟨#[]⟩, none, 0, 0, none, 0, 0⟩, rfl, hb, val_zero _ _ _⟩
  · exact ⟨o, rfl, hb, hv.keep (fun _ _ => rfl) (fun b hb => hb.2)⟩
def RGetOr (r : Option V) (B : Nat) (w : World) (e : Ending) (w' : World) : Prop :=
  ∃ o : C6, e = .returned (.tuple #[.agg o.arr, .bool r.isSome]) ∧ Below w.heap.size w w' ∧ Val w (· < B) 1000000 (orV r) o.arr
theorem RGetAns.or {r : Option V} {B : Nat} {w : World} {e : Ending} {w' : World} (h : RGetAns r B w e w') : RGetOr r B w e w' := by
  obtain ⟨hb, ⟨rfl, rfl⟩ | ⟨x, o, rfl, rfl, hv⟩⟩ := h
  · exact ⟨⟨0, false, 0, ⟨#[]⟩, none, 0, 0, none, 0, 0⟩, rfl, hb, val_zero _ _ _⟩
  · exact ⟨o, rfl, hb, hv⟩

/-- The five values that the law holds. -/
structure AskHold (W : World) (v : V) (r : Option V) (x g h c s : Array Value) : Prop where
  wx : wgt v ≤ 300
  wg : wgt (orC r) ≤ 300
  x : Val W (· < W.heap.size) 1000000 v x
  g : Val W (· < W.heap.size) 1000000 (orC r) g
  h : Val W (· < W.heap.size) 1000000 (orV r) h
  c : Val W (· < W.heap.size) 1000000 (canon v) c
  s : Val W (· < W.heap.size) 1000000 v s
theorem val_on {W W' : World} {v : V} {c : Array Value} (h : Val W (· < W.heap.size) 1000000 v c) (hb : Below W.heap.size W W') : Val W' (· < W'.heap.size) 1000000 v c :=
  h.keep (fun p hp => hb.cell hp) (fun b hp => Nat.lt_of_lt_of_le hp hb.size)
theorem AskHold.below {W W' : World} {v : V} {r : Option V} {x g h c s : Array Value} (H : AskHold W v r x g h c s) (hb : Below W.heap.size W W') : AskHold W' v r x g h c s :=
  ⟨H.wx, H.wg, val_on H.x hb, val_on H.g hb, val_on H.h hb, val_on H.c hb, val_on H.s hb⟩
variable {W : World} {v : V} {r : Option V} {x g h c s : Array Value}
theorem AskHold.depth (H : AskHold W v r x g h c s) : Calls Tryd.prog 18 #[.agg x] W fun e w' => e = .returned (.int .i64 (dep v : Nat)) ∧ Below W.heap.size W w' :=
  Depth_any v x W.heap.size W H.x (Nat.le_refl _) (by have := vsize_wgt v; have := H.wx; omega) (by have := dep_wgt v; have := H.wx; omega)
theorem AskHold.rdepth (H : AskHold W v r x g h c s) : Calls Tryd.prog 19 #[.agg s] W fun e w' => e = .returned (.int .i64 (dep v : Nat)) ∧ Below W.heap.size W w' :=
  depth_any 300 v s W.heap.size W H.wx (by omega) H.s (Nat.le_refl _)
theorem AskHold.size (H : AskHold W v r x g h c s) : Calls Tryd.prog 20 #[.agg x] W fun e w' => e = .returned (.int .i64 (vsize v : Nat)) ∧ Below W.heap.size W w' :=
  Size_any v x W.heap.size W H.x (Nat.le_refl _) (by have := vsize_wgt v; have := H.wx; omega)
theorem AskHold.rsize (H : AskHold W v r x g h c s) : Calls Tryd.prog 21 #[.agg s] W fun e w' => e = .returned (.int .i64 (vsize v : Nat)) ∧ Below W.heap.size W w' :=
  refsize_any (vsize v) v s W.heap.size W (Nat.le_refl _) (by have := vsize_wgt v; have := H.wx; omega) H.s (Nat.le_refl _)
theorem AskHold.isG (H : AskHold W v r x g h c s) : Calls Tryd.prog 22 #[.agg g, .agg h] W fun e w' => e = .returned (.bool true) ∧ Below W.heap.size W w' := by
  have := isLaw_any (orC r) (orV r) g h W.heap.size W (by have := H.wg; omega) H.g H.h (Nat.le_refl _)
  rw [same_or] at this
  exact this
theorem AskHold.isC (H : AskHold W v r x g h c s) : Calls Tryd.prog 22 #[.agg c, .agg s] W fun e w' => e = .returned (.bool true) ∧ Below W.heap.size W w' := by
  have := isLaw_any (canon v) v c s W.heap.size W (by have := H.wx; have := wgt_canon v; omega) H.c H.s (Nat.le_refl _)
  rw [same_canon] at this
  exact this
end Go.Proofs.YtdpohklklmkjbaaDoor

namespace Go.Proofs.YtdpohklklmkjbaaDoor
open Go.RowKit Go.Lib
set_option linter.unusedVariables false
set_option linter.unusedSimpArgs false

def aloneV : V → V → Bool
  | .mk k y n t _ _, .mk k' y' n' t' _ _ => k == k' && (if k = 1 then y == y' else if k = 2 then n == n' else if k = 3 then t.toList == t'.toList else true)
def innerV : V → V → Bool
  | .mk k _ _ _ l m, .mk _ _ _ _ l' m' => if k = 4 then sameL l l' else if k = 5 then sameM m m' else true
theorem same_split : ∀ v v', same v v' = (aloneV v v' && innerV v v')
  | .mk k y n t l m, .mk k' y' n' t' l' m' => by
    rw [same, aloneV, innerV]
    by_cases k1 : k = 1
    · subst k1; simp
    by_cases k2 : k = 2
    · subst k2; simp
    by_cases k3 : k = 3
    · subst k3; simp
    simp [k1, k2, k3]
def aloneC (c c' : C6) : Bool := c.k == c'.k && (if c.k = 1 then c.y == c'.y else if c.k = 2 then c.n == c'.n else if c.k = 3 then c.t.toList == c'.t.toList else true)
theorem Val.alone {w w' : World} {Q Q' : Nat → Prop} {M M' : Nat} : ∀ {v v' : V} {c c' : C6}, Val w Q M v c.arr → Val w' Q' M' v' c'.arr → aloneV v v' = aloneC c c' ∧ v.kind = c.k
  | .mk k y n t l m, .mk k' y' n' t' l' m', ⟨a0, a1, a2, a3, a4, a5, a6, a7, a8, a9⟩, ⟨b0, b1, b2, b3, b4, b5, b6, b7, b8, b9⟩, h, h' => by
    rw [Val] at h h'
    obtain ⟨A, c, A', c', e, -⟩ := h
    obtain ⟨D, d, D', d', e', -⟩ := h'
    simp [C6.arr] at e e'
    obtain ⟨rfl, rfl, rfl, rfl, -⟩ := e
    obtain ⟨rfl, rfl, rfl, rfl, -⟩ := e'
    exact ⟨rfl, rfl⟩

set_option maxRecDepth 100000 in
set_option maxHeartbeats 4000000 in
theorem sameAlone_any (c c' : C6) (w : World) :
    Calls Tryd.prog 46 #[.agg c.arr, .agg c'.arr] w fun e w' => e = .returned (.bool (aloneC c c')) ∧ Below w.heap.size w w' := by
  have hb0 : ∀ o o', Below w.heap.size w ((w.alloc o).alloc o') := fun o o' => ((Below.refl _ _).alloc (Nat.le_refl _) _).alloc (by simp) _
  obtain ⟨R, hR⟩ : ∃ R, aloneC c c' = R := ⟨_, rfl⟩
  rw [hR]
  obtain ⟨k, y, m, t, a, la, ca, b, lb, cb⟩ := c
  obtain ⟨k', y', m', t', a', la', ca', b', lb', cb'⟩ := c'
  dsimp only [aloneC] at hR
  dsimp only [C6.arr]
  by_cases hkk : k = k'
  · subst hkk
    rw [show (k == k) = true by simp, Bool.true_and] at hR
    have hnb : (k != k) = false := by simp
    by_cases k1 : k = 1
    · subst k1
      rw [if_pos rfl] at hR
      subst hR
      go_enter Tryd.func46, Tryd.ntmps46
      go_wp2_with fail
      go_ret
      exact ⟨by simp, hb0 _ _⟩
    rw [if_neg k1] at hR
    by_cases k2 : k = 2
    · subst k2
      rw [if_pos rfl] at hR
      subst hR
      go_enter Tryd.func46, Tryd.ntmps46
      go_wp2_with fail
      go_ret
      exact ⟨by simp, hb0 _ _⟩
    rw [if_neg k2] at hR
    by_cases k3 : k = 3
    · subst k3
      rw [if_pos rfl] at hR
      subst hR
      go_enter Tryd.func46, Tryd.ntmps46
      go_wp2_with fail
      go_ret
      exact ⟨by simp, hb0 _ _⟩
    rw [if_neg k3] at hR
    subst hR
    have e1 : (k == 1) = false := beq_eq_false_iff_ne.2 k1
    have e2 : (k == 2) = false := beq_eq_false_iff_ne.2 k2
    have e3 : (k == 3) = false := beq_eq_false_iff_ne.2 k3
    clear k1 k2 k3
    go_enter Tryd.func46, Tryd.ntmps46
    go_wp2_with fail
    go_ret
    exact ⟨rfl, hb0 _ _⟩
  · have hnb : (k != k') = true := by simpa using hkk
    rw [show (k == k') = false by simpa using hkk, Bool.false_and] at hR
    subst hR
    clear hkk
    go_enter Tryd.func46, Tryd.ntmps46
    go_wp2_with fail
    go_ret
    exact ⟨rfl, hb0 _ _⟩

/-! ### what waits -/
/-- Two values, and their cells. -/
abbrev Duo := (V × V) × (C6 × C6)
def duo12 (p : Duo) : List Value := p.2.1.cells ++ p.2.2.cells
theorem duo12_len (p : Duo) : (duo12 p).length = 12 := rfl
theorem info_Pair : (Tryd.prog.info? 88).map (fun i => (i.zero, i.size, i.bytes)) = some (some (.agg #[.int .i64 0, .bool false, .int .i64 0, .string ⟨#[]⟩, .slice none 0 0, .slice none 0 0, .int .i64 0, .bool false, .int .i64 0, .string ⟨#[]⟩, .slice none 0 0, .slice none 0 0]), 12, 176) := by kernel_rfl
def within (st : List Duo) : Bool := st.all fun p => innerV p.1.1 p.1.2
def weigh : List Duo → Nat
  | [] => 0
  | p :: r => vsize p.1.1 + weigh r
theorem weigh_append : ∀ a b, weigh (a ++ b) = weigh a + weigh b
  | [], b => by simp [weigh]
  | x :: a, b => by simp only [List.cons_append, weigh, weigh_append a b]; omega
theorem weigh_len : ∀ a, a.length ≤ weigh a
  | [] => by simp
  | x :: a => by have := vsize_pos x.1.1; have := weigh_len a; simp only [List.length_cons, weigh]; omega
/-- All below base stays, but block g. -/
structure Keep (base g : Nat) (w w' : World) : Prop where
  os : w'.os = w.os
  tape : w'.tape = w.tape
  output : w'.output = w.output
  size : w.heap.size ≤ w'.heap.size
  block : ∀ k, k < base → k ≠ g → w'.heap[k]? = w.heap[k]?
theorem Keep.refl (base g : Nat) (w : World) : Keep base g w w := ⟨rfl, rfl, rfl, Nat.le_refl _, fun _ _ _ => rfl⟩
theorem Keep.trans {base g : Nat} {w w1 w2 : World} (h : Keep base g w w1) (h' : Keep base g w1 w2) : Keep base g w w2 :=
  ⟨h'.os.trans h.os, h'.tape.trans h.tape, h'.output.trans h.output, Nat.le_trans h.size h'.size, fun k hk hg => (h'.block k hk hg).trans (h.block k hk hg)⟩
theorem Keep.of_below {base g B : Nat} {w w' : World} (h : Below B w w') (hB : base ≤ B) : Keep base g w w' := ⟨h.os, h.tape, h.output, h.size, fun k hk _ => h.block k (Nat.lt_of_lt_of_le hk hB)⟩
theorem Keep.cell {base g : Nat} {w w' : World} (h : Keep base g w w') {p : Addr} (hp : p.block < base) (hg : p.block ≠ g) : w'.cell? p = w.cell? p := World.cell?_of_block (h.block _ hp hg)
theorem Keep.put {base g : Nat} {w w' : World} (h : Keep base g w w') (q : Nat) (v : Value) : Keep base g w (w'.setCell ⟨g, q, none⟩ v) :=
  ⟨h.os, h.tape, h.output, by simpa [World.setCell] using h.size, fun k hk hg => (Below.heap_setCell w' ⟨g, q, none⟩ v k (by simpa using hg)).trans (h.block k hk hg)⟩
/-- The row of what waits, in the box g; all values that it speaks of lie below B. -/
structure Waits (B base g : Nat) (st : List Duo) (ov : Value) (w : World) : Prop where
  box : Whole w g 86 #[ov]
  own : w.ownsRow base 88 12 ov st.length (st.flatMap duo12)
  vals : ∀ p ∈ st, Val w (· < B) 1000000 p.1.1 p.2.1.arr ∧ Val w (· < B) 1000000 p.1.2 p.2.2.arr
  kinds : ∀ p ∈ st, p.1.1.kind = 4 ∨ p.1.1.kind = 5
theorem val_kept {B base g : Nat} {w w' : World} {v : V} {cs : Array Value} (h : Val w (· < B) 1000000 v cs) (hk : Keep base g w w') (hB : B ≤ g) (hg : g < base) : Val w' (· < B) 1000000 v cs :=
  h.keep (fun p hp => hk.cell (Nat.lt_trans (Nat.lt_of_lt_of_le hp hB) hg) (Nat.ne_of_lt (Nat.lt_of_lt_of_le hp hB))) (fun _ h => h)
theorem Waits.below {B base g : Nat} {st : List Duo} {ov : Value} {w w' : World} (h : Waits B base g st ov w) (hb : Below w.heap.size w w') (hB : B ≤ w.heap.size) : Waits B base g st ov w' :=
  ⟨h.box.below hb h.box.lt, own_below h.own hb, fun p hp => ⟨(h.vals p hp).1.keep (fun q hq => hb.cell (Nat.lt_of_lt_of_le hq hB)) (fun _ h => h), (h.vals p hp).2.keep (fun q hq => hb.cell (Nat.lt_of_lt_of_le hq hB)) (fun _ h => h)⟩, h.kinds⟩
def waitsV (c : C6) : Prop := c.k = 4 ∨ c.k = 5
/-- What the comparison of two parts answers, and what then waits. -/
def PartAns (B base g : Nat) (st : List Duo) (v v' : V) (w : World) (e : Ending) (w' : World) : Prop :=
  e = .returned (.bool (aloneV v v')) ∧ Keep base g w w' ∧ (aloneV v v' = true → ∃ st' ov', Waits B base g st' ov' w' ∧ within st' = (within st && innerV v v') ∧ weigh st' ≤ weigh st + vsize v)
end Go.Proofs.YtdpohklklmkjbaaDoor

namespace Go.Proofs.YtdpohklklmkjbaaDoor
open Go.RowKit Go.Lib
set_option linter.unusedVariables false
set_option linter.unusedSimpArgs false

theorem inner_none : ∀ {v v' : V}, v.kind ≠ 4 → v.kind ≠ 5 → innerV v v' = true
  | .mk k y n t l m, .mk k' y' n' t' l' m', h4, h5 => by
    simp only [V.kind] at h4 h5
    rw [innerV, if_neg h4, if_neg h5]
theorem within_push (st : List Duo) (p : Duo) : within (st ++ [p]) = (within st && innerV p.1.1 p.1.2) := by simp [within]
theorem Waits.push {B base g : Nat} {st : List Duo} {ov v' : Value} {w w1 w3 : World} {p : Duo} (h : Waits B base g st ov w1) (hB : B ≤ g) (hg : g < base) (hbz : base ≤ w1.heap.size)
    (hv1 : Val w1 (· < B) 1000000 p.1.1 p.2.1.arr) (hv2 : Val w1 (· < B) 1000000 p.1.2 p.2.2.arr) (hK : Keep base g w w1) (hkp : p.1.1.kind = 4 ∨ p.1.1.kind = 5)
    (hown : w3.ownsRow base 88 12 v' (st.length + 1) (st.flatMap duo12 ++ duo12 p)) {o : Obj} (hgrow : (w1.alloc o).grownBy w3 ov.ownBlock) :
    Waits B base g (st ++ [p]) v' (w3.setCell ⟨g, 0, none⟩ v') ∧ Keep base g w (w3.setCell ⟨g, 0, none⟩ v') := by
  have hne : ov.ownBlock ≠ some g := fun e => by have := (h.own.lt _ e).1; omega
  have hk1 : Keep base g w1 w3 := ⟨hgrow.os, hgrow.tape, hgrow.output, Nat.le_trans (by simp) hgrow.size, fun k hk hkg => by
    have hkz : k < w1.heap.size := by omega
    refine (hgrow.block k (by simp; omega) (fun e => ?_)).trans (Below.heap_alloc _ _ _ hkz)
    have := (h.own.lt _ e.symm).1
    omega⟩
  have hk3 : Keep base g w1 (w3.setCell ⟨g, 0, none⟩ v') := hk1.put 0 v'
  refine ⟨⟨?_, ?_, fun q hq => ?_, fun q hq => ?_⟩, hK.trans hk3⟩
  · have hb : Whole w3 g 86 #[ov] := (h.box.alloc o).grown hgrow (fun e => hne e.symm)
    simpa using hb.put 0 v'
  · rw [List.flatMap_append, List.length_append]
    simpa using ownsRow_setCell_below hown (a := ⟨g, 0, none⟩) hg v'
  · have hboth : Val w1 (· < B) 1000000 q.1.1 q.2.1.arr ∧ Val w1 (· < B) 1000000 q.1.2 q.2.2.arr := by
      rcases List.mem_append.1 hq with hq | hq
      · exact h.vals q hq
      · obtain rfl : q = p := by simpa using hq
        exact ⟨hv1, hv2⟩
    exact ⟨val_kept hboth.1 hk3 hB hg, val_kept hboth.2 hk3 hB hg⟩
  · rcases List.mem_append.1 hq with hq | hq
    · exact h.kinds q hq
    · obtain rfl : q = p := by simpa using hq
      exact hkp

set_option maxRecDepth 100000 in
set_option maxHeartbeats 4000000 in
theorem part_any (B base g : Nat) (st : List Duo) (ov : Value) (v v' : V) (c c' : C6) (w : World) (hW : Waits B base g st ov w) (hv : Val w (· < B) 1000000 v c.arr) (hv' : Val w (· < B) 1000000 v' c'.arr)
    (hB : B ≤ g) (hg : g < base) (hbz : base ≤ w.heap.size) (hst : st.length ≤ 1000000) :
    Calls Tryd.prog 45 #[.agg c.arr, .agg c'.arr, .pointer (some ⟨g, 0, none⟩)] w (PartAns B base g st v v' w) := by
  obtain ⟨ha, hkind⟩ := hv.alone hv'
  have hBz : B ≤ w.heap.size := by omega
  obtain ⟨i0, hi, hz0, hz1, hz2⟩ := info_parts info_Pair
  have hgz : g < w.heap.size := by omega
  obtain ⟨W0, hW0⟩ : ∃ W0, (w.alloc (.cells c.arr 38)).alloc (.cells c'.arr 38) = W0 := ⟨_, rfl⟩
  have hb0 : Below w.heap.size w W0 := hW0 ▸ ((Below.refl _ _).alloc (Nat.le_refl _) _).alloc (by simp) _
  have hx : Whole W0 w.heap.size 38 c.arr := hW0 ▸ (Whole.made w _ _).alloc _
  have hy : Whole W0 (w.heap.size + 1) 38 c'.arr := by
    have := Whole.made (w.alloc (.cells c.arr 38)) 38 c'.arr
    rw [hW0] at this
    simpa using this
  have HS := Lib.hid (sameAlone_any c c' W0)
  obtain ⟨R, hR⟩ : ∃ R, aloneC c c' = R := ⟨_, rfl⟩
  rw [hR] at ha HS
  unfold PartAns
  rw [ha]
  have H0 := Lib.hid (And.intro hW0 (And.intro hb0 (And.intro hx (And.intro hy (And.intro hW (And.intro hv hv'))))))
  clear hW0 hb0 hx hy hW hv hv' ha hR
  obtain ⟨k, y, m, t, a, la, ca, b, lb, cb⟩ := c
  obtain ⟨k', y', m', t', a', la', ca', b', lb', cb'⟩ := c'
  dsimp only [C6.arr] at H0 HS hkind ⊢
  cases R
  · clear hkind
    go_enter Tryd.func45, Tryd.ntmps45
    go_wp2_with fail
    rw [H0.out.1]
    refine HS.out.mono ?_
    rintro e W1 ⟨rfl, hb1⟩
    go_wp2_with fail
    go_ret
    exact ⟨rfl, Keep.of_below (H0.out.2.1.trans (hb1.mono H0.out.2.1.size)) hbz, fun h => by cases h⟩
  · by_cases k45 : k = 4 ∨ k = 5
    · have HK : Hid (v.kind = 4 ∨ v.kind = 5) := by show v.kind = 4 ∨ v.kind = 5; rw [hkind]; exact k45
      clear hkind
      go_enter Tryd.func45, Tryd.ntmps45
      go_wp2_with fail
      rw [H0.out.1]
      refine HS.out.mono ?_
      rintro e W1 ⟨rfl, hb1⟩
      have hbw : Below w.heap.size w W1 := H0.out.2.1.trans (hb1.mono H0.out.2.1.size)
      have hW1 : Waits B base g st ov W1 := H0.out.2.2.2.2.1.below hbw hBz
      have hx1 := H0.out.2.2.1.below hb1 H0.out.2.2.1.lt
      have hy1 := H0.out.2.2.2.1.below hb1 H0.out.2.2.2.1.lt
      obtain ⟨x0, x1, x2, x3, x4, x5⟩ := hx1.six
      obtain ⟨y0, y1, y2, y3, y4, y5⟩ := hy1.six
      have c0 := hW1.box.cell 0
      have f0 := hW1.box.frozen 0
      simp at c0
      have hzx : w.heap.size + 1 < W1.heap.size := hy1.lt
      have hzx0 : w.heap.size < W1.heap.size := by omega
      have hg1 : g < W1.heap.size := by omega
      have hgb : ov.ownBlock ≠ some g := fun e => by have := (hW1.own.lt _ e).1; omega
      have H1 := Lib.hid (And.intro hbw (And.intro hW1 (And.intro (H0.out.2.2.2.2.2.1.keep (fun p hp => hbw.cell (Nat.lt_of_lt_of_le hp hBz)) (fun _ h => h)) (H0.out.2.2.2.2.2.2.keep (fun p hp => hbw.cell (Nat.lt_of_lt_of_le hp hBz)) (fun _ h => h)))))
      clear hb1 hbw hW1 hx1 hy1 HS H0
      have hfin : ∀ v2 w3, w3.ownsRow base 88 12 v2 (st.length + 1) (st.flatMap duo12 ++ [.int .i64 k, .bool y, .int .i64 m, .string t, .slice a la ca, .slice b lb cb, .int .i64 k', .bool y', .int .i64 m', .string t', .slice a' la' ca', .slice b' lb' cb']) →
          (W1.alloc (.cells #[.int .i64 k, .bool y, .int .i64 m, .string t, .slice a la ca, .slice b lb cb, .int .i64 k', .bool y', .int .i64 m', .string t', .slice a' la' ca', .slice b' lb' cb'] 88)).grownBy w3 ov.ownBlock →
          Keep base g w (w3.setCell ⟨g, 0, none⟩ v2) ∧ ∃ st' ov', Waits B base g st' ov' (w3.setCell ⟨g, 0, none⟩ v2) ∧ within st' = (within st && innerV v v') ∧ weigh st' ≤ weigh st + vsize v := fun v2 w3 hown hgrow => by
        have := Waits.push (p := ((v, v'), (⟨k, y, m, t, a, la, ca, b, lb, cb⟩, ⟨k', y', m', t', a', la', ca', b', lb', cb'⟩))) H1.out.2.1 hB hg (by have := H1.out.1.size; omega) H1.out.2.2.1 H1.out.2.2.2 (Keep.of_below H1.out.1 hbz) HK.out hown hgrow
        exact ⟨this.2, _, _, this.1, within_push _ _, by rw [weigh_append]; simp [weigh]⟩
      have HFin := Lib.hid hfin
      clear hfin
      rcases k45 with rfl | rfl
      · go_wp2_with (first
          | (at_builtin; refine wpList_append_own _ rfl _ _ 86 rfl base 88 i0 (.agg #[.int .i64 0, .bool false, .int .i64 0, .string ⟨#[]⟩, .slice none 0 0, .slice none 0 0, .int .i64 0, .bool false, .int .i64 0, .string ⟨#[]⟩, .slice none 0 0, .slice none 0 0]) 12 176 Tryd.underlying86 hi hz0 hz1 hz2 rfl (by decide) _ _ _ rfl (H1.out.2.1.own.alloc _) ⟨W1.heap.size, 0, none⟩ 1 1 [.int .i64 4, .bool y, .int .i64 m, .string t, .slice a la ca, .slice b lb cb, .int .i64 k', .bool y', .int .i64 m', .string t', .slice a' la' ca', .slice b' lb' cb'] rfl rfl (cells_new _ _ _) (fun x hx => by simp at hx; rcases hx with rfl | rfl | rfl | rfl | rfl | rfl | rfl | rfl | rfl | rfl | rfl | rfl <;> rfl) (by unfold maxLen; omega) (by omega) (by simp; omega) ?_; intro v2 w3 hown2 hgrow2 hnil2
             obtain ⟨g2, cap2, rfl, hg2, hg2'⟩ := hown2.form (Nat.succ_pos _)
             have X := Lib.hid (HFin.out _ w3 hown2 hgrow2)
             have e0 := (World.cell?_of_block (a := ⟨g, 0, none⟩) (hgrow2.block g (by simp; omega) (fun e => hgb e.symm))).trans ((World.cell?_alloc_lt _ _ _ hg1).trans c0)
             have e1 := (World.frozen?_of_block (a := ⟨g, 0, none⟩) (hgrow2.block g (by simp; omega) (fun e => hgb e.symm))).trans ((World.frozen?_alloc_old _ _ _ (Nat.ne_of_lt hg1)).trans f0)
             have hg3 : g < w3.heap.size := lt_of_cell e0
             clear hown2 hgrow2 hnil2))
        go_ret
        exact ⟨rfl, X.out.1, fun _ => X.out.2⟩
      · go_wp2_with (first
          | (at_builtin; refine wpList_append_own _ rfl _ _ 86 rfl base 88 i0 (.agg #[.int .i64 0, .bool false, .int .i64 0, .string ⟨#[]⟩, .slice none 0 0, .slice none 0 0, .int .i64 0, .bool false, .int .i64 0, .string ⟨#[]⟩, .slice none 0 0, .slice none 0 0]) 12 176 Tryd.underlying86 hi hz0 hz1 hz2 rfl (by decide) _ _ _ rfl (H1.out.2.1.own.alloc _) ⟨W1.heap.size, 0, none⟩ 1 1 [.int .i64 5, .bool y, .int .i64 m, .string t, .slice a la ca, .slice b lb cb, .int .i64 k', .bool y', .int .i64 m', .string t', .slice a' la' ca', .slice b' lb' cb'] rfl rfl (cells_new _ _ _) (fun x hx => by simp at hx; rcases hx with rfl | rfl | rfl | rfl | rfl | rfl | rfl | rfl | rfl | rfl | rfl | rfl <;> rfl) (by unfold maxLen; omega) (by omega) (by simp; omega) ?_; intro v2 w3 hown2 hgrow2 hnil2
             obtain ⟨g2, cap2, rfl, hg2, hg2'⟩ := hown2.form (Nat.succ_pos _)
             have X := Lib.hid (HFin.out _ w3 hown2 hgrow2)
             have e0 := (World.cell?_of_block (a := ⟨g, 0, none⟩) (hgrow2.block g (by simp; omega) (fun e => hgb e.symm))).trans ((World.cell?_alloc_lt _ _ _ hg1).trans c0)
             have e1 := (World.frozen?_of_block (a := ⟨g, 0, none⟩) (hgrow2.block g (by simp; omega) (fun e => hgb e.symm))).trans ((World.frozen?_alloc_old _ _ _ (Nat.ne_of_lt hg1)).trans f0)
             have hg3 : g < w3.heap.size := lt_of_cell e0
             clear hown2 hgrow2 hnil2))
        go_ret
        exact ⟨rfl, X.out.1, fun _ => X.out.2⟩
    · have e4 : (k == 4) = false := beq_eq_false_iff_ne.2 fun h => k45 (.inl h)
      have e5 : (k == 5) = false := beq_eq_false_iff_ne.2 fun h => k45 (.inr h)
      have hin : innerV v v' = true := inner_none (by rw [hkind]; exact fun h => k45 (.inl h)) (by rw [hkind]; exact fun h => k45 (.inr h))
      have HI := Lib.hid hin
      clear k45 hin hkind
      go_enter Tryd.func45, Tryd.ntmps45
      go_wp2_with fail
      rw [H0.out.1]
      refine HS.out.mono ?_
      rintro e W1 ⟨rfl, hb1⟩
      have hx1 := H0.out.2.2.1.below hb1 H0.out.2.2.1.lt
      obtain ⟨x0, x1, x2, x3, x4, x5⟩ := hx1.six
      have hbw : Below w.heap.size w W1 := H0.out.2.1.trans (hb1.mono H0.out.2.1.size)
      have H1 := Lib.hid (And.intro hbw (H0.out.2.2.2.2.1.below hbw hBz))
      clear hb1 hbw hx1
      go_wp2_with fail
      go_ret
      exact ⟨rfl, Keep.of_below H1.out.1 hbz, fun _ => ⟨st, ov, H1.out.2, by rw [HI.out]; simp, by omega⟩⟩
end Go.Proofs.YtdpohklklmkjbaaDoor

namespace Go.Proofs.YtdpohklklmkjbaaDoor
open Go.RowKit Go.Lib
set_option linter.unusedVariables false
set_option linter.unusedSimpArgs false

/-- What the comparison of two rows answers, and what then waits: S: are they the same? -/
def EqAns (B base g : Nat) (st : List Duo) (S : Bool) (n : Nat) (w : World) (e : Ending) (w' : World) : Prop :=
  ∃ ok : Bool, e = .returned (.bool ok) ∧ Keep base g w w' ∧ (ok = false → (within st && S) = false) ∧ (ok = true → ∃ st' ov', Waits B base g st' ov' w' ∧ within st' = (within st && S) ∧ weigh st' ≤ weigh st + n)
def EqRelL (w : World) (B base g : Nat) (l l' : List V) (st : List Duo) (k : Nat) (i : Value) (wr : World) : Prop :=
  ∃ (j : Nat) (sj : List Duo) (ov : Value), j + k = l.length ∧ i = .int .i64 j ∧ Waits B base g sj ov wr ∧ Keep base g w wr ∧ (within sj && sameL (l.drop j) (l'.drop j)) = (within st && sameL l l') ∧ weigh sj + vsizeL (l.drop j) ≤ weigh st + vsizeL l
theorem vsizeL_drop (l : List V) (j : Nat) (h : j < l.length) : vsizeL (l.drop j) = vsize l[j] + vsizeL (l.drop (j + 1)) := by rw [List.drop_eq_getElem_cons h, vsizeL]

set_option maxRecDepth 100000 in
set_option maxHeartbeats 4000000 in
theorem eqL_any (B base g : Nat) (st : List Duo) (ov : Value) (l l' : List V) (A A' : Option Addr) (c c' : Nat) (w : World) (hW : Waits B base g st ov w) (hl : ValL w (· < B) 1000000 l A 0) (hl' : ValL w (· < B) 1000000 l' A' 0)
    (hB : B ≤ g) (hg : g < base) (hbz : base ≤ w.heap.size) (hst : weigh st + vsizeL l ≤ 1000000) (hn : l.length ≤ 1000000) (hn' : l'.length ≤ 1000000) :
    Calls Tryd.prog 48 #[.slice A l.length c, .slice A' l'.length c', .func (Fn.func 45) #[] #[.pointer (some ⟨g, 0, none⟩)]] w (EqAns B base g st (sameL l l') (vsizeL l) w) := by
  by_cases hlen : l.length = l'.length
  · have hlb : ((l.length : Int) != (l'.length : Int)) = false := by simp; omega
    have HV := Lib.hid (And.intro hl (And.intro hl' (And.intro hW hst)))
    have HL := Lib.hid hlen
    clear hl hl' hW hlen hst
    go_enter Tryd.func48, Tryd.ntmps48
    go_wp2_with fail
    go_loopg [17] l.length (EqRelL w B base g l l' st)
    case atStart => exact ⟨0, st, ov, by simp, rfl, HV.out.2.2.1, Keep.refl _ _ _, by simp, by simp⟩
    case round =>
      obtain ⟨j, sj, ovj, hk, rfl, hWj, hK, hsame, hwt⟩ := hrel
      by_cases hlt : j < l.length
      · have hlt' : j < l'.length := by have := HL.out; omega
        obtain ⟨b, off, cs, rfl, hbB, hc, hx⟩ := HV.out.1.get j hlt
        obtain ⟨b', off', cs', rfl, hbB', hc', hx'⟩ := HV.out.2.1.get j hlt'
        obtain ⟨cj, rfl⟩ := hx.c6
        obtain ⟨cj', rfl⟩ := hx'.c6
        have hcj : ∀ q, q < 6 → wr.cell? ⟨b, off + j * 6 + q, none⟩ = cj.arr[q]? := fun q hq => (hK.cell (p := ⟨b, off + j * 6 + q, none⟩) (show b < base by omega) (show b ≠ g by omega)).trans (by simpa using hc q hq)
        have hcj' : ∀ q, q < 6 → wr.cell? ⟨b', off' + j * 6 + q, none⟩ = cj'.arr[q]? := fun q hq => (hK.cell (p := ⟨b', off' + j * 6 + q, none⟩) (show b' < base by omega) (show b' ≠ g by omega)).trans (by simpa using hc' q hq)
        obtain ⟨x0, x1, x2, x3, x4, x5⟩ := cells6 hcj rfl
        obtain ⟨y0, y1, y2, y3, y4, y5⟩ := cells6 hcj' rfl
        have hvd := vsizeL_drop l j hlt
        have hsl := weigh_len sj
        have hj1 : (j : Int) < (l.length : Int) := by omega
        have hj2 : (j : Int) < (l'.length : Int) := by omega
        have hbr : b < wr.heap.size := lt_of_cell x0
        have hbr' : b' < wr.heap.size := lt_of_cell y0
        have hzr := hK.size
        have hcall := fun W (hW : Below wr.heap.size wr W) => part_any B base g sj ovj l[j] l'[j] cj cj' W (hWj.below hW (by omega)) ((val_kept hx hK hB hg).keep (fun p hp => hW.cell (by have := hp; omega)) (fun _ h => h)) ((val_kept hx' hK hB hg).keep (fun p hp => hW.cell (by have := hp; omega)) (fun _ h => h)) hB hg (by have := hW.size; omega) (by have := HV.out.2.2.2; omega)
        have hstep : sameL (l.drop j) (l'.drop j) = (aloneV l[j] l'[j] && innerV l[j] l'[j] && sameL (l.drop (j + 1)) (l'.drop (j + 1))) := by
          rw [List.drop_eq_getElem_cons hlt, List.drop_eq_getElem_cons hlt', sameL, same_split]
        obtain ⟨R, hR⟩ : ∃ R, aloneV l[j] l'[j] = R := ⟨_, rfl⟩
        unfold PartAns at hcall
        rw [hR] at hcall hstep
        have HX := Lib.hid (And.intro hcall (And.intro hk (And.intro hK (And.intro hsame (And.intro hwt (And.intro hvd hstep))))))
        clear hcall hk hK hsame hwt hvd hstep hWj hcj hcj' hc hc' hx hx' hR hsl
        obtain ⟨jk, jy, jn, jt, ja, jla, jca, jb, jlb, jcb⟩ := cj
        obtain ⟨qk, qy, qn, qt, qa, qla, qca, qb, qlb, qcb⟩ := cj'
        dsimp only [C6.arr] at x0 x1 x2 x3 x4 x5 y0 y1 y2 y3 y4 y5 HX
        have hbel : ∀ o o', Below wr.heap.size wr ((wr.alloc o).alloc o') := fun o o' => ((Below.refl _ _).alloc (Nat.le_refl _) _).alloc (by simp) _
        have HBel := Lib.hid hbel
        clear hbel
        go_wp2_with fail
        refine (HX.out.1 _ (HBel.out _ _)).mono ?_
        rintro e W2 ⟨rfl, hK2, hst2⟩
        have H2 := Lib.hid (And.intro ((HX.out.2.2.1.trans (Keep.of_below (HBel.out _ _) (by omega))).trans hK2) hst2)
        clear hK2 hst2
        cases R
        · go_wp2_with fail
          go_ret
          obtain ⟨-, -, -, hsame, -, -, hstep⟩ := HX.out
          refine ⟨false, rfl, H2.out.1, fun _ => ?_, fun h => by cases h⟩
          rw [← hsame, hstep]; simp
        · go_wp2_with fail
          go_roundg (l.length - (j + 1))
          case rel =>
            obtain ⟨-, hk, hK, hsame, hwt, hvd, hstep⟩ := HX.out
            obtain ⟨s2, ov2, hW2, hwi, hwe⟩ := H2.out.2 (by trivial)
            refine ⟨j + 1, s2, ov2, by omega, by go_num, hW2, H2.out.1, ?_, by omega⟩
            rw [← hsame, hstep, hwi]; simp [Bool.and_assoc]
          case measure => have := HX.out.2.1; omega
      · obtain rfl : j = l.length := by omega
        have HX := Lib.hid (And.intro hWj (And.intro hK (And.intro hsame hwt)))
        clear hWj hK hsame hwt hk
        go_wp2_with fail
        go_ret
        obtain ⟨hWj, hK, hsame, hwt⟩ := HX.out
        refine ⟨true, rfl, hK, (fun h => by cases h), fun _ => ⟨sj, ovj, hWj, ?_, by omega⟩⟩
        rw [List.drop_of_length_le (Nat.le_refl _), List.drop_of_length_le (by have := HL.out; omega), sameL] at hsame
        simpa using hsame
  · have hlb : ((l.length : Int) != (l'.length : Int)) = true := by simp; omega
    have hRR : sameL l l' = false := sameL_len hlen
    clear hlen hl hl'
    go_enter Tryd.func48, Tryd.ntmps48
    go_wp2_with fail
    go_ret
    exact ⟨false, rfl, Keep.refl _ _ _, fun _ => by rw [hRR]; simp, fun h => by cases h⟩
end Go.Proofs.YtdpohklklmkjbaaDoor

namespace Go.Proofs.YtdpohklklmkjbaaDoor
open Go.RowKit Go.Lib
set_option linter.unusedVariables false
set_option linter.unusedSimpArgs false

def PartAnsM (B base g : Nat) (st : List Duo) (ks : Bool) (v v' : V) (w : World) (e : Ending) (w' : World) : Prop :=
  e = .returned (.bool (ks && aloneV v v')) ∧ Keep base g w w' ∧ ((ks && aloneV v v') = true → ∃ st' ov', Waits B base g st' ov' w' ∧ within st' = (within st && innerV v v') ∧ weigh st' ≤ weigh st + vsize v)
def arr7 (s : ByteArray) (c : C6) : Array Value := #[.string s, .int .i64 c.k, .bool c.y, .int .i64 c.n, .string c.t, .slice c.a c.la c.ca, .slice c.b c.lb c.cb]

set_option maxRecDepth 100000 in
set_option maxHeartbeats 4000000 in
theorem member_any (B base g h : Nat) (st : List Duo) (ov : Value) (s s' : ByteArray) (v v' : V) (c c' : C6) (w : World) (hW : Waits B base g st ov w) (hv : Val w (· < B) 1000000 v c.arr) (hv' : Val w (· < B) 1000000 v' c'.arr)
    (hB : B ≤ g) (hg : g < base) (hbz : base ≤ w.heap.size) (hst : st.length ≤ 1000000) (hh : w.cell? ⟨h, 0, none⟩ = some (.func (Fn.func 45) #[] #[.pointer (some ⟨g, 0, none⟩)])) :
    Calls Tryd.prog 47 #[.agg (arr7 s c), .agg (arr7 s' c'), .pointer (some ⟨h, 0, none⟩)] w (PartAnsM B base g st (s.toList == s'.toList) v v' w) := by
  have hBz : B ≤ w.heap.size := by omega
  have hhz : h < w.heap.size := lt_of_cell hh
  have hcall := fun W (hb : Below w.heap.size w W) => part_any B base g st ov v v' c c' W (hW.below hb hBz) (hv.keep (fun p hp => hb.cell (Nat.lt_of_lt_of_le hp hBz)) (fun _ h => h)) (hv'.keep (fun p hp => hb.cell (Nat.lt_of_lt_of_le hp hBz)) (fun _ h => h)) hB hg (Nat.le_trans hbz hb.size) hst
  unfold PartAns at hcall
  unfold PartAnsM
  have HC := Lib.hid hcall
  have hbel : ∀ o o', Below w.heap.size w ((w.alloc o).alloc o') := fun o o' => ((Below.refl _ _).alloc (Nat.le_refl _) _).alloc (by simp) _
  have HBel := Lib.hid hbel
  obtain ⟨R, hR⟩ : ∃ R, aloneV v v' = R := ⟨_, rfl⟩
  rw [hR] at HC ⊢
  clear hcall hbel hR hW hv hv'
  obtain ⟨k, y, m, t, a, la, ca, b, lb, cb⟩ := c
  obtain ⟨k', y', m', t', a', la', ca', b', lb', cb'⟩ := c'
  dsimp only [C6.arr, arr7] at HC ⊢
  cases hks : (s.toList == s'.toList)
  · go_enter Tryd.func47, Tryd.ntmps47
    go_wp2_with fail
    go_ret
    exact ⟨by simp, Keep.of_below (HBel.out _ _) hbz, fun h => by simp at h⟩
  · go_enter Tryd.func47, Tryd.ntmps47
    go_wp2_with fail
    refine (HC.out _ (HBel.out _ _)).mono ?_
    rintro e W1 ⟨rfl, hK, hst2⟩
    have H1 := Lib.hid (And.intro ((Keep.of_below (HBel.out _ _) hbz).trans hK) hst2)
    clear hK hst2
    cases R
    · go_wp2_with fail
      go_ret
      exact ⟨by simp, H1.out.1, fun h => by simp at h⟩
    · go_wp2_with fail
      go_ret
      exact ⟨by simp, H1.out.1, fun _ => H1.out.2 (by trivial)⟩

def EqRelM (w : World) (B base g : Nat) (l l' : List (ByteArray × V)) (st : List Duo) (k : Nat) (i : Value) (wr : World) : Prop :=
  ∃ (j : Nat) (sj : List Duo) (ov : Value), j + k = l.length ∧ i = .int .i64 j ∧ Waits B base g sj ov wr ∧ Keep base g w wr ∧ (within sj && sameM (l.drop j) (l'.drop j)) = (within st && sameM l l') ∧ weigh sj + vsizeM (l.drop j) ≤ weigh st + vsizeM l
theorem vsizeM_drop (l : List (ByteArray × V)) (j : Nat) (h : j < l.length) : vsizeM (l.drop j) = vsize l[j].2 + vsizeM (l.drop (j + 1)) := by
  rw [List.drop_eq_getElem_cons h]
  show vsizeM ((l[j].1, l[j].2) :: _) = _
  rw [vsizeM]

set_option maxRecDepth 100000 in
set_option maxHeartbeats 4000000 in
theorem eqM_any (B base g h : Nat) (st : List Duo) (ov : Value) (l l' : List (ByteArray × V)) (A A' : Option Addr) (c c' : Nat) (w : World) (hW : Waits B base g st ov w) (hl : ValM w (· < B) 1000000 l A 0) (hl' : ValM w (· < B) 1000000 l' A' 0)
    (hB : B ≤ g) (hg : g < base) (hbz : base ≤ w.heap.size) (hst : weigh st + vsizeM l ≤ 1000000) (hn : l.length ≤ 1000000) (hn' : l'.length ≤ 1000000)
    (hhb : h < base) (hhg : h ≠ g) (hh : w.cell? ⟨h, 0, none⟩ = some (.func (Fn.func 45) #[] #[.pointer (some ⟨g, 0, none⟩)])) :
    Calls Tryd.prog 49 #[.slice A l.length c, .slice A' l'.length c', .func (Fn.func 47) #[] #[.pointer (some ⟨h, 0, none⟩)]] w (EqAns B base g st (sameM l l') (vsizeM l) w) := by
  by_cases hlen : l.length = l'.length
  · have hlb : ((l.length : Int) != (l'.length : Int)) = false := by simp; omega
    have HV := Lib.hid (And.intro hl (And.intro hl' (And.intro hW (And.intro hst hh))))
    have HL := Lib.hid hlen
    clear hl hl' hW hlen hst hh
    go_enter Tryd.func49, Tryd.ntmps49
    go_wp2_with fail
    go_loopg [17] l.length (EqRelM w B base g l l' st)
    case atStart => exact ⟨0, st, ov, by simp, rfl, HV.out.2.2.1, Keep.refl _ _ _, by simp, by simp⟩
    case round =>
      obtain ⟨j, sj, ovj, hk, rfl, hWj, hK, hsame, hwt⟩ := hrel
      by_cases hlt : j < l.length
      · have hlt' : j < l'.length := by have := HL.out; omega
        obtain ⟨b, off, cs, rfl, hbB, -, hkc, hc, hx⟩ := HV.out.1.get j hlt
        obtain ⟨b', off', cs', rfl, hbB', -, hkc', hc', hx'⟩ := HV.out.2.1.get j hlt'
        obtain ⟨cj, rfl⟩ := hx.c6
        obtain ⟨cj', rfl⟩ := hx'.c6
        rw [Nat.zero_add] at hkc hkc'
        have hcj : ∀ q, q < 6 → wr.cell? ⟨b, off + j * 7 + 1 + q, none⟩ = cj.arr[q]? := fun q hq => (hK.cell (p := ⟨b, off + j * 7 + 1 + q, none⟩) (show b < base by omega) (show b ≠ g by omega)).trans (by have := hc q hq; rw [Nat.zero_add, ← Nat.add_assoc] at this; exact this)
        have hcj' : ∀ q, q < 6 → wr.cell? ⟨b', off' + j * 7 + 1 + q, none⟩ = cj'.arr[q]? := fun q hq => (hK.cell (p := ⟨b', off' + j * 7 + 1 + q, none⟩) (show b' < base by omega) (show b' ≠ g by omega)).trans (by have := hc' q hq; rw [Nat.zero_add, ← Nat.add_assoc] at this; exact this)
        have xk := (hK.cell (p := ⟨b, off + j * 7, none⟩) (show b < base by omega) (show b ≠ g by omega)).trans hkc
        have yk := (hK.cell (p := ⟨b', off' + j * 7, none⟩) (show b' < base by omega) (show b' ≠ g by omega)).trans hkc'
        obtain ⟨x0, x1, x2, x3, x4, x5⟩ := cells6 hcj rfl
        obtain ⟨y0, y1, y2, y3, y4, y5⟩ := cells6 hcj' rfl
        simp only [Nat.add_assoc, Nat.reduceAdd] at x0 x1 x2 x3 x4 x5 y0 y1 y2 y3 y4 y5
        simp only [← Nat.add_assoc] at x0 x1 x2 x3 x4 x5 y0 y1 y2 y3 y4 y5
        have hvd := vsizeM_drop l j hlt
        have hsl := weigh_len sj
        have hj1 : (j : Int) < (l.length : Int) := by omega
        have hj2 : (j : Int) < (l'.length : Int) := by omega
        have hbr : b < wr.heap.size := lt_of_cell x0
        have hbr' : b' < wr.heap.size := lt_of_cell y0
        have hzr := hK.size
        have hhr := (hK.cell (p := ⟨h, 0, none⟩) hhb hhg).trans HV.out.2.2.2.2
        obtain ⟨s, hs⟩ : ∃ s, l[j].1 = s := ⟨_, rfl⟩
        obtain ⟨s', hs'⟩ : ∃ s', l'[j].1 = s' := ⟨_, rfl⟩
        rw [hs] at xk
        rw [hs'] at yk
        have hcall := fun W (hW : Below wr.heap.size wr W) => member_any B base g h sj ovj s s' l[j].2 l'[j].2 cj cj' W (hWj.below hW (by omega)) ((val_kept hx hK hB hg).keep (fun p hp => hW.cell (by have := hp; omega)) (fun _ h => h)) ((val_kept hx' hK hB hg).keep (fun p hp => hW.cell (by have := hp; omega)) (fun _ h => h)) hB hg (by have := hW.size; omega) (by have := HV.out.2.2.2.1; omega) ((hW.cell (lt_of_cell hhr)).trans hhr)
        have hstep : sameM (l.drop j) (l'.drop j) = ((s.toList == s'.toList && aloneV l[j].2 l'[j].2) && innerV l[j].2 l'[j].2 && sameM (l.drop (j + 1)) (l'.drop (j + 1))) := by
          rw [sameM_drop hlt hlt', hs, hs', same_split]; simp [Bool.and_assoc]
        obtain ⟨R, hR⟩ : ∃ R, (s.toList == s'.toList && aloneV l[j].2 l'[j].2) = R := ⟨_, rfl⟩
        unfold PartAnsM at hcall
        rw [hR] at hcall hstep
        have HX := Lib.hid (And.intro hcall (And.intro hk (And.intro hK (And.intro hsame (And.intro hwt (And.intro hvd hstep))))))
        clear hcall hk hK hsame hwt hvd hstep hWj hcj hcj' hc hc' hx hx' hR hsl hs hs' hkc hkc' hhr
        obtain ⟨jk, jy, jn, jt, ja, jla, jca, jb, jlb, jcb⟩ := cj
        obtain ⟨qk, qy, qn, qt, qa, qla, qca, qb, qlb, qcb⟩ := cj'
        dsimp only [C6.arr, arr7] at x0 x1 x2 x3 x4 x5 y0 y1 y2 y3 y4 y5 HX
        have hbel : ∀ o o', Below wr.heap.size wr ((wr.alloc o).alloc o') := fun o o' => ((Below.refl _ _).alloc (Nat.le_refl _) _).alloc (by simp) _
        have HBel := Lib.hid hbel
        clear hbel
        go_wp2_with fail
        refine (HX.out.1 _ (HBel.out _ _)).mono ?_
        rintro e W2 ⟨rfl, hK2, hst2⟩
        have H2 := Lib.hid (And.intro ((HX.out.2.2.1.trans (Keep.of_below (HBel.out _ _) (by omega))).trans hK2) hst2)
        clear hK2 hst2
        cases R
        · go_wp2_with fail
          go_ret
          obtain ⟨-, -, -, hsame, -, -, hstep⟩ := HX.out
          refine ⟨false, rfl, H2.out.1, fun _ => ?_, fun h => by cases h⟩
          rw [← hsame, hstep]; simp
        · go_wp2_with fail
          go_roundg (l.length - (j + 1))
          case rel =>
            obtain ⟨-, hk, hK, hsame, hwt, hvd, hstep⟩ := HX.out
            obtain ⟨s2, ov2, hW2, hwi, hwe⟩ := H2.out.2 (by trivial)
            refine ⟨j + 1, s2, ov2, by omega, by go_num, hW2, H2.out.1, ?_, by omega⟩
            rw [← hsame, hstep, hwi]; simp [Bool.and_assoc]
          case measure => have := HX.out.2.1; omega
      · obtain rfl : j = l.length := by omega
        have HX := Lib.hid (And.intro hWj (And.intro hK (And.intro hsame hwt)))
        clear hWj hK hsame hwt hk
        go_wp2_with fail
        go_ret
        obtain ⟨hWj, hK, hsame, hwt⟩ := HX.out
        refine ⟨true, rfl, hK, (fun h => by cases h), fun _ => ⟨sj, ovj, hWj, ?_, by omega⟩⟩
        rw [List.drop_of_length_le (Nat.le_refl _), List.drop_of_length_le (by have := HL.out; omega), sameM] at hsame
        simpa using hsame
  · have hlb : ((l.length : Int) != (l'.length : Int)) = true := by simp; omega
    have hRR : sameM l l' = false := sameM_len hlen
    clear hlen hl hl'
    go_enter Tryd.func49, Tryd.ntmps49
    go_wp2_with fail
    go_ret
    exact ⟨false, rfl, Keep.refl _ _ _, fun _ => by rw [hRR]; simp, fun h => by cases h⟩
end Go.Proofs.YtdpohklklmkjbaaDoor

namespace Go.Proofs.YtdpohklklmkjbaaDoor
open Go.RowKit Go.Lib
set_option linter.unusedVariables false
set_option linter.unusedSimpArgs false

theorem Waits.pop {B base g : Nat} {st : List Duo} {p : Duo} {gO cap : Nat} {w : World} (h : Waits B base g (st ++ [p]) (.slice (some ⟨gO, 0, none⟩) (st.length + 1) cap) w) (hB : B ≤ g) (hg : g < base) (hbz : base ≤ w.heap.size) (o : Obj) :
    Waits B base g st (.slice (some ⟨gO, 0, none⟩) st.length cap) ((w.setCell ⟨g, 0, none⟩ (.slice (some ⟨gO, 0, none⟩) st.length cap)).alloc o) ∧ Keep base g w ((w.setCell ⟨g, 0, none⟩ (.slice (some ⟨gO, 0, none⟩) st.length cap)).alloc o) := by
  have hk0 : Keep base g w (w.setCell ⟨g, 0, none⟩ (.slice (some ⟨gO, 0, none⟩) st.length cap)) := (Keep.refl base g w).put 0 _
  have hs0 : (w.setCell ⟨g, 0, none⟩ (.slice (some ⟨gO, 0, none⟩) st.length cap)).heap.size = w.heap.size := by simp [World.setCell]
  have hk : Keep base g w ((w.setCell ⟨g, 0, none⟩ (.slice (some ⟨gO, 0, none⟩) st.length cap)).alloc o) := hk0.trans (Keep.of_below ((Below.refl _ _).alloc (Nat.le_refl _) o) (by rw [hs0]; exact hbz))
  refine ⟨⟨?_, ?_, fun q hq => ?_, fun q hq => h.kinds q (List.mem_append_left _ hq)⟩, hk⟩
  · have := (h.box.put 0 (.slice (some ⟨gO, 0, none⟩) st.length cap)).alloc o
    simpa using this
  · refine World.ownsRow.alloc (ownsRow_setCell_below (a := ⟨g, 0, none⟩) ?_ hg _) _
    obtain ⟨hl, hr⟩ := h.own
    refine ⟨by rw [flat_len duo12 12 duo12_len], .inr ?_⟩
    rcases hr with ⟨e, _⟩ | ⟨g', cap', cur, e, h1, h2, h3, h4, h5, h6⟩
    · cases e
    · injection e with e1 e2 e3
      injection e1 with e1
      injection e1 with e1
      subst e1 e3
      refine ⟨gO, cap, cur, rfl, h1, h2, by simp at h3; omega, h4, h5, ?_⟩
      have := congrArg (List.take (st.length * 12)) h6
      rw [List.take_take, Nat.min_eq_left (by simp; omega)] at this
      rw [this, List.flatMap_append, List.take_append_of_le_length (by rw [flat_len duo12 12 duo12_len]; exact Nat.le_refl _), List.take_of_length_le (by rw [flat_len duo12 12 duo12_len]; exact Nat.le_refl _)]
  · have := h.vals q (List.mem_append_left _ hq)
    exact ⟨val_kept this.1 hk hB hg, val_kept this.2 hk hB hg⟩

theorem run_store_func (w : World) (a : Addr) (f : Fn) (ts cs : Array Value) : Sem.run Tryd.prog (store a (.func f ts cs)) w = stored Tryd.prog w a (.func f ts cs) .plain := run_store _ w a _ _ rfl

def SmRel (W0 : World) (B base g : Nat) (R : Bool) (k : Nat) (sv : Value) (wr : World) : Prop :=
  ∃ sb : Bool, sv = .bool sb ∧ Keep base g W0 wr ∧ ((sb = false ∧ R = false) ∨ (sb = true ∧ ∃ st ov, Waits B base g st ov wr ∧ within st = R ∧ weigh st ≤ k ∧ k ≤ 1000000))

set_option maxRecDepth 100000 in
set_option maxHeartbeats 8000000 in
theorem Same_any (v v' : V) (cs cs' : Array Value) (B : Nat) (w : World) (hv : Val w (· < B) 1000000 v cs) (hv' : Val w (· < B) 1000000 v' cs') (hB : B ≤ w.heap.size) (hsz : vsize v ≤ 1000000) :
    Calls Tryd.prog 24 #[.agg cs, .agg cs'] w fun e w' => e = .returned (.bool (same v v')) ∧ Below w.heap.size w w' := by
  obtain ⟨c, rfl⟩ := hv.c6
  obtain ⟨c', rfl⟩ := hv'.c6
  obtain ⟨R, hR⟩ : ∃ R, same v v' = R := ⟨_, rfl⟩
  rw [hR]
  rw [same_split] at hR
  obtain ⟨W0, hW0⟩ : ∃ W0, (((w.alloc (.cells c.arr 38)).alloc (.cells c'.arr 38)).alloc (.cells #[.slice none 0 0] 86)).alloc (.cells #[.func (Fn.func 45) #[] #[.pointer (some ⟨w.heap.size + 2, 0, none⟩)]] 53) = W0 := ⟨_, rfl⟩
  have hb0 : Below w.heap.size w W0 := hW0 ▸ ((((Below.refl _ _).alloc (Nat.le_refl _) _).alloc (by simp) _).alloc (by simp; omega) _).alloc (by simp; omega) _
  have hz0 : W0.heap.size = w.heap.size + 4 := by rw [← hW0]; simp
  have hg0 : Whole W0 (w.heap.size + 2) 86 #[.slice none 0 0] := by
    have := (Whole.made ((w.alloc (.cells c.arr 38)).alloc (.cells c'.arr 38)) 86 #[.slice none 0 0]).alloc (.cells #[.func (Fn.func 45) #[] #[.pointer (some ⟨w.heap.size + 2, 0, none⟩)]] 53)
    rw [hW0] at this
    simpa using this
  have hh0 : Whole W0 (w.heap.size + 3) 53 #[.func (Fn.func 45) #[] #[.pointer (some ⟨w.heap.size + 2, 0, none⟩)]] := by
    have := Whole.made (((w.alloc (.cells c.arr 38)).alloc (.cells c'.arr 38)).alloc (.cells #[.slice none 0 0] 86)) 53 #[.func (Fn.func 45) #[] #[.pointer (some ⟨w.heap.size + 2, 0, none⟩)]]
    rw [hW0] at this
    simpa using this
  have hWt : Waits B (w.heap.size + 4) (w.heap.size + 2) [] (.slice none 0 0) W0 := ⟨hg0, World.ownsRow_nil _ _ _ _, fun p hp => by simp at hp, fun p hp => by simp at hp⟩
  have hcall := part_any B (w.heap.size + 4) (w.heap.size + 2) [] (.slice none 0 0) v v' c c' W0 hWt (hv.keep (fun p hp => hb0.cell (Nat.lt_of_lt_of_le hp hB)) (fun _ h => h)) (hv'.keep (fun p hp => hb0.cell (Nat.lt_of_lt_of_le hp hB)) (fun _ h => h)) (by omega) (by omega) (by omega) (by simp)
  unfold PartAns at hcall
  have hhc := hh0.cell 0
  simp at hhc
  have H0 := Lib.hid (And.intro hW0 (And.intro hb0 (And.intro hhc (And.intro hcall (And.intro hR (And.intro hz0 hsz))))))
  clear hW0 hb0 hz0 hg0 hh0 hWt hcall hhc hv hv' hR
  obtain ⟨jk, jy, jn, jt, ja, jla, jca, jb, jlb, jcb⟩ := c
  obtain ⟨qk, qy, qn, qt, qa, qla, qca, qb, qlb, qcb⟩ := c'
  dsimp only [C6.arr] at H0 ⊢
  have hsf := run_store_func
  go_enter Tryd.func24, Tryd.ntmps24
  go_wp2_with fail
  rw [H0.out.1]
  refine H0.out.2.2.2.1.mono ?_
  rintro e W1 ⟨rfl, hK1, hst1⟩
  have H1 := Lib.hid (And.intro hK1 hst1)
  clear hK1 hst1
  go_wp2_with fail
  go_loopg [8] (vsize v) (SmRel W0 B (w.heap.size + 4) (w.heap.size + 2) R)
  case atStart =>
    have hR := H0.out.2.2.2.2.1
    refine ⟨aloneV v v', rfl, H1.out.1, ?_⟩
    cases ha : aloneV v v'
    · rw [ha] at hR
      exact .inl ⟨rfl, by rw [← hR]; rfl⟩
    · obtain ⟨st, ov, h1, h2, h3⟩ := H1.out.2 ha
      rw [ha] at hR
      exact .inr ⟨rfl, st, ov, h1, by rw [h2, ← hR]; simp [within], by simpa [weigh] using h3, hsz⟩
  case round =>
    obtain ⟨sb, rfl, hK, ⟨rfl, hRf⟩ | ⟨rfl, st, ov, hW, hwi, hwk, hk1⟩⟩ := hrel
    · have HX := Lib.hid (And.intro hK hRf)
      clear hK hRf
      go_wp2_with fail
      go_ret
      have hb0 := H0.out.2.1
      exact ⟨by rw [HX.out.2]; rfl, hb0.trans ⟨HX.out.1.os, HX.out.1.tape, HX.out.1.output, HX.out.1.size, fun k hk => HX.out.1.block k (by omega) (by omega)⟩⟩
    · have hz0 := H0.out.2.2.2.2.2.1
      have hzr : w.heap.size + 4 ≤ wr.heap.size := by have := hK.size; omega
      have cg := hW.box.cell 0
      have fg := hW.box.frozen 0
      simp at cg
      have hgr : w.heap.size + 2 < wr.heap.size := by omega
      clear hz0
      rcases nil_or_snoc st with rfl | ⟨st', ⟨⟨x, x'⟩, ⟨oc, oc'⟩⟩, rfl⟩
      · have hv0 : ∃ aa c', ov = .slice aa 0 c' := by
          rcases Go.Joins.ownsRow_forms hW.own with ⟨rfl, _⟩ | ⟨g', cap, rfl⟩ <;> exact ⟨_, _, rfl⟩
        obtain ⟨aa, c', rfl⟩ := hv0
        have HX := Lib.hid (And.intro hK hwi)
        clear hK hwi hwk hW
        go_wp2_with fail
        go_ret
        have hb0 := H0.out.2.1
        exact ⟨by rw [← HX.out.2]; rfl, hb0.trans ⟨HX.out.1.os, HX.out.1.tape, HX.out.1.output, HX.out.1.size, fun k hk => HX.out.1.block k (by omega) (by omega)⟩⟩
      · obtain ⟨gO, cap, rfl, hgO, hgOl⟩ := hW.own.form (by simp)
        have hlen : (st' ++ [((x, x'), (oc, oc'))]).length = st'.length + 1 := by simp
        have hcap : st'.length + 1 ≤ cap := by
          rcases hW.own.2 with ⟨e, _⟩ | ⟨g', cap', cur, e, _, _, hnc, _⟩
          · cases e
          · injection e with e1 e2 e3; rw [e3]; simpa using hnc
        have hcell : ∀ q, q < 12 → wr.cell? ⟨gO, st'.length * 12 + q, none⟩ = (duo12 ((x, x'), (oc, oc')))[q]? := fun q hq => by
          rw [hW.own.cellAt (st'.length * 12 + q) (by simp; omega), flat_get duo12 12 duo12_len _ _ _ (by simp) hq]
          simp
        have hvals := hW.vals ((x, x'), (oc, oc')) (by simp)
        have hkind := hW.kinds ((x, x'), (oc, oc')) (by simp)
        rw [within_push] at hwi
        rw [weigh_append] at hwk
        simp only [weigh, Nat.add_zero] at hwk
        rw [hlen] at hW cg
        have hstl := weigh_len st'
        have hsl : st'.length ≤ 1000000 := by omega
        clear hstl
        obtain ⟨pk, py, pn, pt, pa, pla, pca, pb, plb, pcb⟩ := oc
        obtain ⟨rk, ry, rn, rt, ra, rla, rca, rb, rlb, rcb⟩ := oc'
        have c0 : wr.cell? ⟨gO, st'.length * 12, none⟩ = some (.int .i64 pk) := hcell 0 (by omega)
        have c1 : wr.cell? ⟨gO, st'.length * 12 + 1, none⟩ = some (.bool py) := hcell 1 (by omega)
        have c2 : wr.cell? ⟨gO, st'.length * 12 + 2, none⟩ = some (.int .i64 pn) := hcell 2 (by omega)
        have c3 : wr.cell? ⟨gO, st'.length * 12 + 3, none⟩ = some (.string pt) := hcell 3 (by omega)
        have c4 : wr.cell? ⟨gO, st'.length * 12 + 4, none⟩ = some (.slice pa pla pca) := hcell 4 (by omega)
        have c5 : wr.cell? ⟨gO, st'.length * 12 + 5, none⟩ = some (.slice pb plb pcb) := hcell 5 (by omega)
        have c6 : wr.cell? ⟨gO, st'.length * 12 + 6, none⟩ = some (.int .i64 rk) := hcell 6 (by omega)
        have c7 : wr.cell? ⟨gO, st'.length * 12 + 7, none⟩ = some (.bool ry) := hcell 7 (by omega)
        have c8 : wr.cell? ⟨gO, st'.length * 12 + 8, none⟩ = some (.int .i64 rn) := hcell 8 (by omega)
        have c9 : wr.cell? ⟨gO, st'.length * 12 + 9, none⟩ = some (.string rt) := hcell 9 (by omega)
        have c10 : wr.cell? ⟨gO, st'.length * 12 + 10, none⟩ = some (.slice ra rla rca) := hcell 10 (by omega)
        have c11 : wr.cell? ⟨gO, st'.length * 12 + 11, none⟩ = some (.slice rb rlb rcb) := hcell 11 (by omega)
        obtain ⟨W9, hW9⟩ : ∃ W9, (wr.setCell ⟨w.heap.size + 1 + 1, 0, none⟩ (.slice (some ⟨gO, 0, none⟩) st'.length cap)).alloc (.cells #[.int .i64 pk, .bool py, .int .i64 pn, .string pt, .slice pa pla pca, .slice pb plb pcb, .int .i64 rk, .bool ry, .int .i64 rn, .string rt, .slice ra rla rca, .slice rb rlb rcb] 88) = W9 := ⟨_, rfl⟩
        have hpop := Waits.pop (g := w.heap.size + 1 + 1) hW (by omega) (by omega) hzr (.cells #[.int .i64 pk, .bool py, .int .i64 pn, .string pt, .slice pa pla pca, .slice pb plb pcb, .int .i64 rk, .bool ry, .int .i64 rn, .string rt, .slice ra rla rca, .slice rb rlb rcb] 88)
        rw [hW9] at hpop
        have hK9 := hK.trans hpop.2
        have hhc9 := (hK9.cell (p := ⟨w.heap.size + 3, 0, none⟩) (by show w.heap.size + 3 < w.heap.size + 4; omega) (by show w.heap.size + 3 ≠ w.heap.size + 2; omega)).trans H0.out.2.2.1
        have hhcr := (hK.cell (p := ⟨w.heap.size + 3, 0, none⟩) (by show w.heap.size + 3 < w.heap.size + 4; omega) (by show w.heap.size + 3 ≠ w.heap.size + 2; omega)).trans H0.out.2.2.1
        have hhcr2 : wr.cell? ⟨w.heap.size + 1 + 1 + 1, 0, none⟩ = some (.func (Fn.func 45) #[] #[.pointer (some ⟨w.heap.size + 1 + 1, 0, none⟩)]) := hhcr
        have hlt3 : w.heap.size + 1 + 1 + 1 < wr.heap.size := by omega
        have hne3 : w.heap.size + 1 + 1 + 1 ≠ w.heap.size + 1 + 1 := by omega
        clear hhcr
        have hv1 := val_kept hvals.1 hpop.2 (by omega) (by omega)
        have hv2 := val_kept hvals.2 hpop.2 (by omega) (by omega)
        have hz9 := hpop.2.size
        dsimp only at hv1 hv2 hkind hwi hwk
        cases x with
        | mk k y m t l mp =>
        cases x' with
        | mk k' y' m' t' l' mp' =>
        rw [Val] at hv1 hv2
        obtain ⟨A1, d1, A2, d2, e6, ⟨_, _, _, hl, hm, -, -⟩, hvl, hvm⟩ := hv1
        obtain ⟨A3, d3, A4, d4, e7, ⟨_, _, _, hl', hm', -, -⟩, hvl', hvm'⟩ := hv2
        simp only [C6.arr, Array.mk.injEq, List.cons.injEq, Value.int.injEq, Value.bool.injEq, Value.string.injEq, Value.slice.injEq, true_and, and_true] at e6 e7
        obtain ⟨rfl, rfl, rfl, rfl, ⟨rfl, rfl, rfl⟩, rfl, rfl, rfl⟩ := e6
        obtain ⟨rfl, rfl, rfl, rfl, ⟨rfl, rfl, rfl⟩, rfl, rfl, rfl⟩ := e7
        simp only [V.kind] at hkind
        rw [innerV] at hwi
        rw [vsize] at hwk
        rcases hkind with rfl | rfl
        · rw [if_pos rfl] at hwi
          rw [if_pos rfl, if_neg (by omega)] at hwk
          have hEq := eqL_any B (w.heap.size + 4) (w.heap.size + 2) st' (.slice (some ⟨gO, 0, none⟩) st'.length cap) l l' pa ra pca rca W9 hpop.1 hvl hvl' (by omega) (by omega) (by omega) (by omega) hl hl'
          unfold EqAns at hEq
          have HX := Lib.hid (And.intro hEq (And.intro hK9 (And.intro hwi (And.intro hwk hW9))))
          clear hEq hK9 hwi hwk hW9 hpop hK hW hvals hvl hvl' hvm hvm' hcell hlen hhc9
          go_wp2_with fail
          rw [HX.out.2.2.2.2]
          refine HX.out.1.mono ?_
          rintro e W10 ⟨ok, rfl, hK10, hno, hyes⟩
          have HY := Lib.hid (And.intro (HX.out.2.1.trans hK10) (And.intro hno hyes))
          clear hK10 hno hyes
          go_wp2_with fail
          go_roundg (gk - 1)
          case rel =>
            obtain ⟨-, hK9, hwi, hwk, -⟩ := HX.out
            refine ⟨ok, rfl, HY.out.1, ?_⟩
            cases ok
            · exact .inl ⟨rfl, by rw [← hwi]; exact HY.out.2.1 rfl⟩
            · obtain ⟨s2, ov2, h1, h2, h3⟩ := HY.out.2.2 rfl
              exact .inr ⟨rfl, s2, ov2, h1, by rw [h2, hwi], by omega, by omega⟩
          case measure => have := HX.out.2.2.2.1; omega
        · rw [if_neg (by omega), if_pos rfl] at hwi
          rw [if_neg (by omega), if_pos rfl] at hwk
          have hEq := eqM_any B (w.heap.size + 4) (w.heap.size + 2) (w.heap.size + 3) st' (.slice (some ⟨gO, 0, none⟩) st'.length cap) mp mp' pb rb pcb rcb W9 hpop.1 hvm hvm' (by omega) (by omega) (by omega) (by omega) hm hm' (by omega) (by omega) hhc9
          unfold EqAns at hEq
          have HX := Lib.hid (And.intro hEq (And.intro hK9 (And.intro hwi (And.intro hwk hW9))))
          clear hEq hK9 hwi hwk hW9 hpop hK hW hvals hvl hvl' hvm hvm' hcell hlen hhc9
          go_wp2_with fail
          rw [HX.out.2.2.2.2]
          refine HX.out.1.mono ?_
          rintro e W10 ⟨ok, rfl, hK10, hno, hyes⟩
          have HY := Lib.hid (And.intro (HX.out.2.1.trans hK10) (And.intro hno hyes))
          clear hK10 hno hyes
          go_wp2_with fail
          go_roundg (gk - 1)
          case rel =>
            obtain ⟨-, hK9, hwi, hwk, -⟩ := HX.out
            refine ⟨ok, rfl, HY.out.1, ?_⟩
            cases ok
            · exact .inl ⟨rfl, by rw [← hwi]; exact HY.out.2.1 rfl⟩
            · obtain ⟨s2, ov2, h1, h2, h3⟩ := HY.out.2.2 rfl
              exact .inr ⟨rfl, s2, ov2, h1, by rw [h2, hwi], by omega, by omega⟩
          case measure => have := HX.out.2.2.2.1; omega
end Go.Proofs.YtdpohklklmkjbaaDoor

namespace Go.Proofs.YtdpohklklmkjbaaDoor
open Go.RowKit Go.Lib
set_option linter.unusedVariables false
set_option linter.unusedSimpArgs false

theorem Whole.onS {w w' : World} {g : Nat} {t : TypeId} {cs : Array Value} (h : Whole w g t cs) (hb : Below w.heap.size w w') : Whole w' g t cs := h.below hb h.lt

abbrev Z6 : Obj := .cells #[.int .i64 0, .bool false, .int .i64 0, .string ⟨#[]⟩, .slice none 0 0, .slice none 0 0] 38
/-- A call at a world that is W, or W with one box more, or two. -/
theorem ends0 {W W' : World} (hb : Below W.heap.size W W') : Below W.heap.size W W' := hb
theorem ends0d {W W' : World} (hb : Below W.drew.heap.size W.drew W') : Below W.heap.size W W' := ((Below.refl W.heap.size W).drew).trans hb
theorem ends1 {W W' : World} {o : Obj} (hb : Below (W.alloc o).heap.size (W.alloc o) W') : Below W.heap.size W W' := ((Below.refl W.heap.size W).alloc (Nat.le_refl _) o).trans (hb.mono (by simp))
theorem ends2 {W W' : World} {o o' : Obj} (hb : Below ((W.alloc o).alloc o').heap.size ((W.alloc o).alloc o') W') : Below W.heap.size W W' := (((Below.refl W.heap.size W).alloc (Nat.le_refl _) o).alloc (by simp) o').trans (hb.mono (by simp; omega))
theorem ends1d {W W' : World} {o : Obj} (hb : Below (W.drew.alloc o).heap.size (W.drew.alloc o) W') : Below W.heap.size W W' := ends0d (W := W) (ends1 hb)
theorem ends2d {W W' : World} {o o' : Obj} (hb : Below ((W.drew.alloc o).alloc o').heap.size ((W.drew.alloc o).alloc o') W') : Below W.heap.size W W' := ends0d (W := W) (ends2 hb)
theorem box1 {W W' : World} (hb : Below (W.alloc Z6).heap.size (W.alloc Z6) W') : Whole W' W.heap.size 38 zero6 := (Whole.made W 38 zero6).below hb (by simp)
theorem box2 {W W' : World} (hb : Below ((W.alloc Z6).alloc Z6).heap.size ((W.alloc Z6).alloc Z6) W') : Whole W' W.heap.size 38 zero6 ∧ Whole W' (W.heap.size + 1) 38 zero6 :=
  ⟨((Whole.made W 38 zero6).alloc Z6).below hb (by simp; omega), by
    have := (Whole.made (W.alloc Z6) 38 zero6).below hb (by simp)
    simpa using this⟩
theorem undrew {X W' : World} (hb : Below X.drew.heap.size X.drew W') : Below X.heap.size X W' := ⟨hb.os, hb.tape, hb.output, hb.size, hb.block⟩
theorem starts1 {B : Nat} {w W : World} (h : Below B w W) (hB : B ≤ W.heap.size) (o : Obj) : Below B w (W.alloc o) := h.alloc hB o
theorem starts2 {B : Nat} {w W : World} (h : Below B w W) (hB : B ≤ W.heap.size) (o o' : Obj) : Below B w ((W.alloc o).alloc o') := (h.alloc hB o).alloc (by simp; omega) o'
theorem real_from {W3 W : World} {v : V} {cs : Array Value} (hW : Below W3.heap.size W3 W) (h : Calls Tryd.prog 13 #[.agg cs] W fun e w' => (∃ o : C6, e = .returned (.agg o.arr) ∧ Val w' (fun b => W.heap.size ≤ b ∧ b < w'.heap.size) 1000000 v o.arr) ∧ Below W.heap.size W w') :
    Calls Tryd.prog 13 #[.agg cs] W fun e w' => ∃ o : C6, e = .returned (.agg o.arr) ∧ Val w' (fun b => W.heap.size ≤ b ∧ b < w'.heap.size) 1000000 v o.arr ∧ Below W3.heap.size W3 w' ∧ Below W.heap.size W w' :=
  h.mono fun e w' ⟨⟨o, he, hv⟩, hb⟩ => ⟨o, he, hv, hW.trans (hb.mono hW.size), hb⟩
/-- Both values are made, and lie in boxes of their own. -/
def SBox (w : World) (v v' : V) (jarr zarr : Array Value) (p5 p6 : Value) (wx : World) : Prop :=
  ∃ (b5 b6 : Nat) (o o' : C6), p5 = .pointer (some ⟨b5, 0, none⟩) ∧ p6 = .pointer (some ⟨b6, 0, none⟩) ∧ Whole wx b5 38 o.arr ∧ Whole wx b6 38 o'.arr ∧ Val wx (· < wx.heap.size) 1000000 v o.arr ∧ Val wx (· < wx.heap.size) 1000000 v' o'.arr ∧
    Whole wx w.heap.size 25 jarr ∧ Whole wx (w.heap.size + 1) 25 zarr ∧ Below w.heap.size w wx


/-- Six cells, stored one by one. -/
abbrev putB (W : World) (g : Nat) (k : Int) (y : Bool) (n : Int) (t : ByteArray) (a : Option Addr) (la ca : Nat) (b : Option Addr) (lb cb : Nat) : World :=
  (((((W.setCell ⟨g, 0, none⟩ (.int .i64 k)).setCell ⟨g, 1, none⟩ (.bool y)).setCell ⟨g, 2, none⟩ (.int .i64 n)).setCell ⟨g, 3, none⟩ (.string t)).setCell ⟨g, 4, none⟩ (.slice a la ca)).setCell ⟨g, 5, none⟩ (.slice b lb cb)
section
variable {W : World} {g : Nat} {k : Int} {y : Bool} {n : Int} {t : ByteArray} {a : Option Addr} {la ca : Nat} {b : Option Addr} {lb cb : Nat}
theorem putB_size : (putB W g k y n t a la ca b lb cb).heap.size = W.heap.size := by simp [World.setCell]
theorem putB_whole (h : Whole W g 38 zero6) : Whole (putB W g k y n t a la ca b lb cb) g 38 #[.int .i64 k, .bool y, .int .i64 n, .string t, .slice a la ca, .slice b lb cb] := by
  have := (((((h.put 0 (.int .i64 k)).put 1 (.bool y)).put 2 (.int .i64 n)).put 3 (.string t)).put 4 (.slice a la ca)).put 5 (.slice b lb cb)
  simpa [zero6] using this
theorem putB_far {g' : Nat} {T : TypeId} {cs : Array Value} (h : Whole W g' T cs) (hne : g' ≠ g) : Whole (putB W g k y n t a la ca b lb cb) g' T cs :=
  (((((h.other hne _).other hne _).other hne _).other hne _).other hne _).other hne _
theorem putB_cell {p : Addr} (hne : p.block ≠ g) : (putB W g k y n t a la ca b lb cb).cell? p = W.cell? p := by
  have far : ∀ (W : World) (o : Nat) (u : Value), (W.setCell ⟨g, o, none⟩ u).cell? p = W.cell? p := fun W o u => World.cell?_setCell_other W _ p u (fun e => hne (by rw [← e]))
  unfold putB
  rw [far, far, far, far, far, far]
theorem putB_below {B : Nat} {w : World} (h : Below B w W) (hB : B ≤ g) : Below B w (putB W g k y n t a la ca b lb cb) :=
  (((((h.setCell hB _).setCell hB _).setCell hB _).setCell hB _).setCell hB _).setCell hB _
end
/-- What is known behind both calls. -/
structure Twice (w W3 W4 W5 : World) (v v' : V) (jarr zarr : Array Value) (lo lo' : Nat) (o o' : Array Value) : Prop where
  k45 : Below W4.heap.size W4 W5
  ho : Val W4 (fun b => lo ≤ b ∧ b < W4.heap.size) 1000000 v o
  ho' : Val W5 (fun b => lo' ≤ b ∧ b < W5.heap.size) 1000000 v' o'
  low : lo ≤ W4.heap.size
  low' : lo' ≤ W5.heap.size
  wj : Whole W5 w.heap.size 25 jarr
  wz : Whole W5 (w.heap.size + 1) 25 zarr
  hb : Below w.heap.size w W5
section
variable {w W3 W4 W5 : World} {v v' : V} {jarr zarr : Array Value} {lo lo' g g' : Nat} {k : Int} {y : Bool} {n : Int} {t : ByteArray} {a : Option Addr} {la ca : Nat} {b : Option Addr} {lb cb : Nat} {k' : Int} {y' : Bool} {n' : Int} {t' : ByteArray} {a' : Option Addr} {la' ca' : Nat} {b' : Option Addr} {lb' cb' : Nat}
abbrev arr6 (k : Int) (y : Bool) (n : Int) (t : ByteArray) (a : Option Addr) (la ca : Nat) (b : Option Addr) (lb cb : Nat) : Array Value := #[.int .i64 k, .bool y, .int .i64 n, .string t, .slice a la ca, .slice b lb cb]
theorem twice_keep {wx : World} {P P' : Array Value} (H : Twice w W3 W4 W5 v v' jarr zarr lo lo' P P') (hc : ∀ p : Addr, (lo ≤ p.block ∧ p.block < W4.heap.size ∨ lo' ≤ p.block ∧ p.block < W5.heap.size) → wx.cell? p = W5.cell? p) (hs : W5.heap.size ≤ wx.heap.size) :
    Val wx (· < wx.heap.size) 1000000 v P ∧ Val wx (· < wx.heap.size) 1000000 v' P' := by
  have h1 := H.k45.size
  exact ⟨H.ho.keep (fun p hp => (hc p (.inl hp)).trans (H.k45.cell hp.2)) (fun b hb => by have := hb.2; omega), H.ho'.keep (fun p hp => hc p (.inr hp)) (fun b hb => by have := hb.2; omega)⟩
theorem sbox_C (H : Twice w W3 W4 W5 v v' jarr zarr lo lo' (arr6 k y n t a la ca b lb cb) (arr6 k' y' n' t' a' la' ca' b' lb' cb')) (hg : Whole W5 g 38 zero6) (hg' : Whole W5 g' 38 zero6) (hne : g ≠ g') (n1 : g < lo ∨ W4.heap.size ≤ g) (n1' : g' < lo ∨ W4.heap.size ≤ g') (n2 : g < lo') (n2' : g' < lo') (h2 : w.heap.size + 2 ≤ g) (h2' : w.heap.size + 2 ≤ g') :
    SBox w v v' jarr zarr (.pointer (some ⟨g, 0, none⟩)) (.pointer (some ⟨g', 0, none⟩)) (putB (putB W5 g k y n t a la ca b lb cb) g' k' y' n' t' a' la' ca' b' lb' cb') := by
  have hv := twice_keep (wx := putB (putB W5 g k y n t a la ca b lb cb) g' k' y' n' t' a' la' ca' b' lb' cb') H (fun p hp => by rw [putB_cell (by omega), putB_cell (by omega)]) (by rw [putB_size, putB_size]; exact Nat.le_refl _)
  exact ⟨g, g', ⟨k, y, n, t, a, la, ca, b, lb, cb⟩, ⟨k', y', n', t', a', la', ca', b', lb', cb'⟩, rfl, rfl, putB_far (putB_whole hg) hne, putB_whole (putB_far hg' (Ne.symm hne)), hv.1, hv.2, putB_far (putB_far H.wj (by omega)) (by omega), putB_far (putB_far H.wz (by omega)) (by omega), putB_below (putB_below H.hb (by omega)) (by omega)⟩
theorem sbox_B (H : Twice w W3 W4 W5 v v' jarr zarr lo lo' (arr6 k y n t a la ca b lb cb) (arr6 k' y' n' t' a' la' ca' b' lb' cb')) (hg : Whole W5 g 38 zero6) (n1 : g < lo ∨ W4.heap.size ≤ g) (n2 : g < lo') (h2 : w.heap.size + 2 ≤ g) :
    SBox w v v' jarr zarr (.pointer (some ⟨g, 0, none⟩)) (.pointer (some ⟨W5.heap.size, 0, none⟩)) ((putB W5 g k y n t a la ca b lb cb).alloc (.cells (arr6 k' y' n' t' a' la' ca' b' lb' cb') 38)) := by
  have hz : (putB W5 g k y n t a la ca b lb cb).heap.size = W5.heap.size := putB_size
  have hl := H.low
  have h45 := H.k45.size
  have hv := twice_keep (wx := (putB W5 g k y n t a la ca b lb cb).alloc (.cells (arr6 k' y' n' t' a' la' ca' b' lb' cb') 38)) H (fun p hp => by rw [World.cell?_alloc_lt _ _ _ (by rw [hz]; omega), putB_cell (by omega)]) (by simp only [World.alloc, Array.size_push]; omega)
  have hm := Whole.made (putB W5 g k y n t a la ca b lb cb) 38 (arr6 k' y' n' t' a' la' ca' b' lb' cb')
  rw [hz] at hm
  exact ⟨g, W5.heap.size, ⟨k, y, n, t, a, la, ca, b, lb, cb⟩, ⟨k', y', n', t', a', la', ca', b', lb', cb'⟩, rfl, rfl, (putB_whole hg).alloc _, hm, hv.1, hv.2, (putB_far H.wj (by omega)).alloc _, (putB_far H.wz (by omega)).alloc _, (putB_below H.hb (by omega)).alloc (by rw [hz]; exact H.hb.size) _⟩
theorem sbox_B' (H : Twice w W3 W4 W5 v v' jarr zarr lo lo' (arr6 k y n t a la ca b lb cb) (arr6 k' y' n' t' a' la' ca' b' lb' cb')) (hg : Whole W5 g 38 zero6) (n1 : g < lo ∨ W4.heap.size ≤ g) (n2 : g < lo') (h2 : w.heap.size + 2 ≤ g) :
    SBox w v v' jarr zarr (.pointer (some ⟨W5.heap.size, 0, none⟩)) (.pointer (some ⟨g, 0, none⟩)) ((putB W5 g k' y' n' t' a' la' ca' b' lb' cb').alloc (.cells (arr6 k y n t a la ca b lb cb) 38)) := by
  have hz : (putB W5 g k' y' n' t' a' la' ca' b' lb' cb').heap.size = W5.heap.size := putB_size
  have hl := H.low
  have h45 := H.k45.size
  have hv := twice_keep (wx := (putB W5 g k' y' n' t' a' la' ca' b' lb' cb').alloc (.cells (arr6 k y n t a la ca b lb cb) 38)) H (fun p hp => by rw [World.cell?_alloc_lt _ _ _ (by rw [hz]; omega), putB_cell (by omega)]) (by simp only [World.alloc, Array.size_push]; omega)
  have hm := Whole.made (putB W5 g k' y' n' t' a' la' ca' b' lb' cb') 38 (arr6 k y n t a la ca b lb cb)
  rw [hz] at hm
  exact ⟨W5.heap.size, g, ⟨k, y, n, t, a, la, ca, b, lb, cb⟩, ⟨k', y', n', t', a', la', ca', b', lb', cb'⟩, rfl, rfl, hm, (putB_whole hg).alloc _, hv.1, hv.2, (putB_far H.wj (by omega)).alloc _, (putB_far H.wz (by omega)).alloc _, (putB_below H.hb (by omega)).alloc (by rw [hz]; exact H.hb.size) _⟩
theorem sbox_A (H : Twice w W3 W4 W5 v v' jarr zarr lo lo' (arr6 k y n t a la ca b lb cb) (arr6 k' y' n' t' a' la' ca' b' lb' cb')) :
    SBox w v v' jarr zarr (.pointer (some ⟨W5.heap.size, 0, none⟩)) (.pointer (some ⟨W5.heap.size + 1, 0, none⟩)) ((W5.alloc (.cells (arr6 k y n t a la ca b lb cb) 38)).alloc (.cells (arr6 k' y' n' t' a' la' ca' b' lb' cb') 38)) := by
  have h45 := H.k45.size
  have hbb : Below W5.heap.size W5 ((W5.alloc (.cells (arr6 k y n t a la ca b lb cb) 38)).alloc (.cells (arr6 k' y' n' t' a' la' ca' b' lb' cb') 38)) := ((Below.refl _ _).alloc (Nat.le_refl _) _).alloc (by simp) _
  have hv := twice_keep H (fun p hp => hbb.cell (show p.block < W5.heap.size by omega)) hbb.size
  have hm := Whole.made (W5.alloc (.cells (arr6 k y n t a la ca b lb cb) 38)) 38 (arr6 k' y' n' t' a' la' ca' b' lb' cb')
  rw [show (W5.alloc (.cells (arr6 k y n t a la ca b lb cb) 38)).heap.size = W5.heap.size + 1 by simp] at hm
  exact ⟨_, _, ⟨k, y, n, t, a, la, ca, b, lb, cb⟩, ⟨k', y', n', t', a', la', ca', b', lb', cb'⟩, rfl, rfl, (Whole.made W5 _ _).alloc _, hm, hv.1, hv.2, H.wj.onS hbb, H.wz.onS hbb, H.hb.trans (hbb.mono H.hb.size)⟩
theorem sbox_A' (H : Twice w W3 W4 W5 v v' jarr zarr lo lo' (arr6 k y n t a la ca b lb cb) (arr6 k' y' n' t' a' la' ca' b' lb' cb')) :
    SBox w v v' jarr zarr (.pointer (some ⟨W5.heap.size + 1, 0, none⟩)) (.pointer (some ⟨W5.heap.size, 0, none⟩)) ((W5.alloc (.cells (arr6 k' y' n' t' a' la' ca' b' lb' cb') 38)).alloc (.cells (arr6 k y n t a la ca b lb cb) 38)) := by
  have h45 := H.k45.size
  have hbb : Below W5.heap.size W5 ((W5.alloc (.cells (arr6 k' y' n' t' a' la' ca' b' lb' cb') 38)).alloc (.cells (arr6 k y n t a la ca b lb cb) 38)) := ((Below.refl _ _).alloc (Nat.le_refl _) _).alloc (by simp) _
  have hv := twice_keep H (fun p hp => hbb.cell (show p.block < W5.heap.size by omega)) hbb.size
  have hm := Whole.made (W5.alloc (.cells (arr6 k' y' n' t' a' la' ca' b' lb' cb') 38)) 38 (arr6 k y n t a la ca b lb cb)
  rw [show (W5.alloc (.cells (arr6 k' y' n' t' a' la' ca' b' lb' cb') 38)).heap.size = W5.heap.size + 1 by simp] at hm
  exact ⟨_, _, ⟨k, y, n, t, a, la, ca, b, lb, cb⟩, ⟨k', y', n', t', a', la', ca', b', lb', cb'⟩, rfl, rfl, hm, (Whole.made W5 _ _).alloc _, hv.1, hv.2, H.wj.onS hbb, H.wz.onS hbb, H.hb.trans (hbb.mono H.hb.size)⟩
end
theorem from_ {f : Nat} {args : Array Value} {wc W : World} {x : Ending} (hW : Below wc.heap.size wc W) (h : Calls Tryd.prog f args W fun e w' => e = x ∧ Below W.heap.size W w') : Calls Tryd.prog f args W fun e w' => e = x ∧ Below wc.heap.size wc w' :=
  h.mono fun e w' ⟨he, hb⟩ => ⟨he, hW.trans (hb.mono hW.size)⟩
/-- A copy, and behind it whether it is the same. -/
def CopySame (cs : Array Value) (wc : World) (e : Ending) (w' : World) : Prop :=
  ∃ o : C6, e = .returned (.agg o.arr) ∧ Below wc.heap.size wc w' ∧ Calls Tryd.prog 24 #[.agg cs, .agg o.arr] w' fun e w'' => e = .returned (.bool true) ∧ Below w'.heap.size w' w''
theorem copy_from {wc W : World} {v : V} {cs : Array Value} (hW : Below wc.heap.size wc W) (hv : Val W (· < W.heap.size) 1000000 v cs) (hsz : vsize v ≤ 1000000) : Calls Tryd.prog 17 #[.agg cs] W (CopySame cs wc) := by
  refine (Copy_any v cs W.heap.size W hv (Nat.le_refl _) (by omega)).mono ?_
  rintro e w' ⟨⟨o, rfl, ho⟩, hb⟩
  refine ⟨o, rfl, hW.trans (hb.mono hW.size), ?_⟩
  have := Same_any v (canon v) cs o.arr w'.heap.size w' (val_on hv hb) (ho.keep (fun _ _ => rfl) (fun b hb => hb.2)) (Nat.le_refl _) hsz
  rw [same_symm, same_canon] at this
  exact this
end Go.Proofs.YtdpohklklmkjbaaDoor

namespace Go.Proofs.YtdpohklklmkjbaaDoor
open Go.RowKit Go.Lib
set_option linter.unusedVariables false
set_option linter.unusedSimpArgs false

set_option maxRecDepth 100000 in
set_option maxHeartbeats 8000000 in
theorem lawSames_any (v v' : V) (c c' : C6) (B M : Nat) (w : World) (hM : M ≤ 1000000000) (hw : wgt v ≤ 1000000000) (hw' : wgt v' ≤ 1000000000) (hv : Val w (· < B) M v c.arr) (hv' : Val w (· < B) M v' c'.arr) (hB : B ≤ w.heap.size) (hG : Glob w) :
    Calls Tryd.prog 5 #[.agg c.arr, .agg c'.arr] w fun e w' => e = .returned (.bool true) ∧ Below w.heap.size w w' := by
  obtain ⟨jk, jy, jn, jt, ja, jla, jca, jb, jlb, jcb⟩ := c
  obtain ⟨zk, zy, zn, zt, za, zla, zca, zb, zlb, zcb⟩ := c'
  have HV := Lib.hid (And.intro hv (And.intro hv' hG))
  have HF := Lib.hid (fun W (hW : Below w.heap.size w W) => few_any M hM 300 (by omega) v _ B W hw (hv.keep (fun p hp => hW.cell (Nat.lt_of_lt_of_le hp hB)) (fun _ h => h)) (Nat.le_trans hB hW.size))
  have HF' := Lib.hid (fun W (hW : Below w.heap.size w W) => few_any M hM 300 (by omega) v' _ B W hw' (hv'.keep (fun p hp => hW.cell (Nat.lt_of_lt_of_le hp hB)) (fun _ h => h)) (Nat.le_trans hB hW.size))
  obtain ⟨W0, hW0⟩ : ∃ W0, (w.alloc (.cells #[.int .i64 jk, .bool jy, .int .i64 jn, .string jt, .slice ja jla jca, .slice jb jlb jcb] 25)).alloc (.cells #[.int .i64 zk, .bool zy, .int .i64 zn, .string zt, .slice za zla zca, .slice zb zlb zcb] 25) = W0 := ⟨_, rfl⟩
  have hb0 : Below w.heap.size w W0 := hW0 ▸ ((Below.refl _ _).alloc (Nat.le_refl _) _).alloc (by simp) _
  have hwj : Whole W0 w.heap.size 25 #[.int .i64 jk, .bool jy, .int .i64 jn, .string jt, .slice ja jla jca, .slice jb jlb jcb] := hW0 ▸ (Whole.made w _ _).alloc _
  have hwi : Whole W0 (w.heap.size + 1) 25 #[.int .i64 zk, .bool zy, .int .i64 zn, .string zt, .slice za zla zca, .slice zb zlb zcb] := by
    have := Whole.made (w.alloc (.cells #[.int .i64 jk, .bool jy, .int .i64 jn, .string jt, .slice ja jla jca, .slice jb jlb jcb] 25)) 25 #[.int .i64 zk, .bool zy, .int .i64 zn, .string zt, .slice za zla zca, .slice zb zlb zcb]
    rw [hW0] at this
    simpa using this
  have H0 := Lib.hid (And.intro hb0 (And.intro hwj (And.intro hwi hW0)))
  clear hv hv' hG hW0 hb0 hwj hwi
  dsimp only [C6.arr] at HF HF' HV ⊢
  by_cases h300 : wgt v ≤ 300
  · have hdec : decide (wgt v ≤ 300) = true := decide_eq_true h300
    rw [hdec] at HF
    by_cases h300' : wgt v' ≤ 300
    · have hdec' : decide (wgt v' ≤ 300) = true := decide_eq_true h300'
      rw [hdec'] at HF'
      have hsm := HV.out.1.small (K := 300) (by omega) h300
      have hsm' := HV.out.2.1.small (K := 300) (by omega) h300'
      have HS := Lib.hid (And.intro hsm (And.intro hsm' (And.intro h300 (And.intro h300' hB))))
      have HR := Lib.hid (fun W (hW : Below w.heap.size w W) => real_any 300 v _ B W h300 (by omega) (hsm.keep (fun p hp => hW.cell (Nat.lt_of_lt_of_le hp hB)) (fun _ h => h)) (Nat.le_trans hB hW.size))
      have HR' := Lib.hid (fun W (hW : Below w.heap.size w W) => real_any 300 v' _ B W h300' (by omega) (hsm'.keep (fun p hp => hW.cell (Nat.lt_of_lt_of_le hp hB)) (fun _ h => h)) (Nat.le_trans hB hW.size))
      unfold RealAns at HR HR'
      clear hdec hdec' hsm hsm'
      go_enter Tryd.func5, Tryd.ntmps5
      go_wp2_with fail
      rw [H0.out.2.2.2]
      refine (awake_any W0 (HV.out.2.2.below H0.out.1)).mono ?_
      rintro e W1 ⟨rfl, hb1⟩
      have HD1 := Lib.hid (And.intro (H0.out.2.1.onS hb1) (And.intro (H0.out.2.2.1.onS hb1) (H0.out.1.trans (hb1.mono H0.out.1.size))))
      obtain ⟨x0, x1, x2, x3, x4, x5⟩ := HD1.out.1.six
      have hz1 : w.heap.size < W1.heap.size := HD1.out.1.lt
      clear hb1
      go_wp2_with fail
      refine (HF.out W1 HD1.out.2.2).mono ?_
      rintro e W2 ⟨rfl, hb2⟩
      have HD2 := Lib.hid (And.intro (HD1.out.1.onS hb2) (And.intro (HD1.out.2.1.onS hb2) (HD1.out.2.2.trans (hb2.mono HD1.out.2.2.size))))
      clear x0 x1 x2 x3 x4 x5 hb2
      obtain ⟨y0, y1, y2, y3, y4, y5⟩ := HD2.out.2.1.six
      have hz2 : w.heap.size + 1 < W2.heap.size := HD2.out.2.1.lt
      go_wp2_with fail
      refine (HF'.out W2 HD2.out.2.2).mono ?_
      rintro e W3 ⟨rfl, hb3⟩
      have HD3 := Lib.hid (And.intro (HD2.out.1.onS hb3) (And.intro (HD2.out.2.1.onS hb3) (HD2.out.2.2.trans (hb3.mono HD2.out.2.2.size))))
      clear y0 y1 y2 y3 y4 y5 hb3
      obtain ⟨x0, x1, x2, x3, x4, x5⟩ := HD3.out.1.six
      obtain ⟨y0, y1, y2, y3, y4, y5⟩ := HD3.out.2.1.six
      have hz3 : w.heap.size < W3.heap.size := HD3.out.1.lt
      have hz3' : w.heap.size + 1 < W3.heap.size := HD3.out.2.1.lt
      clear hz1 hz2
      go_wp2_with fail
      have hSof : ∀ W, Below W3.heap.size W3 W → W.cell? ⟨w.heap.size, 0, none⟩ = some (.int .i64 jk) ∧ W.cell? ⟨w.heap.size, 1, none⟩ = some (.bool jy) ∧ W.cell? ⟨w.heap.size, 2, none⟩ = some (.int .i64 jn) ∧ W.cell? ⟨w.heap.size, 3, none⟩ = some (.string jt) ∧ W.cell? ⟨w.heap.size, 4, none⟩ = some (.slice ja jla jca) ∧ W.cell? ⟨w.heap.size, 5, none⟩ = some (.slice jb jlb jcb) ∧ W.cell? ⟨w.heap.size + 1, 0, none⟩ = some (.int .i64 zk) ∧ W.cell? ⟨w.heap.size + 1, 1, none⟩ = some (.bool zy) ∧ W.cell? ⟨w.heap.size + 1, 2, none⟩ = some (.int .i64 zn) ∧ W.cell? ⟨w.heap.size + 1, 3, none⟩ = some (.string zt) ∧ W.cell? ⟨w.heap.size + 1, 4, none⟩ = some (.slice za zla zca) ∧ W.cell? ⟨w.heap.size + 1, 5, none⟩ = some (.slice zb zlb zcb) := fun W hW => by
        obtain ⟨r0, r1, r2, r3, r4, r5⟩ := (HD3.out.1.onS hW).six
        obtain ⟨s0, s1, s2, s3, s4, s5⟩ := (HD3.out.2.1.onS hW).six
        exact ⟨r0, r1, r2, r3, r4, r5, s0, s1, s2, s3, s4, s5⟩
      have HSof := Lib.hid hSof
      have HR3 := Lib.hid (fun W (hW : Below W3.heap.size W3 W) => real_from hW (HR.out W (HD3.out.2.2.trans (hW.mono HD3.out.2.2.size))))
      have HR3' := Lib.hid (fun W (hW : Below W3.heap.size W3 W) => real_from hW (HR'.out W (HD3.out.2.2.trans (hW.mono HD3.out.2.2.size))))
      have K3 := Lib.hid (Below.refl W3.heap.size W3)
      clear hSof HR HR'
      go_cut [5, 6] (SBox w v v' #[.int .i64 jk, .bool jy, .int .i64 jn, .string jt, .slice ja jla jca, .slice jb jlb jcb] #[.int .i64 zk, .bool zy, .int .i64 zn, .string zt, .slice za zla zca, .slice zb zlb zcb])
      case first =>
       go_region_held3 (fun w' => w'.cell? ⟨w.heap.size, 0, none⟩ = some (.int .i64 jk) ∧ w'.cell? ⟨w.heap.size, 1, none⟩ = some (.bool jy) ∧ w'.cell? ⟨w.heap.size, 2, none⟩ = some (.int .i64 jn) ∧ w'.cell? ⟨w.heap.size, 3, none⟩ = some (.string jt) ∧ w'.cell? ⟨w.heap.size, 4, none⟩ = some (.slice ja jla jca) ∧ w'.cell? ⟨w.heap.size, 5, none⟩ = some (.slice jb jlb jcb) ∧ w'.cell? ⟨w.heap.size + 1, 0, none⟩ = some (.int .i64 zk) ∧ w'.cell? ⟨w.heap.size + 1, 1, none⟩ = some (.bool zy) ∧ w'.cell? ⟨w.heap.size + 1, 2, none⟩ = some (.int .i64 zn) ∧ w'.cell? ⟨w.heap.size + 1, 3, none⟩ = some (.string zt) ∧ w'.cell? ⟨w.heap.size + 1, 4, none⟩ = some (.slice za zla zca) ∧ w'.cell? ⟨w.heap.size + 1, 5, none⟩ = some (.slice zb zlb zcb))
        ((refine HSof.out _ ?_; repeat (first | (with_reducible exact K5.out) | (with_reducible exact K4.out) | (with_reducible exact K3.out) | (with_reducible refine Below.setCell ?_ ?_ _) | (with_reducible refine Below.alloc ?_ ?_ _) | (with_reducible refine Below.drew ?_) | (with_reducible exact Nat.le_refl _) | omega | (focus (simp <;> omega)) | (focus (simp [World.setCell] <;> omega)))))
        (first
          | (go_at_call 13; (fail_if_success (clear K4)); refine (HR3.out _ ?_).mono ?_; (repeat (first | (with_reducible exact K3.out) | (with_reducible refine Below.alloc ?_ ?_ _) | (with_reducible refine Below.drew ?_) | (with_reducible exact Nat.le_refl _) | omega | (focus (simp <;> omega)) | (focus (simp [World.setCell] <;> omega)))); rintro e W4 ⟨⟨ok, oy, on, ot, oa, ola, oca, ob, olb, ocb⟩, rfl, ho, k4, hb⟩
             dsimp only [C6.arr] at ho ⊢
             have K4 := Lib.hid k4
             have HO4 := Lib.hid ho
             have hz4 := k4.size
             (first | (with_reducible have hbu := undrew hb) | (have hbu := hb))
             (first | ((with_reducible have b4 := box2 hbu); have B4 : Whole W4 W3.heap.size 38 zero6 ∧ Whole W4 (W3.heap.size + 1) 38 zero6 := b4; clear b4; have l41 := B4.1.lt; have l42 := B4.2.lt) | ((with_reducible have b4 := box1 hbu); have B4 : Whole W4 W3.heap.size 38 zero6 := b4; clear b4; have l41 := B4.lt) | skip)
             clear ho k4 hb hbu)
          | (go_at_call 13; refine (HR3'.out _ ?_).mono ?_; (repeat (first | (with_reducible exact K4.out) | (with_reducible refine Below.alloc ?_ ?_ _) | (with_reducible refine Below.drew ?_) | (with_reducible exact Nat.le_refl _) | omega | (focus (simp <;> omega)) | (focus (simp [World.setCell] <;> omega)))); rintro e W5 ⟨⟨pk, py, pn, pt, pa, pla, pca, pb, plb, pcb⟩, rfl, ho', k5, hb5⟩
             dsimp only [C6.arr] at ho' ⊢
             have K5 := Lib.hid k5
             have HO5 := Lib.hid ho'
             have hz5 := k5.size
             (first
               | ((with_reducible have k45 := ends2 hb5); (with_reducible have b5 := box2 hb5); have C5 : Whole W5 W4.heap.size 38 zero6 ∧ Whole W5 (W4.heap.size + 1) 38 zero6 := b5; clear b5; obtain ⟨g0, g1, g2, g3, g4, g5⟩ := Whole.six (t := 38) C5.1; have gf0 := C5.1.frozen 0; have gf1 := C5.1.frozen 1; have gf2 := C5.1.frozen 2; have gf3 := C5.1.frozen 3; have gf4 := C5.1.frozen 4; have gf5 := C5.1.frozen 5; have gl := C5.1.lt; obtain ⟨h0, h1, h2, h3, h4, h5⟩ := Whole.six (t := 38) C5.2; have hf0 := C5.2.frozen 0; have hf1 := C5.2.frozen 1; have hf2 := C5.2.frozen 2; have hf3 := C5.2.frozen 3; have hf4 := C5.2.frozen 4; have hf5 := C5.2.frozen 5; have hl := C5.2.lt; have HC5 := Lib.hid C5; clear C5)
               | ((with_reducible have k45 := ends1 hb5); (with_reducible have b5 := box1 hb5); have C5 : Whole W5 W4.heap.size 38 zero6 := b5; clear b5; obtain ⟨g0, g1, g2, g3, g4, g5⟩ := Whole.six (t := 38) C5; have gf0 := C5.frozen 0; have gf1 := C5.frozen 1; have gf2 := C5.frozen 2; have gf3 := C5.frozen 3; have gf4 := C5.frozen 4; have gf5 := C5.frozen 5; have gl := C5.lt; have HC5 := Lib.hid C5; clear C5)
               | (have k45 : Below W4.heap.size W4 W5 := hb5))
             (first
               | (have C4 : Whole W5 W3.heap.size 38 zero6 ∧ Whole W5 (W3.heap.size + 1) 38 zero6 := ⟨B4.1.onS k45, B4.2.onS k45⟩; obtain ⟨m0, m1, m2, m3, m4, m5⟩ := Whole.six (t := 38) C4.1; have mf0 := C4.1.frozen 0; have mf1 := C4.1.frozen 1; have mf2 := C4.1.frozen 2; have mf3 := C4.1.frozen 3; have mf4 := C4.1.frozen 4; have mf5 := C4.1.frozen 5; have ml := C4.1.lt; obtain ⟨n0, n1, n2, n3, n4, n5⟩ := Whole.six (t := 38) C4.2; have nf0 := C4.2.frozen 0; have nf1 := C4.2.frozen 1; have nf2 := C4.2.frozen 2; have nf3 := C4.2.frozen 3; have nf4 := C4.2.frozen 4; have nf5 := C4.2.frozen 5; have nl := C4.2.lt; have HC4 := Lib.hid C4; clear C4 B4)
               | (have C4 : Whole W5 W3.heap.size 38 zero6 := B4.onS k45; obtain ⟨m0, m1, m2, m3, m4, m5⟩ := Whole.six (t := 38) C4; have mf0 := C4.frozen 0; have mf1 := C4.frozen 1; have mf2 := C4.frozen 2; have mf3 := C4.frozen 3; have mf4 := C4.frozen 4; have mf5 := C4.frozen 5; have ml := C4.lt; have HC4 := Lib.hid C4; clear C4 B4)
               | skip)
             have hz45 := k45.size
             have HK45 := Lib.hid k45
             have n1 : W4.heap.size ≠ W3.heap.size ∨ W4.heap.size = W3.heap.size := by omega
             clear n1
             clear ho' k5 hb5 k45))
       all_goals
         have HTw := Lib.hid (Twice.mk (w := w) (W3 := W3) HK45.out HO4.out HO5.out (by first | omega | (simp <;> omega)) (by first | omega | (simp <;> omega)) ((HD3.out.1.onS K5.out)) ((HD3.out.2.1.onS K5.out)) (HD3.out.2.2.trans (K5.out.mono HD3.out.2.2.size)))
         go_wp2_with fail
         go_meet
       · exact sbox_A HTw.out
       · exact sbox_A' HTw.out
       · exact sbox_B HTw.out HC5.out (by first | omega | (simp <;> omega)) (by first | omega | (simp <;> omega)) (by omega)
       · exact sbox_C HTw.out HC5.out.1 HC5.out.2 (by omega) (by first | omega | (simp <;> omega)) (by first | omega | (simp <;> omega)) (by first | omega | (simp <;> omega)) (by first | omega | (simp <;> omega)) (by omega) (by omega)
       · exact sbox_B' HTw.out HC5.out (by first | omega | (simp <;> omega)) (by first | omega | (simp <;> omega)) (by omega)
       · exact sbox_C HTw.out HC5.out.2 HC5.out.1 (by omega) (by first | omega | (simp <;> omega)) (by first | omega | (simp <;> omega)) (by first | omega | (simp <;> omega)) (by first | omega | (simp <;> omega)) (by omega) (by omega)
       · exact sbox_B HTw.out HC4.out (by first | omega | (simp <;> omega)) (by first | omega | (simp <;> omega)) (by omega)
       · exact sbox_C HTw.out HC4.out HC5.out (by omega) (by first | omega | (simp <;> omega)) (by first | omega | (simp <;> omega)) (by first | omega | (simp <;> omega)) (by first | omega | (simp <;> omega)) (by omega) (by omega)
       · exact sbox_C HTw.out HC4.out.1 HC4.out.2 (by omega) (by first | omega | (simp <;> omega)) (by first | omega | (simp <;> omega)) (by first | omega | (simp <;> omega)) (by first | omega | (simp <;> omega)) (by omega) (by omega)
       · exact sbox_B' HTw.out HC4.out (by first | omega | (simp <;> omega)) (by first | omega | (simp <;> omega)) (by omega)
       · exact sbox_C HTw.out HC5.out HC4.out (by omega) (by first | omega | (simp <;> omega)) (by first | omega | (simp <;> omega)) (by first | omega | (simp <;> omega)) (by first | omega | (simp <;> omega)) (by omega) (by omega)
       · exact sbox_C HTw.out HC4.out.2 HC4.out.1 (by omega) (by first | omega | (simp <;> omega)) (by first | omega | (simp <;> omega)) (by first | omega | (simp <;> omega)) (by first | omega | (simp <;> omega)) (by omega) (by omega)
      case rest =>
        obtain ⟨b5, b6, ⟨ok, oy, on, ot, oa, ola, oca, ob, olb, ocb⟩, ⟨pk, py, pn, pt, pa, pla, pca, pb, plb, pcb⟩, rfl, rfl, hw5, hw6, hv5, hv6, hwj, hwz, hbw⟩ := hcut
        dsimp only [C6.arr] at hw5 hw6 hv5 hv6
        have hSo : ∀ W, Below wc.heap.size wc W → W.cell? ⟨b5, 0, none⟩ = some (.int .i64 ok) ∧ W.cell? ⟨b5, 1, none⟩ = some (.bool oy) ∧ W.cell? ⟨b5, 2, none⟩ = some (.int .i64 on) ∧ W.cell? ⟨b5, 3, none⟩ = some (.string ot) ∧ W.cell? ⟨b5, 4, none⟩ = some (.slice oa ola oca) ∧ W.cell? ⟨b5, 5, none⟩ = some (.slice ob olb ocb) ∧ W.cell? ⟨b6, 0, none⟩ = some (.int .i64 pk) ∧ W.cell? ⟨b6, 1, none⟩ = some (.bool py) ∧ W.cell? ⟨b6, 2, none⟩ = some (.int .i64 pn) ∧ W.cell? ⟨b6, 3, none⟩ = some (.string pt) ∧ W.cell? ⟨b6, 4, none⟩ = some (.slice pa pla pca) ∧ W.cell? ⟨b6, 5, none⟩ = some (.slice pb plb pcb) ∧ W.cell? ⟨w.heap.size, 0, none⟩ = some (.int .i64 jk) ∧ W.cell? ⟨w.heap.size, 1, none⟩ = some (.bool jy) ∧ W.cell? ⟨w.heap.size, 2, none⟩ = some (.int .i64 jn) ∧ W.cell? ⟨w.heap.size, 3, none⟩ = some (.string jt) ∧ W.cell? ⟨w.heap.size, 4, none⟩ = some (.slice ja jla jca) ∧ W.cell? ⟨w.heap.size, 5, none⟩ = some (.slice jb jlb jcb) ∧ W.cell? ⟨w.heap.size + 1, 0, none⟩ = some (.int .i64 zk) ∧ W.cell? ⟨w.heap.size + 1, 1, none⟩ = some (.bool zy) ∧ W.cell? ⟨w.heap.size + 1, 2, none⟩ = some (.int .i64 zn) ∧ W.cell? ⟨w.heap.size + 1, 3, none⟩ = some (.string zt) ∧ W.cell? ⟨w.heap.size + 1, 4, none⟩ = some (.slice za zla zca) ∧ W.cell? ⟨w.heap.size + 1, 5, none⟩ = some (.slice zb zlb zcb) := fun W hW => by
          obtain ⟨r0, r1, r2, r3, r4, r5⟩ := (hw5.onS hW).six
          obtain ⟨s0, s1, s2, s3, s4, s5⟩ := (hw6.onS hW).six
          obtain ⟨t0, t1, t2, t3, t4, t5⟩ := (hwj.onS hW).six
          obtain ⟨u0, u1, u2, u3, u4, u5⟩ := (hwz.onS hW).six
          exact ⟨r0, r1, r2, r3, r4, r5, s0, s1, s2, s3, s4, s5, t0, t1, t2, t3, t4, t5, u0, u1, u2, u3, u4, u5⟩
        have hvj : ∀ W, Below wc.heap.size wc W → Val W (· < W.heap.size) 1000000 v #[.int .i64 jk, .bool jy, .int .i64 jn, .string jt, .slice ja jla jca, .slice jb jlb jcb] := fun W hW => HS.out.1.keep (fun p hp => (hbw.trans (hW.mono hbw.size)).cell (Nat.lt_of_lt_of_le hp hB)) (fun b hb => Nat.lt_of_lt_of_le (Nat.lt_of_lt_of_le hb hB) (hbw.trans (hW.mono hbw.size)).size)
        have hvz : ∀ W, Below wc.heap.size wc W → Val W (· < W.heap.size) 1000000 v' #[.int .i64 zk, .bool zy, .int .i64 zn, .string zt, .slice za zla zca, .slice zb zlb zcb] := fun W hW => HS.out.2.1.keep (fun p hp => (hbw.trans (hW.mono hbw.size)).cell (Nat.lt_of_lt_of_le hp hB)) (fun b hb => Nat.lt_of_lt_of_le (Nat.lt_of_lt_of_le hb hB) (hbw.trans (hW.mono hbw.size)).size)
        have hsz : vsize v ≤ 1000000 := by have := vsize_wgt v; omega
        have hsz' : vsize v' ≤ 1000000 := by have := vsize_wgt v'; omega
        have HXY := Lib.hid (fun W (hW : Below wc.heap.size wc W) => from_ hW (Same_any v v' _ _ W.heap.size W (val_on hv5 hW) (val_on hv6 hW) (Nat.le_refl _) hsz))
        have HYX := Lib.hid (fun W (hW : Below wc.heap.size wc W) => from_ hW (Same_any v' v _ _ W.heap.size W (val_on hv6 hW) (val_on hv5 hW) (Nat.le_refl _) hsz'))
        have HXX := Lib.hid (fun W (hW : Below wc.heap.size wc W) => from_ hW (Same_any v v _ _ W.heap.size W (val_on hv5 hW) (val_on hv5 hW) (Nat.le_refl _) hsz))
        have HRS := Lib.hid (fun W (hW : Below wc.heap.size wc W) => from_ hW (refsame_any 300 v v' _ _ W.heap.size W h300 (by omega) (hvj W hW) (hvz W hW) (Nat.le_refl _)))
        have HCP := Lib.hid (fun W (hW : Below wc.heap.size wc W) => copy_from hW (val_on hv5 hW) hsz)
        rw [same_symm v' v] at HYX
        rw [same_refl] at HXX
        unfold CopySame at HCP
        have K0 := Lib.hid (Below.refl wc.heap.size wc)
        have HSo := Lib.hid hSo
        have HBW := Lib.hid hbw
        obtain ⟨R, hR⟩ : ∃ R, same v v' = R := ⟨_, rfl⟩
        rw [hR] at HXY HYX HRS
        have hRR : (R == R) = true := by simp
        clear hSo hvj hvz hw5 hw6 hv5 hv6 hwj hwz hbw hR hsz hsz'
        go_wp2_with fail
        go_region_held3 (fun w' => w'.cell? ⟨b5, 0, none⟩ = some (.int .i64 ok) ∧ w'.cell? ⟨b5, 1, none⟩ = some (.bool oy) ∧ w'.cell? ⟨b5, 2, none⟩ = some (.int .i64 on) ∧ w'.cell? ⟨b5, 3, none⟩ = some (.string ot) ∧ w'.cell? ⟨b5, 4, none⟩ = some (.slice oa ola oca) ∧ w'.cell? ⟨b5, 5, none⟩ = some (.slice ob olb ocb) ∧ w'.cell? ⟨b6, 0, none⟩ = some (.int .i64 pk) ∧ w'.cell? ⟨b6, 1, none⟩ = some (.bool py) ∧ w'.cell? ⟨b6, 2, none⟩ = some (.int .i64 pn) ∧ w'.cell? ⟨b6, 3, none⟩ = some (.string pt) ∧ w'.cell? ⟨b6, 4, none⟩ = some (.slice pa pla pca) ∧ w'.cell? ⟨b6, 5, none⟩ = some (.slice pb plb pcb) ∧ w'.cell? ⟨w.heap.size, 0, none⟩ = some (.int .i64 jk) ∧ w'.cell? ⟨w.heap.size, 1, none⟩ = some (.bool jy) ∧ w'.cell? ⟨w.heap.size, 2, none⟩ = some (.int .i64 jn) ∧ w'.cell? ⟨w.heap.size, 3, none⟩ = some (.string jt) ∧ w'.cell? ⟨w.heap.size, 4, none⟩ = some (.slice ja jla jca) ∧ w'.cell? ⟨w.heap.size, 5, none⟩ = some (.slice jb jlb jcb) ∧ w'.cell? ⟨w.heap.size + 1, 0, none⟩ = some (.int .i64 zk) ∧ w'.cell? ⟨w.heap.size + 1, 1, none⟩ = some (.bool zy) ∧ w'.cell? ⟨w.heap.size + 1, 2, none⟩ = some (.int .i64 zn) ∧ w'.cell? ⟨w.heap.size + 1, 3, none⟩ = some (.string zt) ∧ w'.cell? ⟨w.heap.size + 1, 4, none⟩ = some (.slice za zla zca) ∧ w'.cell? ⟨w.heap.size + 1, 5, none⟩ = some (.slice zb zlb zcb))
          (first | (with_reducible exact HSo.out _ K7c.out) | (with_reducible exact HSo.out _ K6c.out) | (with_reducible exact HSo.out _ K5c.out) | (with_reducible exact HSo.out _ K4c.out) | (with_reducible exact HSo.out _ K3c.out) | (with_reducible exact HSo.out _ K2.out) | (with_reducible exact HSo.out _ K1.out) | (with_reducible exact HSo.out _ K0.out) | (with_reducible exact HSo.out _ K0.out.drew))
          (first
            | (go_at_call 24; (with_reducible refine (HXY.out _ K0.out).mono ?_); rintro e V1 ⟨rfl, hb⟩
               have K1 := Lib.hid hb
               clear hb)
            | (go_at_call 24; (with_reducible refine (HXY.out _ K0.out.drew).mono ?_); rintro e V1 ⟨rfl, hb⟩
               have K1 := Lib.hid hb
               clear hb)
            | (go_at_call 25; (with_reducible refine (HRS.out _ K1.out).mono ?_); rintro e V2 ⟨rfl, hb⟩
               have K2 := Lib.hid hb
               clear hb)
            | (go_at_call 24; (with_reducible refine (HYX.out _ K2.out).mono ?_); rintro e V3 ⟨rfl, hb⟩
               have K3c := Lib.hid hb
               clear hb)
            | (go_at_call 25; (with_reducible refine (HRS.out _ K3c.out).mono ?_); rintro e V4 ⟨rfl, hb⟩
               have K4c := Lib.hid hb
               clear hb)
            | (go_at_call 24; (with_reducible refine (HXX.out _ K4c.out).mono ?_); rintro e V5 ⟨rfl, hb⟩
               have K5c := Lib.hid hb
               clear hb)
            | (go_at_call 17; (with_reducible refine (HCP.out _ K5c.out).mono ?_); rintro e V6 ⟨⟨qk, qy, qn, qt, qa, qla, qca, qb, qlb, qcb⟩, rfl, hb, hsm⟩
               dsimp only [C6.arr] at hsm ⊢
               have K6c := Lib.hid hb
               have HXC := Lib.hid hsm
               clear hb hsm)
            | (go_at_call 24; (with_reducible refine HXC.out.mono ?_); rintro e V7 ⟨rfl, hb⟩
               have K7c := Lib.hid (K6c.out.trans (hb.mono K6c.out.size))
               clear hb))
        go_wp2_with fail
        go_ret
        exact ⟨by simp, HBW.out.trans (K7c.out.mono HBW.out.size)⟩
    · have hdec' : decide (wgt v' ≤ 300) = false := decide_eq_false h300'
      rw [hdec'] at HF'
      clear hdec' h300'
      go_enter Tryd.func5, Tryd.ntmps5
      go_wp2_with fail
      rw [H0.out.2.2.2]
      refine (awake_any W0 (HV.out.2.2.below H0.out.1)).mono ?_
      rintro e W1 ⟨rfl, hb1⟩
      have HD1 := Lib.hid (And.intro (H0.out.2.1.onS hb1) (And.intro (H0.out.2.2.1.onS hb1) (H0.out.1.trans (hb1.mono H0.out.1.size))))
      obtain ⟨x0, x1, x2, x3, x4, x5⟩ := HD1.out.1.six
      have hz1 : w.heap.size < W1.heap.size := HD1.out.1.lt
      clear hb1
      go_wp2_with fail
      refine (HF.out W1 HD1.out.2.2).mono ?_
      rintro e W2 ⟨rfl, hb2⟩
      have HD2 := Lib.hid (And.intro (HD1.out.1.onS hb2) (And.intro (HD1.out.2.1.onS hb2) (HD1.out.2.2.trans (hb2.mono HD1.out.2.2.size))))
      clear x0 x1 x2 x3 x4 x5 hb2
      obtain ⟨y0, y1, y2, y3, y4, y5⟩ := HD2.out.2.1.six
      have hz2 : w.heap.size + 1 < W2.heap.size := HD2.out.2.1.lt
      go_wp2_with fail
      refine (HF'.out W2 HD2.out.2.2).mono ?_
      rintro e W3 ⟨rfl, hb3⟩
      have HD3 := Lib.hid (HD2.out.2.2.trans (hb3.mono HD2.out.2.2.size))
      clear y0 y1 y2 y3 y4 y5 hb3
      go_wp2_with fail
      refine (awake_any W3 (HV.out.2.2.below HD3.out)).mono ?_
      rintro e W4 ⟨rfl, hb4⟩
      go_wp2_with fail
      go_ret
      exact ⟨rfl, HD3.out.trans (hb4.mono HD3.out.size)⟩
  · have hdec : decide (wgt v ≤ 300) = false := decide_eq_false h300
    rw [hdec] at HF
    clear hdec h300
    go_enter Tryd.func5, Tryd.ntmps5
    go_wp2_with fail
    rw [H0.out.2.2.2]
    refine (awake_any W0 (HV.out.2.2.below H0.out.1)).mono ?_
    rintro e W1 ⟨rfl, hb1⟩
    have HD1 := Lib.hid (And.intro (H0.out.2.1.onS hb1) (And.intro (H0.out.2.2.1.onS hb1) (H0.out.1.trans (hb1.mono H0.out.1.size))))
    obtain ⟨x0, x1, x2, x3, x4, x5⟩ := HD1.out.1.six
    have hz1 : w.heap.size < W1.heap.size := HD1.out.1.lt
    clear hb1
    go_wp2_with fail
    refine (HF.out W1 HD1.out.2.2).mono ?_
    rintro e W2 ⟨rfl, hb2⟩
    have HD2 := Lib.hid (And.intro (HD1.out.1.onS hb2) (And.intro (HD1.out.2.1.onS hb2) (HD1.out.2.2.trans (hb2.mono HD1.out.2.2.size))))
    clear x0 x1 x2 x3 x4 x5 hb2
    go_wp2_with fail
    refine (awake_any W2 (HV.out.2.2.below HD2.out.2.2)).mono ?_
    rintro e W3 ⟨rfl, hb3⟩
    go_wp2_with fail
    go_ret
    exact ⟨rfl, HD2.out.2.2.trans (hb3.mono HD2.out.2.2.size)⟩
end Go.Proofs.YtdpohklklmkjbaaDoor

namespace Go.Proofs.YtdpohklklmkjbaaDoor.valueSames
open Go.ChangeMaps Go.ChangeShapes Go.WideShapes Go.ChangeAt Go.RowKit Go.Lib
set_option linter.unusedVariables false
set_option linter.unusedSimpArgs false

theorem laidOut : laidOutB Tryd.prog = true := by kernel_rfl

set_option maxRecDepth 100000 in
/-- What the walk gives, for every argument of that bulk and every world that holds the variables. -/
theorem contract (H : Type) (enc : TypeId × Value → H) (W : World) (base : Nat) (args : Array Value) (ds gs : List (DataW H)) (before : List MemPlace)
    (hval : ∀ (j : Nat) t v, Tryd.f5.params[j]? = some t → args[j]? = some v → Value.okWide Tryd.prog W .any base t v)
    (hW : DataW.Whole enc Tryd.prog Tryd.f5.params.toList Rows.valueSamesSpec.vars false W args.toList ds gs before) (hL : laidMetH Tryd.prog Rows.valueSamesRow.laid W) (hk : Rows.uptoBulkAll (ds ++ gs) ≤ 1048576) :
    Calls Tryd.prog 5 args W fun e W' => ∃ v, e = .returned v ∧ Rows.valueSamesSpec.post enc Tryd.prog Tryd.f5 false true false false W args v W' := by
  have hG : Glob W := glob_of_laid hL
  have hW' := hW
  obtain ⟨p, q, hA0, hV, rfl, hfz, hnd⟩ := hW
  have hA : DataW.TrodAll enc Tryd.prog W 0 (fun _ => true) true Tryd.f5.params.toList args.toList ds p := hA0
  rw [Tryd.params5] at hA hval
  obtain ⟨v0, v1, d0, d1, p0, p1, rfl, rfl, rfl, h0, h1⟩ := trodAll_two hA
  obtain ⟨rfl, rfl⟩ := trodVars_none hV
  obtain ⟨cs, rfl, hcs⟩ := okWide_struct Tryd.underlying25 (hval 0 25 v0 rfl rfl)
  obtain ⟨cs', rfl, hcs'⟩ := okWide_struct Tryd.underlying25 (hval 1 25 v1 rfl rfl)
  have h0k := h0
  have h1k := h1
  obtain ⟨fuel, hf⟩ := h0
  obtain ⟨fuel', hf'⟩ := h1
  clear hA0
  simp only [List.append_nil] at hW' hk
  have hk1 : Rows.uptoBulk d0 ≤ 1048576 ∧ Rows.uptoBulk d1 ≤ 1048576 := by
    simp [Rows.uptoBulkAll] at hk
    omega
  obtain ⟨v, c, hc, hv, hw⟩ := open_V (M := 1048576) 1048576 fuel _ _ hf hk1.1 (Nat.le_refl _)
  obtain ⟨v', c', hc', hv', hw'⟩ := open_V (M := 1048576) 1048576 fuel' _ _ hf' hk1.2 (Nat.le_refl _)
  obtain rfl : cs = c.arr := by
    have h1 : cs.toList = c.arr.toList := hc
    exact Array.toList_inj.1 h1
  obtain rfl : cs' = c'.arr := by
    have h1 : cs'.toList = c'.arr.toList := hc'
    exact Array.toList_inj.1 h1
  have hlt : ∀ x ∈ p0, x.block < W.heap.size := fun x hx => hW'.lt x (List.mem_append_left _ hx)
  have hlt' : ∀ x ∈ p1, x.block < W.heap.size := fun x hx => hW'.lt x (List.mem_append_right _ hx)
  have e1 : Rows.valueSamesSpec.fn H ([d0, d1] ++ []) = { results := [.lit (.bool true)], args := [d0, d1] } := rfl
  have fin : ∀ (W' : World), Below W.heap.size W W' → Rows.valueSamesSpec.post enc Tryd.prog Tryd.f5 false true false false W #[.agg c.arr, .agg c'.arr] (.bool true) W' := by
    intro W' hnx
    refine ⟨_, _, _, [], p0 ++ p1, [], hW', ?_, ?_, by rw [e1]; rfl, hnx.frame _, fun h => by cases h⟩
    · rw [e1]; exact trodAll_mk1 (shut_bool Tryd.underlying4 true)
    · rw [e1]; exact trodAll_mk2 (Below.trod laidOut (by kernel_rfl) (of_decide_eq_true (by kernel_rfl)) h0k hnx hlt) (Below.trod laidOut (by kernel_rfl) (of_decide_eq_true (by kernel_rfl)) h1k hnx hlt')
  refine (lawSames_any v v' c c' W.heap.size 1048576 W (by omega) (by have : Rows.uptoBulk (d0, p0).1 = Rows.uptoBulk d0 := rfl; omega) (by have : Rows.uptoBulk (d1, p1).1 = Rows.uptoBulk d1 := rfl; omega) hv hv' (Nat.le_refl _) hG).mono fun e W' ⟨he, hb⟩ => ?_
  subst he
  exact ⟨_, rfl, fin W' hb⟩

theorem reads (os : Os) {H : Type} (enc : TypeId × Value → H) : ∃ places, DataW.whole enc Tryd.prog ((laidWorld os).forCall (fun _ _ => 0) ⟨#[], #[.agg zero6, .agg zero6], []⟩).memory Tryd.f5.params.toList Rows.valueSamesSpec.vars false #[Value.agg zero6, Value.agg zero6].toList 8 = some ([.agg [.lit (.int .i64 0), .lit (.bool false), .lit (.int .i64 0), .lit (.string []), .nil, .nil], .agg [.lit (.int .i64 0), .lit (.bool false), .lit (.int .i64 0), .lit (.string []), .nil, .nil]], [], places) :=
  ⟨[], by kernel_rfl⟩

set_option maxRecDepth 100000 in
theorem lifted (os : Os) (started : os.Started) (H : Type) (enc : TypeId × Value → H) (F : Stop.Interp) :
    ReturnsInHanded {} Tryd.checked os 5 .any ((Rows.OpenSpec.upto Rows.valueSamesSpec).preRow enc Tryd.prog Tryd.f5 Rows.valueSamesUptoRow.domain false Rows.valueSamesUptoRow.laid) (((Rows.OpenSpec.upto Rows.valueSamesSpec).at F).post enc Tryd.prog Tryd.f5 false true false false) := by
  obtain ⟨places, hx⟩ := reads os enc
  refine returnsInHanded_of_row (C := Tryd.checked) (s := Rows.OpenSpec.upto Rows.valueSamesSpec) own started (by kernel_rfl) Tryd.func5
    (witness_row_at (enc := enc) (C := Tryd.checked) false (laidWorld os) #[.agg zero6, .agg zero6] rfl (by kernel_rfl) (by kernel_rfl) (by kernel_rfl)
      (OpenSpec.preRow_of_cond 8 hx (by kernel_rfl) (fun k hk => by cases hk; kernel_rfl) (by kernel_rfl) (laid_met os _))) ?_
  intro W base args ds gs before hval hW _ hcond _ hL _ _
  refine contract H enc W base args ds gs before hval hW hL ?_
  have h := of_decide_eq_true (hcond _ rfl)
  exact h

theorem said : Rows.ValueSamesUptoSaid :=
  OpenClaim.holds_of_cond 5 Tryd.f5 rfl rfl rfl rfl rfl rfl rfl ⟨rfl, rfl, rfl, rfl, rfl⟩ rfl rfl rfl rfl rfl (by kernel_rfl) Tryd.func5 (by kernel_rfl)
    (of_decide_eq_true (by kernel_rfl)) (by unfold Func.isWrapper; first | (rw [if_pos (by decide +kernel)]; kernel_rfl) | (rw [if_neg (by decide +kernel)]; exact ⟨rfl, rfl⟩))
    (fun os started H enc _ F => by rw [OpenClaim.pre_eq_preRow]; exact lifted os started H enc F)

theorem plain (f : FuncId) (fn : Func) (hf : Tryd.pinned.checked.prog.funcNamed "enfilade/enfiladelaw01.ValueSames" = some f) (hfn : Tryd.pinned.checked.prog.funcs[f]? = some fn) :
    true = Tryd.pinned.checked.prog.looks [] ∧ ∀ (j : Nat) t, fn.params[j]? = some t → Tryd.pinned.checked.prog.wantsStandIn t = false := by
  obtain rfl : f = 5 := Option.some.inj ((show Tryd.prog.funcNamed "enfilade/enfiladelaw01.ValueSames" = some 5 by kernel_rfl).symm.trans hf) |>.symm
  obtain rfl : fn = Tryd.f5 := (Option.some.inj (Tryd.func5.symm.trans hfn)).symm
  refine ⟨by kernel_rfl, fun j t ht => ?_⟩
  rw [Tryd.params5] at ht
  obtain rfl : t = 25 := by simpa using Array.mem_of_getElem? ht
  exact (show Tryd.prog.wantsStandIn 25 = false by kernel_rfl)

theorem card : Rows.ValueSamesUptoCardSaid :=
  Claim7.holds_tied_plain_at .later [] _ _ _ _ said (fun _ h => by cases h) (by kernel_rfl) (fun _ h => by cases h) valueSamesUpto_row_tie rfl ⟨rfl, rfl⟩ (by kernel_rfl) rfl plain (by kernel_rfl)
end Go.Proofs.YtdpohklklmkjbaaDoor.valueSames
namespace Go.Proofs.YtdpohklklmkjbaaDoor
theorem valueSames_card : Rows.ValueSamesUptoCardSaid := valueSames.card
end Go.Proofs.YtdpohklklmkjbaaDoor
