/-
  Proved: the statement of the law ValueMembers (a map of any members is the document's, or it is told which key stands twice; of right values and UTF-8 keys it is right, unless it is too deep), in its second form. Conditions: those of the given row alone (the arguments are of bulk at most 1048576; the listed package variables hold what their initialisers lay).
-/
import Derived.Test.YtdpohklklmkjbaaDoorEach2
import Derived.Test.YtdpohklklmkjbaaDoorEachD
import Derived.Maps.AppendAt
import Derived.RegionTactic
import Derived.Deep.CutBlock
import Derived.Laws.Cover1
import Derived.Deep.RegionLaw
import Derived.Deep.RegionHeld3
import Derived.Test.YtdpohklklmkjbaaDoorFew
import Derived.Test.YtdpohklklmkjbaaDoorLawTexts2
import Derived.Deep.CutRange
import Derived.Test.YtdpohklklmkjbaaDoorReal3
import Derived.Test.YtdpohklklmkjbaaDoorReal2
import Derived.Test.YtdpohklklmkjbaaDoorDeep
import Derived.Test.YtdpohklklmkjbaaDoorLay
import Derived.Test.YtdpohklklmkjbaaDoorOpen1
import Derived.Carry
import Derived.Deep.DeepWitnessRowRef
import Derived.SizedLaws
namespace Go.Proofs.YtdpohklklmkjbaaDoor
open Go.RowKit Go.Lib
set_option linter.unusedVariables false
set_option linter.unusedSimpArgs false

set_option maxRecDepth 100000 in
set_option maxHeartbeats 4000000 in
theorem eachS_any (step : Int → Nat → Nat → Nat) (tot : Nat → List (V × Nat) → Nat) (hT : Tot step tot) (g : Nat) (hL : Looks 43 g step) (v : V) (cs : Array Value) (B : Nat) (w : World) (hv : Val w (· < B) 1000000 v cs) (hB : B ≤ g) (hg : g < w.heap.size) (hsz : vsize v ≤ 1000000) (hc : w.cell? ⟨g, 0, none⟩ = some (.int .i64 (0 : Nat))) (hf : w.frozen? ⟨g, 0, none⟩ = false) (htot : tot 0 [(v, 0)] ≤ 1000000) :
    Calls Tryd.prog 41 #[.agg cs, .func (Fn.func 43) #[] #[.pointer (some ⟨g, 0, none⟩)]] w fun e w' => e = .returned (.tuple #[]) ∧ w'.cell? ⟨g, 0, none⟩ = some (.int .i64 (tot 0 [(v, 0)] : Nat)) ∧ w'.frozen? ⟨g, 0, none⟩ = false ∧ Only g w w' := by
  obtain ⟨c, rfl⟩ := hv.c6
  obtain ⟨i0, hi, hz0, hz1, hz2⟩ := info_parts info_Nested
  obtain ⟨T, hTT⟩ : ∃ T, tot 0 [(v, 0)] = T := ⟨_, rfl⟩
  rw [hTT] at htot ⊢
  have HT := Lib.hid (And.intro hT (And.intro hTT (And.intro hv (And.intro hc hf))))
  have HL := Lib.hid hL
  clear hT hL hTT hv hc hf
  obtain ⟨jk, jy, jn, jt, ja, jla, jca, jb, jlb, jcb⟩ := c
  dsimp only [C6.arr]
  go_enter Tryd.func41, Tryd.ntmps41
  go_wp2_with fail
  go_loopg [4] (vsize v) (EachRel w B g tot T)
  case atStart =>
    obtain ⟨hT, hTT, hv, hc, hf⟩ := HT.out
    have hb : Below w.heap.size w ((w.alloc (.cells #[.int .i64 jk, .bool jy, .int .i64 jn, .string jt, .slice ja jla jca, .slice jb jlb jcb] 38)).alloc (.cells #[.int .i64 jk, .bool jy, .int .i64 jn, .string jt, .slice ja jla jca, .slice jb jlb jcb, .int .i64 0] 115)) := ((Below.refl _ _).alloc (Nat.le_refl _) _).alloc (by simp) _
    refine ⟨[((v, ⟨jk, jy, jn, jt, ja, jla, jca, jb, jlb, jcb⟩), 0)], 0, ⟨?_, fun p hp => by obtain rfl := List.mem_singleton.1 hp; exact hv, fun p hp => by obtain rfl := List.mem_singleton.1 hp; simpa using hsz, (hb.cell hg).trans hc, (hb.frozen hg).trans hf, (Only.refl g w).step hb⟩, hTT, by simp [nSize, nodeV], hsz⟩
    have := World.ownsRow_lit (base := w.heap.size + 1) (e := 115) (size := 7) (w.alloc (.cells #[.int .i64 jk, .bool jy, .int .i64 jn, .string jt, .slice ja jla jca, .slice jb jlb jcb] 38)) #[.int .i64 jk, .bool jy, .int .i64 jn, .string jt, .slice ja jla jca, .slice jb jlb jcb, .int .i64 0] 1 (by simp) (by unfold maxLen; omega) rfl
    simpa [node7, C6.cells] using this
  case round =>
    obtain ⟨st, acc, hW, htt, hk, hk1⟩ := hrel
    rcases nil_or_snoc st with rfl | ⟨st', ⟨⟨x, oc⟩, a⟩, rfl⟩
    · have hv0 : ∃ aa c', u4 = .slice aa 0 c' := by
        rcases Go.Joins.ownsRow_forms hW.own with ⟨rfl, _⟩ | ⟨g', cap, rfl⟩ <;> exact ⟨_, _, rfl⟩
      have HX := Lib.hid (And.intro hW htt)
      clear hW htt hk
      obtain ⟨aa, c', rfl⟩ := hv0
      go_wp2_with fail
      obtain ⟨hW, htt⟩ := HX.out
      have hacc : acc = T := by rw [← htt]; exact (HT.out.1.base acc).symm
      refine bodyPost_end (v := .tuple #[]) (by simp [results, Tryd.results41]) rfl ⟨rfl, ?_, hW.frz, hW.only⟩
      rw [← hacc]; exact hW.cell
    · obtain ⟨gO, cap, rfl, hgO, hgOl⟩ := hW.own.form (by simp)
      have hlen : (st' ++ [((x, oc), a)]).length = st'.length + 1 := by simp
      have hcap : st'.length + 1 ≤ cap := by
        rcases hW.own.2 with ⟨e, _⟩ | ⟨g', cap', cur, e, _, _, hnc, _⟩
        · cases e
        · injection e with e1 e2 e3; rw [e3]; simpa using hnc
      have hcell : ∀ q, q < 7 → wr.cell? ⟨gO, st'.length * 7 + q, none⟩ = (node7 ((x, oc), a))[q]? := fun q hq => by
        rw [hW.own.cellAt (st'.length * 7 + q) (by simp; omega), flat_get node7 7 node7_len _ _ _ (by simp) hq]
        simp
      have hstl := nSize_len ((st' ++ [((x, oc), a)]).map nodeV)
      rw [hk, List.length_map] at hstl
      have hvx := hW.vals ((x, oc), a) (by simp)
      have hax := hW.abt ((x, oc), a) (by simp)
      have hle := HT.out.1.le acc ((st' ++ [((x, oc), a)]).map nodeV)
      rw [htt] at hle
      rw [hlen] at hW hstl ⊢
      have hk2 : nSize (st'.map nodeV) + vsize x = gk := by rw [← hk, List.map_append, nSize_append]; simp [nSize, nodeV]
      have htt2 : tot acc (st'.map nodeV ++ [(x, a)]) = T := by rw [← htt, List.map_append]; rfl
      have hokk : oc.k = x.kind := by
        cases x with
        | mk k y m t l mp =>
        dsimp only at hvx
        rw [Val] at hvx
        obtain ⟨A, c1, A', c2, e, -⟩ := hvx
        have := congrArg (fun a => a[0]?) e
        simp [C6.arr] at this
        exact this
      obtain ⟨pk, py, pn, pt, pa, pla, pca, pb, plb, pcb⟩ := oc
      have c0 : wr.cell? ⟨gO, st'.length * 7, none⟩ = some (.int .i64 pk) := hcell 0 (by omega)
      have c1 : wr.cell? ⟨gO, st'.length * 7 + 1, none⟩ = some (.bool py) := hcell 1 (by omega)
      have c2 : wr.cell? ⟨gO, st'.length * 7 + 2, none⟩ = some (.int .i64 pn) := hcell 2 (by omega)
      have c3 : wr.cell? ⟨gO, st'.length * 7 + 3, none⟩ = some (.string pt) := hcell 3 (by omega)
      have c4 : wr.cell? ⟨gO, st'.length * 7 + 4, none⟩ = some (.slice pa pla pca) := hcell 4 (by omega)
      have c5 : wr.cell? ⟨gO, st'.length * 7 + 5, none⟩ = some (.slice pb plb pcb) := hcell 5 (by omega)
      have c6 : wr.cell? ⟨gO, st'.length * 7 + 6, none⟩ = some (.int .i64 a) := hcell 6 (by omega)
      dsimp only at hvx hax hokk
      have hgr : g < wr.heap.size := lt_of_cell hW.cell
      have hcall := HL.out ⟨pk, py, pn, pt, pa, pla, pca, pb, plb, pcb⟩ a acc (wr.alloc (.cells #[.int .i64 pk, .bool py, .int .i64 pn, .string pt, .slice pa pla pca, .slice pb plb pcb, .int .i64 a] 115)) ((World.cell?_alloc_lt _ _ _ hgr).trans hW.cell) ((World.frozen?_alloc_old _ _ _ (Nat.ne_of_lt hgr)).trans hW.frz) (by omega) (by omega)
      dsimp only [C6.arr] at hcall
      have HX := Lib.hid (And.intro hW (And.intro hvx (And.intro hk2 (And.intro htt2 (And.intro hcall hokk)))))
      clear hW hvx hk2 htt2 hcall hcell hlen hk htt hokk hle
      go_wp2_with fail
      refine HX.out.2.2.2.2.1.mono ?_
      rintro e W2 ⟨rfl, hc2, hf2, ho2⟩
      have hW2 : Wait w B g st' (.slice (some ⟨gO, 0, none⟩) st'.length cap) (step pk a acc) W2 := (HX.out.1.pop hg _).shown hg ho2 hc2 hf2
      have hN2 : Whole W2 wr.heap.size 115 #[.int .i64 pk, .bool py, .int .i64 pn, .string pt, .slice pa pla pca, .slice pb plb pcb, .int .i64 a] := (ho2.2.1 wr.heap.size (by simp) (by omega)).trans (Whole.made wr _ _)
      cases x with
      | mk k y m t l mp =>
      have hokk := HX.out.2.2.2.2.2
      simp only [V.kind] at hokk
      subst hokk
      have hvx := HX.out.2.1
      rw [Val] at hvx
      obtain ⟨A1, c1', A2, c2', e6, ⟨h1c, h2c, ht, hl, hm, -, -⟩, hvl, hvm⟩ := hvx
      simp only [C6.arr, Array.mk.injEq, List.cons.injEq, Value.int.injEq, Value.bool.injEq, Value.string.injEq, Value.slice.injEq, true_and, and_true] at e6
      obtain ⟨rfl, rfl, rfl, ⟨rfl, rfl, rfl⟩, rfl, rfl, rfl⟩ := e6
      by_cases k4 : pk = 4
      · subst k4
        have HV := Lib.hid hvl
        have hpx : parts (.mk 4 py pn pt l mp) = l := by simp [parts]
        have d0 := hN2.cell 0
        have d4 := hN2.cell 4
        simp at d0 d4
        have HY := Lib.hid (And.intro hW2 (And.intro hN2 hpx))
        have hzN : wr.heap.size < W2.heap.size := hN2.lt
        have hax2 : a + 1 + vsizeL l ≤ 1000000 := by rw [vsize_parts, hpx] at hax; omega
        have hgk : st'.length + vsizeL l + 1 ≤ 1000000 := by
          have h1 := HX.out.2.2.1
          have h2 := nSize_len (st'.map nodeV)
          rw [vsize_parts, hpx] at h1
          rw [List.length_map] at h2
          omega
        clear hW2 hN2 hc2 hf2 ho2 hpx hvl hvm c0 c1 c2 c3 c4 c5 c6 hax hstl
        go_wp2_with fail
        obtain ⟨wo, rfl⟩ : ∃ wo : World, wo = wr := ⟨_, rfl⟩
        go_loopg [4, 42] l.length (InE w B g wo.heap.size st' l a (step 4 a acc) #[.int .i64 4, .bool py, .int .i64 pn, .string pt, .slice pa l.length pca, .slice pb mp.length pcb, .int .i64 a])
        case atStart => exact ⟨0, _, [], by simp, rfl, rfl, rfl, HY.out.2.1, by simp [Value.ownBlock]; omega, by simpa using HY.out.1⟩
        case round =>
          clear d0 d4
          obtain ⟨j, ov2, ns, hk, rfl, rfl, hns, hN, hng, hWj⟩ := hrel
          
          have d6 := hN.cell 6
          simp at d6
          have hzN2 : wo.heap.size < wr.heap.size := hN.lt
          have hv0 : ∃ aa n' c', ov2 = .slice aa n' c' := by
            rcases Go.Joins.ownsRow_forms hWj.own with ⟨e, _⟩ | ⟨g', cap', e⟩ <;> exact ⟨_, _, _, e⟩
          by_cases hlt : j < l.length
          · have hltP : j < (l).length := by simpa using hlt
            have hnl : ns.length = j := by
              have := congrArg List.length hns
              rw [List.length_map, List.length_map, List.length_take, Nat.min_eq_left (Nat.le_of_lt hltP)] at this
              exact this
            have hpj : l[j]'hltP = (l[j]'hlt) := rfl
            have hvj := vsizeL_mem (List.getElem_mem hltP)
            have hvl2 := vsizeL_len l
            rw [hpj] at hvj
            obtain ⟨b, off, cs, rfl, hbB, hcc, hx⟩ := HV.out.get j hlt
            obtain ⟨cj, rfl⟩ := hx.c6
            have hcj : ∀ q, q < 6 → wr.cell? ⟨b, off + j * 6 + q, none⟩ = cj.arr[q]? := fun q hq => (hWj.only.cell (p := ⟨b, off + j * 6 + q, none⟩) (show b < w.heap.size by omega) (show b ≠ g by omega)).trans (by simpa using hcc q hq)
            obtain ⟨x0, x1, x2, x3, x4, x5⟩ := cells6 hcj rfl
            have hj1 : (j : Int) < (l.length : Int) := by omega
            have haj : a + 1 + vsize (l[j]'hlt) ≤ 1000000 := by omega
            have hlb : (st' ++ ns).length + 1 ≤ 1000000 := by rw [List.length_append, hnl]; omega
            have hzw : w.heap.size ≤ wr.heap.size := hWj.only.1
            have HZ := Lib.hid (And.intro hk (And.intro hns (And.intro hN (And.intro hng (And.intro hWj (And.intro hx haj))))))
            clear hk hns hN hng hWj hx hcj hcc hvj hvl2 hnl hpj haj hltP
            obtain ⟨qk, qy, qn, qt, qa, qla, qca, qb, qlb, qcb⟩ := cj
            dsimp only [C6.arr] at x0 x1 x2 x3 x4 x5
            obtain ⟨aa, n', c', rfl⟩ := hv0
            go_wp2_with (first
              | (at_builtin; refine wpList_append_lies _ rfl _ _ 116 rfl (w.heap.size + 1) 115 i0 (.agg #[.int .i64 0, .bool false, .int .i64 0, .string ⟨#[]⟩, .slice none 0 0, .slice none 0 0, .int .i64 0]) 7 96 Tryd.underlying116 hi hz0 hz1 hz2 rfl (by decide) _ _ _ rfl ((HZ.out.2.2.2.2.1.own.alloc _).alloc _) ⟨wr.heap.size + 1, 0, none⟩ 1 1 [.int .i64 qk, .bool qy, .int .i64 qn, .string qt, .slice qa qla qca, .slice qb qlb qcb, .int .i64 ((a : Int) + 1)] rfl rfl (by simpa using cells_new (wr.alloc (.cells _ _)) #[.int .i64 qk, .bool qy, .int .i64 qn, .string qt, .slice qa qla qca, .slice qb qlb qcb, .int .i64 ((a : Int) + 1)] 115) (fun x hx => by simp at hx; rcases hx with rfl | rfl | rfl | rfl | rfl | rfl | rfl <;> rfl) (by omega) (by unfold maxLen; omega) (by omega) (by simp; omega) (wr.heap.size + 2) (by simp) ?_; intro g2 cap2 w3 hown' hgrow3 hat3 hlt3
                 have HG := Lib.hid (And.intro hown' (And.intro hgrow3 (And.intro hat3 hlt3)))
                 clear hown' hgrow3 hat3))
            go_roundg (l.length - (j + 1))
            case rel =>
              obtain ⟨hk, hns, hN, hng, hWj, hx, haj⟩ := HZ.out
              obtain ⟨hown', hgrow3, hat3, hlt3'⟩ := HG.out
              have hltP : j < (l).length := by simpa using hlt
              refine ⟨j + 1, _, ns ++ [(((l[j]'hlt), ⟨qk, qy, qn, qt, qa, qla, qca, qb, qlb, qcb⟩), a + 1)], by first | omega | (simp; omega), by go_num, rfl, ?_, ((hN.alloc _).alloc _).grown hgrow3 (fun e => hng e.symm), ?_, ?_⟩
              · rw [List.map_append, hns, List.take_succ_eq_append_getElem hltP, List.map_append]
                simp [nodeV]
              · intro e
                simp only [Value.ownBlock, Option.some.injEq] at e
                rcases hat3 with h | h
                · exact hng (Eq.trans h (congrArg some e))
                · omega
              · rw [← List.append_assoc]
                refine hWj.push hg hx haj ?_ hgrow3
                have hn7 : ∀ y : V, node7 ((y, ⟨qk, qy, qn, qt, qa, qla, qca, qb, qlb, qcb⟩), a + 1) = [.int .i64 qk, .bool qy, .int .i64 qn, .string qt, .slice qa qla qca, .slice qb qlb qcb, .int .i64 ((a : Int) + 1)] := fun y => by simp [node7, C6.cells]
                have h9 := hown'
                rw [List.length_append] at h9 ⊢
                rw [hn7]
                exact h9
            case measure => have := HZ.out.1; omega
          · have hjl : j = l.length := by omega
            subst hjl
            have HZ := Lib.hid (And.intro hns hWj)
            clear hns hN hng hWj hk hlt
            obtain ⟨aa, n', c', rfl⟩ := hv0
            go_wp2_with fail
            go_roundg (nSize (st'.map nodeV) + vsizeL l)
            case rel =>
              obtain ⟨hns, hWj⟩ := HZ.out
              rw [List.take_of_length_le (by simp)] at hns
              have h1 := HT.out.1.step acc (st'.map nodeV) (.mk 4 py pn pt l mp) a
              rw [HX.out.2.2.2.1, kidsOf, HY.out.2.2] at h1
              refine ⟨st' ++ ns, _, hWj, ?_, ?_, ?_⟩
              · rw [List.map_append, hns, ← h1]; rfl
              · rw [List.map_append, nSize_append, hns, nSize_kidsL]
              · have h2 := HX.out.2.2.1
                rw [vsize_parts, HY.out.2.2] at h2
                omega
            case measure =>
              have h2 := HX.out.2.2.1
              rw [vsize_parts, HY.out.2.2] at h2
              omega
      by_cases k5 : pk = 5
      · subst k5
        have HV := Lib.hid hvm
        have hpx : parts (.mk 5 py pn pt l mp) = (mp.map (·.2)) := by simp [parts]
        have d0 := hN2.cell 0
        have d5 := hN2.cell 5
        simp at d0 d5
        have HY := Lib.hid (And.intro hW2 (And.intro hN2 hpx))
        have hzN : wr.heap.size < W2.heap.size := hN2.lt
        have hax2 : a + 1 + vsizeL (mp.map (·.2)) ≤ 1000000 := by rw [vsize_parts, hpx] at hax; omega
        have hgk : st'.length + vsizeL (mp.map (·.2)) + 1 ≤ 1000000 := by
          have h1 := HX.out.2.2.1
          have h2 := nSize_len (st'.map nodeV)
          rw [vsize_parts, hpx] at h1
          rw [List.length_map] at h2
          omega
        clear hW2 hN2 hc2 hf2 ho2 hpx hvl hvm c0 c1 c2 c3 c4 c5 c6 hax hstl
        go_wp2_with fail
        obtain ⟨wo, rfl⟩ : ∃ wo : World, wo = wr := ⟨_, rfl⟩
        go_loopg [4, 61] mp.length (InE w B g wo.heap.size st' (mp.map (·.2)) a (step 5 a acc) #[.int .i64 5, .bool py, .int .i64 pn, .string pt, .slice pa l.length pca, .slice pb mp.length pcb, .int .i64 a])
        case atStart => exact ⟨0, _, [], by simp, rfl, rfl, rfl, HY.out.2.1, by simp [Value.ownBlock]; omega, by simpa using HY.out.1⟩
        case round =>
          clear d0 d5
          obtain ⟨j, ov2, ns, hk, rfl, rfl, hns, hN, hng, hWj⟩ := hrel
          simp only [List.length_map] at hk
          have d6 := hN.cell 6
          simp at d6
          have hzN2 : wo.heap.size < wr.heap.size := hN.lt
          have hv0 : ∃ aa n' c', ov2 = .slice aa n' c' := by
            rcases Go.Joins.ownsRow_forms hWj.own with ⟨e, _⟩ | ⟨g', cap', e⟩ <;> exact ⟨_, _, _, e⟩
          by_cases hlt : j < mp.length
          · have hltP : j < ((mp.map (·.2))).length := by simpa using hlt
            have hnl : ns.length = j := by
              have := congrArg List.length hns
              rw [List.length_map, List.length_map, List.length_take, Nat.min_eq_left (Nat.le_of_lt hltP)] at this
              exact this
            have hpj : (mp.map (·.2))[j] = mp[j].2 := by simp
            have hvj := vsizeL_mem (List.getElem_mem hltP)
            have hvl2 := vsizeL_len (mp.map (·.2))
            rw [hpj] at hvj
            obtain ⟨b, off, cs, rfl, hbB, hsM, hkc, hcc, hx⟩ := HV.out.get j hlt
            obtain ⟨cj, rfl⟩ := hx.c6
            obtain ⟨ks, hks⟩ : ∃ ks, mp[j].1 = ks := ⟨_, rfl⟩
            rw [hks] at hkc
            have hck : wr.cell? ⟨b, off + j * 7, none⟩ = some (.string ks) := (hWj.only.cell (p := ⟨b, off + j * 7, none⟩) (show b < w.heap.size by omega) (show b ≠ g by omega)).trans (by simpa using hkc)
            have hcj : ∀ q, q < 6 → wr.cell? ⟨b, off + j * 7 + (1 + q), none⟩ = cj.arr[q]? := fun q hq => (hWj.only.cell (p := ⟨b, off + j * 7 + (1 + q), none⟩) (show b < w.heap.size by omega) (show b ≠ g by omega)).trans (by simpa using hcc q hq)
            obtain ⟨xk, x0, x1, x2, x3, x4, x5⟩ := cells7 hck hcj rfl
            clear hks hkc hck hsM
            have hj1 : (j : Int) < (mp.length : Int) := by omega
            have haj : a + 1 + vsize mp[j].2 ≤ 1000000 := by omega
            have hlb : (st' ++ ns).length + 1 ≤ 1000000 := by rw [List.length_append, hnl]; omega
            have hzw : w.heap.size ≤ wr.heap.size := hWj.only.1
            have HZ := Lib.hid (And.intro hk (And.intro hns (And.intro hN (And.intro hng (And.intro hWj (And.intro hx haj))))))
            clear hk hns hN hng hWj hx hcj hcc hvj hvl2 hnl hpj haj hltP
            obtain ⟨qk, qy, qn, qt, qa, qla, qca, qb, qlb, qcb⟩ := cj
            dsimp only [C6.arr] at x0 x1 x2 x3 x4 x5
            obtain ⟨aa, n', c', rfl⟩ := hv0
            go_wp2_with (first
              | (at_builtin; refine wpList_append_lies _ rfl _ _ 116 rfl (w.heap.size + 1) 115 i0 (.agg #[.int .i64 0, .bool false, .int .i64 0, .string ⟨#[]⟩, .slice none 0 0, .slice none 0 0, .int .i64 0]) 7 96 Tryd.underlying116 hi hz0 hz1 hz2 rfl (by decide) _ _ _ rfl ((HZ.out.2.2.2.2.1.own.alloc _).alloc _) ⟨wr.heap.size + 1, 0, none⟩ 1 1 [.int .i64 qk, .bool qy, .int .i64 qn, .string qt, .slice qa qla qca, .slice qb qlb qcb, .int .i64 ((a : Int) + 1)] rfl rfl (by simpa using cells_new (wr.alloc (.cells _ _)) #[.int .i64 qk, .bool qy, .int .i64 qn, .string qt, .slice qa qla qca, .slice qb qlb qcb, .int .i64 ((a : Int) + 1)] 115) (fun x hx => by simp at hx; rcases hx with rfl | rfl | rfl | rfl | rfl | rfl | rfl <;> rfl) (by omega) (by unfold maxLen; omega) (by omega) (by simp; omega) (wr.heap.size + 2) (by simp) ?_; intro g2 cap2 w3 hown' hgrow3 hat3 hlt3
                 have HG := Lib.hid (And.intro hown' (And.intro hgrow3 (And.intro hat3 hlt3)))
                 clear hown' hgrow3 hat3))
            go_roundg (mp.length - (j + 1))
            case rel =>
              obtain ⟨hk, hns, hN, hng, hWj, hx, haj⟩ := HZ.out
              obtain ⟨hown', hgrow3, hat3, hlt3'⟩ := HG.out
              have hltP : j < ((mp.map (·.2))).length := by simpa using hlt
              refine ⟨j + 1, _, ns ++ [((mp[j].2, ⟨qk, qy, qn, qt, qa, qla, qca, qb, qlb, qcb⟩), a + 1)], by first | omega | (simp; omega), by go_num, rfl, ?_, ((hN.alloc _).alloc _).grown hgrow3 (fun e => hng e.symm), ?_, ?_⟩
              · rw [List.map_append, hns, List.take_succ_eq_append_getElem hltP, List.map_append]
                simp [nodeV]
              · intro e
                simp only [Value.ownBlock, Option.some.injEq] at e
                rcases hat3 with h | h
                · exact hng (Eq.trans h (congrArg some e))
                · omega
              · rw [← List.append_assoc]
                refine hWj.push hg hx haj ?_ hgrow3
                have hn7 : ∀ y : V, node7 ((y, ⟨qk, qy, qn, qt, qa, qla, qca, qb, qlb, qcb⟩), a + 1) = [.int .i64 qk, .bool qy, .int .i64 qn, .string qt, .slice qa qla qca, .slice qb qlb qcb, .int .i64 ((a : Int) + 1)] := fun y => by simp [node7, C6.cells]
                have h9 := hown'
                rw [List.length_append] at h9 ⊢
                rw [hn7]
                exact h9
            case measure => have := HZ.out.1; omega
          · have hjl : j = mp.length := by omega
            subst hjl
            have HZ := Lib.hid (And.intro hns hWj)
            clear hns hN hng hWj hk hlt
            obtain ⟨aa, n', c', rfl⟩ := hv0
            go_wp2_with fail
            go_roundg (nSize (st'.map nodeV) + vsizeL (mp.map (·.2)))
            case rel =>
              obtain ⟨hns, hWj⟩ := HZ.out
              rw [List.take_of_length_le (by simp)] at hns
              have h1 := HT.out.1.step acc (st'.map nodeV) (.mk 5 py pn pt l mp) a
              rw [HX.out.2.2.2.1, kidsOf, HY.out.2.2] at h1
              refine ⟨st' ++ ns, _, hWj, ?_, ?_, ?_⟩
              · rw [List.map_append, hns, ← h1]; rfl
              · rw [List.map_append, nSize_append, hns, nSize_kidsL]
              · have h2 := HX.out.2.2.1
                rw [vsize_parts, HY.out.2.2] at h2
                omega
            case measure =>
              have h2 := HX.out.2.2.1
              rw [vsize_parts, HY.out.2.2] at h2
              omega
      · have e4 : (pk == 4) = false := beq_eq_false_iff_ne.2 k4
        have e5 : (pk == 5) = false := beq_eq_false_iff_ne.2 k5
        have hpn := parts_none (.mk pk py pn pt l mp) (by simp only [V.kind]; omega)
        have d0 := hN2.cell 0
        simp at d0
        have HY := Lib.hid (And.intro hW2 hpn)
        clear hW2 hN2 hc2 hf2 ho2 hpn hvl hvm c0 c1 c2 c3 c4 c5 c6 k4 k5
        go_wp2_with fail
        go_roundg (nSize (st'.map nodeV))
        case rel =>
          refine ⟨st', _, HY.out.1, ?_, rfl, by have := HX.out.2.2.1; omega⟩
          have h1 := HT.out.1.step acc (st'.map nodeV) (.mk pk py pn pt l mp) a
          rw [HX.out.2.2.2.1] at h1
          rw [← h1, kidsOf, HY.out.2]
          simp [V.kind]
        case measure => have := HX.out.2.2.1; have := vsize_pos (.mk pk py pn pt l mp); omega
end Go.Proofs.YtdpohklklmkjbaaDoor

namespace Go.Proofs.YtdpohklklmkjbaaDoor
open Go.RowKit Go.Lib
set_option linter.unusedVariables false
set_option linter.unusedSimpArgs false

/-- Only a block of the call's own has changed: all that was there is as it was. -/
theorem Only.below {w W W' : World} {g : Nat} (h : Only g W W') (hb : Below w.heap.size w W) (hg : w.heap.size ≤ g) : Below w.heap.size w W' := h.2.2 _ _ hb hg hb.size

set_option maxRecDepth 100000 in
set_option maxHeartbeats 1000000 in
theorem Depth_any (v : V) (cs : Array Value) (B : Nat) (w : World) (hv : Val w (· < B) 1000000 v cs) (hB : B ≤ w.heap.size) (hsz : vsize v ≤ 1000000) (hd : dep v ≤ 1000000) :
    Calls Tryd.prog 18 #[.agg cs] w fun e w' => e = .returned (.int .i64 (dep v : Nat)) ∧ Below w.heap.size w w' := by
  have htot : totD 0 [(v, 0)] = dep v := by
    simp only [totD, deepOf]
    by_cases hk : v.kind = 4 ∨ v.kind = 5
    · rw [if_pos hk]; omega
    · rw [if_neg hk, dep_none v hk]; omega
  obtain ⟨c, rfl⟩ := hv.c6
  obtain ⟨jk, jy, jn, jt, ja, jla, jca, jb, jlb, jcb⟩ := c
  dsimp only [C6.arr] at hv ⊢
  obtain ⟨W, hW⟩ : ∃ W, (w.alloc (.cells #[.int .i64 jk, .bool jy, .int .i64 jn, .string jt, .slice ja jla jca, .slice jb jlb jcb] 38)).alloc (.cells #[.int .i64 0] 3) = W := ⟨_, rfl⟩
  have hbW : Below w.heap.size w W := hW ▸ ((Below.refl _ _).alloc (Nat.le_refl _) _).alloc (by simp) _
  have hWh : Whole W (w.heap.size + 1) 3 #[.int .i64 0] := by
    have := Whole.made (w.alloc (.cells #[.int .i64 jk, .bool jy, .int .i64 jn, .string jt, .slice ja jla jca, .slice jb jlb jcb] 38)) 3 #[.int .i64 0]
    rw [hW] at this
    simpa using this
  have hcall := eachD_any stepD totD tot_depth (w.heap.size + 1) (depth1_any _) v _ B W (hv.keep (fun p hp => hbW.cell (Nat.lt_of_lt_of_le hp hB)) (fun _ h => h)) (by omega) hWh.lt hsz (hWh.cell 0) (hWh.frozen 0) (by rw [htot]; exact hd)
  rw [htot] at hcall
  have HC := Lib.hid (And.intro hcall (And.intro hbW hW))
  clear hcall hbW hW hWh hv htot
  go_enter Tryd.func18, Tryd.ntmps18
  go_wp2_with fail
  rw [HC.out.2.2]
  refine HC.out.1.mono ?_
  rintro e W2 ⟨rfl, hc, hf, ho⟩
  go_wp2_with fail
  go_ret
  exact ⟨rfl, ho.below HC.out.2.1 (by omega)⟩

set_option maxRecDepth 100000 in
set_option maxHeartbeats 1000000 in
theorem Size_any (v : V) (cs : Array Value) (B : Nat) (w : World) (hv : Val w (· < B) 1000000 v cs) (hB : B ≤ w.heap.size) (hsz : vsize v ≤ 1000000) :
    Calls Tryd.prog 20 #[.agg cs] w fun e w' => e = .returned (.int .i64 (vsize v : Nat)) ∧ Below w.heap.size w w' := by
  have htot : totS 0 [(v, 0)] = vsize v := by simp [totS, nSize]
  obtain ⟨c, rfl⟩ := hv.c6
  obtain ⟨jk, jy, jn, jt, ja, jla, jca, jb, jlb, jcb⟩ := c
  dsimp only [C6.arr] at hv ⊢
  obtain ⟨W, hW⟩ : ∃ W, (w.alloc (.cells #[.int .i64 jk, .bool jy, .int .i64 jn, .string jt, .slice ja jla jca, .slice jb jlb jcb] 38)).alloc (.cells #[.int .i64 0] 3) = W := ⟨_, rfl⟩
  have hbW : Below w.heap.size w W := hW ▸ ((Below.refl _ _).alloc (Nat.le_refl _) _).alloc (by simp) _
  have hWh : Whole W (w.heap.size + 1) 3 #[.int .i64 0] := by
    have := Whole.made (w.alloc (.cells #[.int .i64 jk, .bool jy, .int .i64 jn, .string jt, .slice ja jla jca, .slice jb jlb jcb] 38)) 3 #[.int .i64 0]
    rw [hW] at this
    simpa using this
  have hcall := eachS_any stepS totS tot_size (w.heap.size + 1) (size1_any _) v _ B W (hv.keep (fun p hp => hbW.cell (Nat.lt_of_lt_of_le hp hB)) (fun _ h => h)) (by omega) hWh.lt hsz (hWh.cell 0) (hWh.frozen 0) (by rw [htot]; exact hsz)
  rw [htot] at hcall
  have HC := Lib.hid (And.intro hcall (And.intro hbW hW))
  clear hcall hbW hW hWh hv htot
  go_enter Tryd.func20, Tryd.ntmps20
  go_wp2_with fail
  rw [HC.out.2.2]
  refine HC.out.1.mono ?_
  rintro e W2 ⟨rfl, hc, hf, ho⟩
  go_wp2_with fail
  go_ret
  exact ⟨rfl, ho.below HC.out.2.1 (by omega)⟩
end Go.Proofs.YtdpohklklmkjbaaDoor

namespace Go.Proofs.YtdpohklklmkjbaaDoor
open Go.RowKit Go.Lib
set_option linter.unusedVariables false
set_option linter.unusedSimpArgs false

def getM (key : ByteArray) : List (ByteArray × V) → Option V
  | [] => none
  | (s, v) :: r => if s.toList == key.toList then some v else getM key r
def getV (v : V) (key : ByteArray) : Option V := if v.kind = 5 then getM key v.mp else none
def GetAns (r : Option V) (w : World) (e : Ending) (w' : World) : Prop :=
  Below w.heap.size w w' ∧ ((r = none ∧ e = .returned (.tuple #[.agg zero6, .bool false])) ∨ ∃ (x : V) (o : C6), r = some x ∧ e = .returned (.tuple #[.agg o.arr, .bool true]) ∧ Val w' (fun b => w.heap.size ≤ b ∧ b < w'.heap.size) 1000000 (canon x) o.arr)
def GetRel (w : World) (key : ByteArray) (m : List (ByteArray × V)) (k : Nat) (i : Value) (wr : World) : Prop :=
  ∃ j : Nat, j + k = m.length ∧ i = .int .i64 j ∧ Whole wr (w.heap.size + 1) 38 zero6 ∧ getM key (m.drop j) = getM key m ∧ Below w.heap.size w wr
theorem vsizeM_mem {x : ByteArray × V} : ∀ {l : List (ByteArray × V)}, x ∈ l → vsize x.2 ≤ vsizeM l
  | (s, v) :: r, h => by
    rw [vsizeM]
    rcases List.mem_cons.1 h with rfl | h
    · dsimp only; omega
    · have := vsizeM_mem h; omega

set_option maxRecDepth 100000 in
set_option maxHeartbeats 4000000 in
theorem Get_any (v : V) (key : ByteArray) (cs : Array Value) (B : Nat) (w : World) (hv : Val w (· < B) 1000000 v cs) (hB : B ≤ w.heap.size) (hsz : vsize v ≤ 1000000) :
    Calls Tryd.prog 15 #[.agg cs, .string key] w (GetAns (getV v key) w) := by
  cases v with
  | mk k y n t l m =>
  rw [Val] at hv
  obtain ⟨A1, c1, A2, c2, rfl, ⟨h1c, h2c, ht, hl, hm, hn1, hn2⟩, hvl, hvm⟩ := hv
  by_cases k5 : k = 5
  · subst k5
    have hg : getV (.mk 5 y n t l m) key = getM key m := by simp [getV, V.kind, V.mp]
    rw [hg]
    obtain ⟨R, hR⟩ : ∃ R, getM key m = R := ⟨_, rfl⟩
    rw [hR]
    have hsm : vsizeM m ≤ 1000000 := by rw [vsize, if_neg (by omega), if_pos rfl] at hsz; omega
    have HV := Lib.hid (And.intro hvm (And.intro hR hsm))
    clear hvl hvm hg hR hsz hsm
    go_enter Tryd.func15, Tryd.ntmps15
    go_wp2_with fail
    go_loopg [15] m.length (GetRel w key m)
    case atStart =>
      refine ⟨0, by simp, rfl, ?_, rfl, ((Below.refl _ _).alloc (Nat.le_refl _) _).alloc (by simp) _⟩
      have := Whole.made (w.alloc (.cells #[.int .i64 5, .bool y, .int .i64 n, .string t, .slice A1 l.length c1, .slice A2 m.length c2] 38)) 38 zero6
      simpa [zero6] using this
    case round =>
      obtain ⟨j, hk, rfl, hres, hrest, hb⟩ := hrel
      have hz : w.heap.size + 1 < wr.heap.size := hres.lt
      by_cases hlt : j < m.length
      · obtain ⟨b, off, cs, rfl, hbB, hsM, hkc, hc, hx⟩ := HV.out.1.get j hlt
        obtain ⟨cj, rfl⟩ := hx.c6
        obtain ⟨s, hs⟩ : ∃ s, m[j].1 = s := ⟨_, rfl⟩
        rw [hs] at hkc
        have hck : wr.cell? ⟨b, off + j * 7, none⟩ = some (.string s) := (hb.cell (p := ⟨b, off + j * 7, none⟩) (by simp; omega)).trans (by simpa using hkc)
        have hcj : ∀ q, q < 6 → wr.cell? ⟨b, off + j * 7 + (1 + q), none⟩ = cj.arr[q]? := fun q hq => (hb.cell (p := ⟨b, off + j * 7 + (1 + q), none⟩) (by simp; omega)).trans (by simpa using hc q hq)
        obtain ⟨xk, x0, x1, x2, x3, x4, x5⟩ := cells7 hck hcj rfl
        have hj1 : (j : Int) < (m.length : Int) := by omega
        have hdrop : getM key (m.drop j) = if s.toList == key.toList then some m[j].2 else getM key (m.drop (j + 1)) := by
          rw [List.drop_eq_getElem_cons hlt]
          show getM key ((m[j].1, m[j].2) :: _) = _
          rw [getM, hs]
        have hvj := vsizeM_mem (List.getElem_mem hlt)
        have hcall := fun W (hW : Below w.heap.size w W) => Copy_any m[j].2 cj.arr B W (hx.keep (fun p hp => hW.cell (Nat.lt_of_lt_of_le hp hB)) (fun _ h => h)) (Nat.le_trans hB hW.size) (by have := HV.out.2.2; omega)
        have HX := Lib.hid (And.intro hk (And.intro hres (And.intro hrest (And.intro hb (And.intro hdrop hcall)))))
        cases hsk : (s.toList == key.toList)
        · clear hk hres hrest hb hcall hcj hc hx hck hkc hvj hdrop hs hsM
          obtain ⟨qk, qy, qn, qt, qa, qla, qca, qb, qlb, qcb⟩ := cj
          dsimp only [C6.arr] at x0 x1 x2 x3 x4 x5
          go_wp2_with fail
          go_roundg (m.length - (j + 1))
          case rel =>
            obtain ⟨hk, hres, hrest, hb, hdrop, -⟩ := HX.out
            refine ⟨j + 1, by omega, by go_num, hres.alloc _, ?_, hb.alloc hb.size _⟩
            rw [← hrest, hdrop, hsk]; rfl
          case measure => have := HX.out.1; omega
        · have f0 := hres.frozen 0
          have f1 := hres.frozen 1
          have f2 := hres.frozen 2
          have f3 := hres.frozen 3
          have f4 := hres.frozen 4
          have f5 := hres.frozen 5
          have hbz := hb.size
          clear hk hrest hcall hcj hc hx hck hkc hvj hdrop hs hsM
          obtain ⟨qk, qy, qn, qt, qa, qla, qca, qb, qlb, qcb⟩ := cj
          dsimp only [C6.arr] at x0 x1 x2 x3 x4 x5 HX
          go_wp2_with fail
          refine (HX.out.2.2.2.2.2 _ (hb.alloc hbz _)).mono ?_
          rintro e W2 ⟨⟨o, rfl, ho⟩, hb2⟩
          have hb3 : Below wr.heap.size wr W2 := ((Below.refl _ _).alloc (Nat.le_refl _) _).trans (hb2.mono (by simp))
          have hres2 := hres.below hb3 hres.lt
          obtain ⟨a0, a1, a2, a3, a4, a5⟩ := Whole.six hres2
          have g0 := hres2.frozen 0
          have g1 := hres2.frozen 1
          have g2 := hres2.frozen 2
          have g3 := hres2.frozen 3
          have g4 := hres2.frozen 4
          have g5 := hres2.frozen 5
          have hz2 : w.heap.size + 1 < W2.heap.size := hres2.lt
          have HO := Lib.hid (And.intro ho (And.intro hb2 (hb.trans (hb3.mono hbz))))
          clear ho hb2 hb3 hres hres2 hb f0 f1 f2 f3 f4 f5 x0 x1 x2 x3 x4 x5 xk
          obtain ⟨ok, oy, on_, ot, oa, ola, oca, ob, olb, ocb⟩ := o
          dsimp only [C6.arr] at HO ⊢
          go_wp2_with fail
          refine bodyPost_ret (v := .tuple #[.agg (C6.arr ⟨ok, oy, on_, ot, oa, ola, oca, ob, olb, ocb⟩), .bool true]) (by simp [results, Tryd.results15, go_sem, a0, a1, a2, a3, a4, a5, C6.arr]) rfl ⟨?_, .inr ⟨m[j].2, ⟨ok, oy, on_, ot, oa, ola, oca, ob, olb, ocb⟩, ?_, rfl, ?_⟩⟩
          · have hbw := HO.out.2.2
            exact (((((hbw.setCell (by simp) _).setCell (by simp) _).setCell (by simp) _).setCell (by simp) _).setCell (by simp) _).setCell (by simp) _
          · rw [← HV.out.2.1, ← HX.out.2.2.1, HX.out.2.2.2.2.1, hsk]; rfl
          · obtain ⟨ho, hb2, hbw⟩ := HO.out
            refine Val.keep (fun p hp => World.cell?_of_block ?_) (fun b hb => ?_) ho
            · have h1 := hp.1
              simp at h1
              have hne : p.block ≠ w.heap.size + 1 := by omega
              exact (Below.heap_setCell _ _ _ _ hne).trans ((Below.heap_setCell _ _ _ _ hne).trans ((Below.heap_setCell _ _ _ _ hne).trans ((Below.heap_setCell _ _ _ _ hne).trans ((Below.heap_setCell _ _ _ _ hne).trans (Below.heap_setCell _ _ _ _ hne)))))
            · have h1 := hb.1
              simp at h1
              exact ⟨by omega, by have := hb.2; simpa using this⟩
      · have hjl : j = m.length := by omega
        subst hjl
        obtain ⟨a0, a1, a2, a3, a4, a5⟩ := Whole.six hres
        have g0 := hres.frozen 0
        have g1 := hres.frozen 1
        have g2 := hres.frozen 2
        have g3 := hres.frozen 3
        have g4 := hres.frozen 4
        have g5 := hres.frozen 5
        have HX := Lib.hid (And.intro hrest hb)
        clear hres hrest hb hk
        go_wp2_with fail
        refine bodyPost_ret (v := .tuple #[.agg zero6, .bool false]) (by simp [results, Tryd.results15, go_sem, a0, a1, a2, a3, a4, a5, zero6]) rfl ⟨?_, .inl ⟨?_, rfl⟩⟩
        · have hbw := HX.out.2
          exact (((((hbw.setCell (by simp) _).setCell (by simp) _).setCell (by simp) _).setCell (by simp) _).setCell (by simp) _).setCell (by simp) _
        · rw [← HV.out.2.1, ← HX.out.1, List.drop_of_length_le (Nat.le_refl _)]; rfl
  · have hg : getV (.mk k y n t l m) key = none := by simp [getV, V.kind, k5]
    rw [hg]
    have e5 : (k != 5) = true := by simpa using k5
    clear hvl hvm hg k5
    go_enter Tryd.func15, Tryd.ntmps15
    go_wp2_with fail
    refine bodyPost_ret (v := .tuple #[.agg zero6, .bool false]) (by simp [results, Tryd.results15, go_sem, zero6]) rfl ⟨?_, .inl ⟨rfl, rfl⟩⟩
    repeat (first | exact Below.refl _ _ | refine Below.setCell ?_ (by simp <;> omega) _ | refine Below.alloc ?_ (by simp <;> omega) _)
end Go.Proofs.YtdpohklklmkjbaaDoor

namespace Go.Proofs.YtdpohklklmkjbaaDoor
open Go.RowKit Go.Lib Go.Shelf Go.Sort
set_option linter.unusedVariables false
set_option linter.unusedSimpArgs false

def NoRel (W : World) (k : Nat) (i : Value) (wr : World) : Prop := i = .int .i64 0 ∧ W = wr

set_option maxRecDepth 100000 in
set_option maxHeartbeats 4000000 in
theorem Members_none (A : Option Addr) (c : Nat) (w : World) (hA : A = none → c = 0) :
    Calls Tryd.prog 27 #[.slice A 0 c] w fun e w' => MemAns w w' [] e ∧ Below w.heap.size w w' := by
  have hval : Val w (· < w.heap.size) 1000000 (.mk 5 false 0 ⟨#[]⟩ [] []) #[.int .i64 5, .bool false, .int .i64 0, .string ⟨#[]⟩, .slice none 0 0, .slice A 0 c] := by
    rw [Val]
    exact ⟨none, 0, A, c, by simp, ⟨by simp, by simp, by simp [ByteArray.size], by simp, by simp, fun _ => rfl, hA⟩, by rw [ValL]; trivial, by rw [ValM]; trivial⟩
  have HV := Lib.hid hval
  clear hval
  go_enter Tryd.func27, Tryd.ntmps27
  go_wp2_with fail
  refine (Copy_made _ _ w.heap.size _ (HV.out.keep (fun p hp => Below.cell ((Below.refl w.heap.size w).alloc (Nat.le_refl _) _) hp) (fun _ h => h)) (by simp) (by simp [vsize, vsizeM])).mono ?_
  rintro e W1 ⟨⟨o, rfl, hm⟩, hb1⟩
  obtain ⟨b, cap, rfl, hbn⟩ := hm.empty
  have hzA : (w.alloc (.cells zero6 38)).heap.size = w.heap.size + 1 := by simp
  have hb1' : Below (w.heap.size + 1) (w.alloc (.cells zero6 38)) W1 := hzA ▸ hb1
  have hres : Whole W1 w.heap.size 38 zero6 := (Whole.made w _ _).below hb1' (by omega)
  have hz1 : w.heap.size + 1 ≤ W1.heap.size := by have := hb1'.size; omega
  have hbw : Below w.heap.size w W1 := ((Below.refl w.heap.size w).alloc (Nat.le_refl _) _).trans (hb1'.mono (by omega))
  have HX := Lib.hid (And.intro hres (And.intro hbw hbn))
  clear hm hb1 hb1' hres hbw hbn hzA HV
  simp only [C6.arr]
  go_wp2_with fail
  obtain ⟨W2, hW2⟩ : ∃ W2, W1.alloc (.cells #[.int .i64 5, .bool false, .int .i64 0, .string ⟨#[]⟩, .slice none 0 0, .slice b 0 cap] 38) = W2 := ⟨_, rfl⟩
  rw [hW2]
  have hbW2 : Below W1.heap.size W1 W2 := hW2 ▸ (Below.refl _ _).alloc (Nat.le_refl _) _
  have hr2 := HX.out.1.below hbW2 HX.out.1.lt
  have h42 : Whole W2 W1.heap.size 38 #[.int .i64 5, .bool false, .int .i64 0, .string ⟨#[]⟩, .slice none 0 0, .slice b 0 cap] := hW2 ▸ Whole.made _ _ _
  obtain ⟨a0, a1, a2, a3, a4, a5⟩ := Whole.six hr2
  obtain ⟨b0, b1, b2, b3, b4, b5⟩ := h42.six
  have f0 := hr2.frozen 0
  have f1 := hr2.frozen 1
  have f2 := hr2.frozen 2
  have f3 := hr2.frozen 3
  have f4 := hr2.frozen 4
  have f5 := hr2.frozen 5
  have hz2 : w.heap.size < W2.heap.size := hr2.lt
  have hz3 : W1.heap.size < W2.heap.size := h42.lt
  have HB := Lib.hid (HX.out.2.1.trans (hbW2.mono HX.out.2.1.size))
  clear hW2 hbW2 hr2 h42
  refine (sort_none b cap W2).mono ?_
  rintro e W3 ⟨rfl, rfl⟩
  go_wp2_with fail
  go_loopg [16] 0 (NoRel W2)
  case atStart => exact ⟨rfl, rfl⟩
  case round =>
    obtain ⟨rfl, rfl⟩ := hrel
    go_wp2_with fail
    obtain ⟨W4, hW4⟩ : ∃ W4, put6 W2 w.heap.size 0 ⟨5, false, 0, ⟨#[]⟩, none, 0, 0, b, 0, cap⟩ = W4 := ⟨_, rfl⟩
    have hW4' := hW4
    unfold put6 at hW4'
    simp only [Nat.zero_add] at hW4'
    rw [hW4']
    obtain ⟨m0, m1, m2, m3, m4, m5⟩ : W4.cell? ⟨w.heap.size, 0, none⟩ = some (.int .i64 5) ∧ W4.cell? ⟨w.heap.size, 1, none⟩ = some (.bool false) ∧ W4.cell? ⟨w.heap.size, 2, none⟩ = some (.int .i64 0) ∧ W4.cell? ⟨w.heap.size, 3, none⟩ = some (.string ⟨#[]⟩) ∧ W4.cell? ⟨w.heap.size, 4, none⟩ = some (.slice none 0 0) ∧ W4.cell? ⟨w.heap.size, 5, none⟩ = some (.slice b 0 cap) := by
      rw [← hW4']
      simp [go_sem, a0, a1, a2, a3, a4, a5]
    clear hW4'
    refine bodyPost_ret (v := .tuple #[.agg #[.int .i64 5, .bool false, .int .i64 0, .string ⟨#[]⟩, .slice none 0 0, .slice b 0 cap], .nilIface]) (by simp [results, Tryd.results27, go_sem, m0, m1, m2, m3, m4, m5]) rfl ⟨?_, ?_⟩
    · refine ⟨[], by simp [canonM], fun i j hi hj hij => by simp at hi, .inl ⟨⟨5, false, 0, ⟨#[]⟩, none, 0, 0, b, 0, cap⟩, rfl, fun i h => by simp at h, ?_⟩⟩
      rw [Val]
      exact ⟨none, 0, b, cap, by simp [C6.arr], ⟨by simp, by simp, by simp [ByteArray.size], by simp, by simp, fun _ => rfl, HX.out.2.2⟩, by rw [ValL]; trivial, by rw [ValM]; trivial⟩
    · rw [← hW4]; exact below_put6 HB.out w.heap.size 0 ⟨5, false, 0, ⟨#[]⟩, none, 0, 0, b, 0, cap⟩ (Nat.le_refl _)

theorem Members_any (ms : List (ByteArray × V)) (A : Option Addr) (c B : Nat) (w : World) (hv : ValM w (· < B) 1000000 ms A 0) (hB : B ≤ w.heap.size) (hl : ms.length ≤ 1000000) (hc : ms.length ≤ c) (hA : A = none → c = 0) (hsz : vsizeM ms ≤ 900000000) :
    Calls Tryd.prog 27 #[.slice A ms.length c] w fun e w' => MemAns w w' ms e ∧ Below w.heap.size w w' := by
  by_cases hne : ms = []
  · subst hne
    exact Members_none A c w hA
  · exact Members_some ms A c B w hv hB hl hc hA hsz hne
end Go.Proofs.YtdpohklklmkjbaaDoor

namespace Go.Proofs.YtdpohklklmkjbaaDoor
open Go.RowKit Go.Lib
set_option linter.unusedVariables false
set_option linter.unusedSimpArgs false

theorem vsizeL_take : ∀ (l : List V) (j : Nat) (h : j < l.length), vsizeL (l.take (j + 1)) = vsizeL (l.take j) + vsize l[j]
  | v :: r, 0, h => by simp [vsizeL]
  | v :: r, j + 1, h => by
    have := vsizeL_take r j (by simpa using h)
    simp only [List.take_succ_cons, vsizeL, List.getElem_cons_succ] at *
    omega
theorem vsizeL_le : ∀ (l : List V) (j : Nat), vsizeL (l.take j) ≤ vsizeL l
  | [], j => by simp [vsizeL]
  | v :: r, 0 => by simp [vsizeL]
  | v :: r, j + 1 => by have := vsizeL_le r j; simp only [List.take_succ_cons, vsizeL]; omega
def RSzRel (w : World) (l : List V) (k : Nat) (n i : Value) (wr : World) : Prop :=
  ∃ j : Nat, j + k = l.length ∧ i = .int .i64 j ∧ n = .int .i64 (1 + vsizeL (l.take j) : Nat) ∧ Below w.heap.size w wr

set_option maxRecDepth 100000 in
set_option maxHeartbeats 4000000 in
theorem refsize_any : ∀ (n : Nat) (v : V) (cs : Array Value) (B : Nat) (w : World), vsize v ≤ n → n ≤ 1000000 → Val w (· < B) 1000000 v cs → B ≤ w.heap.size →
    Calls Tryd.prog 21 #[.agg cs] w fun e w' => e = .returned (.int .i64 (vsize v : Nat)) ∧ Below w.heap.size w w'
  | 0, v, cs, B, w, h, _, _, _ => by have := vsize_pos v; omega
  | n + 1, v, cs, B, w, hw, hn, hv, hB => by
    have ih := Lib.hid (refsize_any n)
    obtain ⟨c, rfl⟩ := hv.c6
    have hvp := vsize_parts v
    have HV := Lib.hid (And.intro hw hvp)
    have HP := Lib.hid (fun W (hW : Below w.heap.size w W) => parts_any v _ B W (hv.keep (fun p hp => hW.cell (Nat.lt_of_lt_of_le hp hB)) (fun _ h => h)) (Nat.le_trans hB hW.size))
    clear hv hw hvp
    obtain ⟨jk, jy, jn, jt, ja, jla, jca, jb, jlb, jcb⟩ := c
    dsimp only [C6.arr] at HP ⊢
    have hb0 : ∀ o, Below w.heap.size w (w.alloc o) := fun o => (Below.refl _ _).alloc (Nat.le_refl _) _
    go_enter Tryd.func21, Tryd.ntmps21
    go_wp2_with fail
    refine (HP.out _ (hb0 _)).mono ?_
    rintro e W ⟨⟨A, c, rfl, hpc, hpl, hvl⟩, hb⟩
    obtain ⟨l, hl⟩ : ∃ l, parts v = l := ⟨_, rfl⟩
    rw [hl] at hpc hpl hvl HV ⊢
    have HX := Lib.hid (And.intro hvl ((hb0 _).trans (hb.mono (by simp))))
    have hzW : w.heap.size < W.heap.size := by have := hb.size; simp at this; omega
    clear hvl hb hl HP
    go_wp2_with fail
    go_loopg [3, 10] l.length (RSzRel W l)
    case atStart => exact ⟨0, by simp, rfl, by simp [vsizeL], Below.refl _ _⟩
    case round =>
      obtain ⟨j, hk, rfl, rfl, hb⟩ := hrel
      by_cases hlt : j < l.length
      · obtain ⟨b, off, cs, rfl, hbB, hc, hx⟩ := HX.out.1.get j hlt
        obtain ⟨cj, rfl⟩ := hx.c6
        have hcj : ∀ q, q < 6 → wr.cell? ⟨b, off + j * 6 + q, none⟩ = cj.arr[q]? := fun q hq => (hb.cell (p := ⟨b, off + j * 6 + q, none⟩) hbB).trans (by simpa using hc q hq)
        obtain ⟨x0, x1, x2, x3, x4, x5⟩ := cells6 hcj rfl
        have htk := vsizeL_take l j hlt
        have hle := vsizeL_le l (j + 1)
        have hwj : vsize l[j] ≤ n := by have := HV.out; omega
        have hcall := ih.out l[j] cj.arr W.heap.size wr hwj (by omega) (hx.keep (fun p hp => hb.cell hp) (fun _ h => h)) hb.size
        obtain ⟨a, ha⟩ : ∃ a, vsizeL (l.take j) = a := ⟨_, rfl⟩
        obtain ⟨x, hxx⟩ : ∃ x, vsize l[j] = x := ⟨_, rfl⟩
        rw [ha] at htk ⊢
        rw [hxx] at hcall htk
        have hs1 : 1 + a + x ≤ 1000000 := by have := HV.out; omega
        have HC := Lib.hid (And.intro hcall (And.intro htk (And.intro hk hb)))
        have hj1 : (j : Int) < (l.length : Int) := by omega
        clear hcall hk hb hcj hc hx ha hxx htk hle hwj
        obtain ⟨qk, qy, qn, qt, qa, qla, qca, qb, qlb, qcb⟩ := cj
        dsimp only [C6.arr] at x0 x1 x2 x3 x4 x5 HC
        go_wp2_with fail
        refine HC.out.1.mono ?_
        rintro e W2 ⟨rfl, hb2⟩
        go_wp2_with fail
        go_roundg (l.length - (j + 1))
        case rel =>
          obtain ⟨-, htk, hk, hb⟩ := HC.out
          refine ⟨j + 1, by omega, by go_num, ?_, hb.trans (hb2.mono hb.size)⟩
          rw [htk]
          congr 1
          omega
        case measure => have := HC.out.2.2.1; omega
      · obtain rfl : j = l.length := by omega
        have hsL : vsizeL (l.take l.length) = vsizeL l := by rw [List.take_length]
        rw [hsL]
        have HB := Lib.hid hb
        clear hsL hb hk
        go_wp2_with fail
        go_ret
        exact ⟨by rw [HV.out.2]; rfl, HX.out.2.trans (HB.out.mono HX.out.2.size)⟩

def RGetAns (r : Option V) (B : Nat) (w : World) (e : Ending) (w' : World) : Prop :=
  Below w.heap.size w w' ∧ ((r = none ∧ e = .returned (.tuple #[.agg zero6, .bool false])) ∨ ∃ (x : V) (o : C6), r = some x ∧ e = .returned (.tuple #[.agg o.arr, .bool true]) ∧ Val w (· < B) 1000000 x o.arr)
def RGetRel (w : World) (key : ByteArray) (m : List (ByteArray × V)) (box : Array Value) (k : Nat) (i : Value) (wr : World) : Prop :=
  ∃ j : Nat, j + k = m.length ∧ i = .int .i64 j ∧ Whole wr w.heap.size 25 box ∧ Whole wr (w.heap.size + 1) 25 zero6 ∧ getM key (m.drop j) = getM key m ∧ Below w.heap.size w wr

set_option maxRecDepth 100000 in
set_option maxHeartbeats 4000000 in
theorem refget_any (v : V) (key : ByteArray) (cs : Array Value) (B : Nat) (w : World) (hv : Val w (· < B) 1000000 v cs) (hB : B ≤ w.heap.size) :
    Calls Tryd.prog 16 #[.agg cs, .string key] w (RGetAns (getV v key) B w) := by
  cases v with
  | mk k y n t l m =>
  rw [Val] at hv
  obtain ⟨A1, c1, A2, c2, rfl, ⟨h1c, h2c, ht, hl, hm, hn1, hn2⟩, hvl, hvm⟩ := hv
  by_cases k5 : k = 5
  · subst k5
    have hg : getV (.mk 5 y n t l m) key = getM key m := by simp [getV, V.kind, V.mp]
    rw [hg]
    obtain ⟨R, hR⟩ : ∃ R, getM key m = R := ⟨_, rfl⟩
    rw [hR]
    have HV := Lib.hid (And.intro hvm hR)
    clear hvl hvm hg hR
    go_enter Tryd.func16, Tryd.ntmps16
    go_wp2_with fail
    go_loopg [13] m.length (RGetRel w key m #[.int .i64 5, .bool y, .int .i64 n, .string t, .slice A1 l.length c1, .slice A2 m.length c2])
    case atStart =>
      refine ⟨0, by simp, rfl, (Whole.made w _ _).alloc _, ?_, rfl, ((Below.refl _ _).alloc (Nat.le_refl _) _).alloc (by simp) _⟩
      have := Whole.made (w.alloc (.cells #[.int .i64 5, .bool y, .int .i64 n, .string t, .slice A1 l.length c1, .slice A2 m.length c2] 25)) 25 zero6
      simpa [zero6] using this
    case round =>
      obtain ⟨j, hk, rfl, hbox, hres, hrest, hb⟩ := hrel
      have hz : w.heap.size + 1 < wr.heap.size := hres.lt
      have b5 := hbox.cell 5
      simp at b5
      obtain ⟨a0, a1, a2, a3, a4, a5⟩ := Whole.six hres
      have g0 := hres.frozen 0
      have g1 := hres.frozen 1
      have g2 := hres.frozen 2
      have g3 := hres.frozen 3
      have g4 := hres.frozen 4
      have g5 := hres.frozen 5
      by_cases hlt : j < m.length
      · obtain ⟨b, off, cs, rfl, hbB, hsM, hkc, hc, hx⟩ := HV.out.1.get j hlt
        obtain ⟨cj, rfl⟩ := hx.c6
        obtain ⟨s, hs⟩ : ∃ s, m[j].1 = s := ⟨_, rfl⟩
        rw [hs] at hkc
        have hck : wr.cell? ⟨b, off + j * 7, none⟩ = some (.string s) := (hb.cell (p := ⟨b, off + j * 7, none⟩) (by simp; omega)).trans (by simpa using hkc)
        have hcj : ∀ q, q < 6 → wr.cell? ⟨b, off + j * 7 + (1 + q), none⟩ = cj.arr[q]? := fun q hq => (hb.cell (p := ⟨b, off + j * 7 + (1 + q), none⟩) (by simp; omega)).trans (by simpa using hc q hq)
        obtain ⟨xk, x0, x1, x2, x3, x4, x5⟩ := cells7 hck hcj rfl
        have hj1 : (j : Int) < (m.length : Int) := by omega
        have hdrop : getM key (m.drop j) = if s.toList == key.toList then some m[j].2 else getM key (m.drop (j + 1)) := by
          rw [List.drop_eq_getElem_cons hlt]
          show getM key ((m[j].1, m[j].2) :: _) = _
          rw [getM, hs]
        have HX := Lib.hid (And.intro hk (And.intro hbox (And.intro hres (And.intro hrest (And.intro hb (And.intro hdrop hx))))))
        cases hsk : (s.toList == key.toList)
        · clear hk hbox hres hrest hb hcj hc hx hck hkc hdrop hs hsM
          obtain ⟨qk, qy, qn, qt, qa, qla, qca, qb, qlb, qcb⟩ := cj
          dsimp only [C6.arr] at x0 x1 x2 x3 x4 x5
          go_wp2_with fail
          go_roundg (m.length - (j + 1))
          case rel =>
            obtain ⟨hk, hbox, hres, hrest, hb, hdrop, -⟩ := HX.out
            exact ⟨j + 1, by omega, by go_num, hbox, hres, by rw [← hrest, hdrop, hsk]; rfl, hb⟩
          case measure => have := HX.out.1; omega
        · clear hk hbox hres hrest hb hcj hc hx hck hkc hdrop hs hsM
          obtain ⟨qk, qy, qn, qt, qa, qla, qca, qb, qlb, qcb⟩ := cj
          dsimp only [C6.arr] at x0 x1 x2 x3 x4 x5
          go_wp2_with fail
          refine bodyPost_ret (v := .tuple #[.agg (C6.arr ⟨qk, qy, qn, qt, qa, qla, qca, qb, qlb, qcb⟩), .bool true]) (by simp [results, Tryd.results16, go_sem, a0, a1, a2, a3, a4, a5, C6.arr]) rfl ⟨?_, .inr ⟨m[j].2, ⟨qk, qy, qn, qt, qa, qla, qca, qb, qlb, qcb⟩, ?_, rfl, HX.out.2.2.2.2.2.2⟩⟩
          · have hbw := HX.out.2.2.2.2.1
            exact (((((hbw.setCell (by simp) _).setCell (by simp) _).setCell (by simp) _).setCell (by simp) _).setCell (by simp) _).setCell (by simp) _
          · rw [← HV.out.2, ← HX.out.2.2.2.1, HX.out.2.2.2.2.2.1, hsk]; rfl
      · have hjl : j = m.length := by omega
        subst hjl
        have HX := Lib.hid (And.intro hrest hb)
        clear hbox hres hrest hb hk
        go_wp2_with fail
        refine bodyPost_ret (v := .tuple #[.agg zero6, .bool false]) (by simp [results, Tryd.results16, go_sem, a0, a1, a2, a3, a4, a5, zero6]) rfl ⟨?_, .inl ⟨?_, rfl⟩⟩
        · have hbw := HX.out.2
          exact (((((hbw.setCell (by simp) _).setCell (by simp) _).setCell (by simp) _).setCell (by simp) _).setCell (by simp) _).setCell (by simp) _
        · rw [← HV.out.2, ← HX.out.1, List.drop_of_length_le (Nat.le_refl _)]; rfl
  · have hg : getV (.mk k y n t l m) key = none := by simp [getV, V.kind, k5]
    rw [hg]
    have e5 : (k == 5) = false := by simpa using k5
    clear hvl hvm hg k5
    go_enter Tryd.func16, Tryd.ntmps16
    go_wp2_with fail
    refine bodyPost_ret (v := .tuple #[.agg zero6, .bool false]) (by simp [results, Tryd.results16, go_sem, zero6]) rfl ⟨?_, .inl ⟨rfl, rfl⟩⟩
    repeat (first | exact Below.refl _ _ | refine Below.setCell ?_ (by simp <;> omega) _ | refine Below.alloc ?_ (by simp <;> omega) _)
end Go.Proofs.YtdpohklklmkjbaaDoor

namespace Go.Proofs.YtdpohklklmkjbaaDoor
open Go.RowKit Go.Lib
set_option linter.unusedVariables false
set_option linter.unusedSimpArgs false

mutual
theorem same_refl : ∀ v, same v v = true
  | .mk k y n t l m => by
    rw [same]
    have h1 := sameL_refl l
    have h2 := sameM_refl m
    simp [h1, h2]
theorem sameL_refl : ∀ l, sameL l l = true
  | [] => by rw [sameL]
  | v :: r => by rw [sameL, same_refl v, sameL_refl r]; rfl
theorem sameM_refl : ∀ l, sameM l l = true
  | [] => by rw [sameM]
  | (s, v) :: r => by rw [sameM, same_refl v, sameM_refl r]; simp
end
mutual
theorem same_canon : ∀ v, same (canon v) v = true
  | .mk k y n t l m => by
    have h1 := sameL_canon l
    have h2 := sameM_canon m
    rw [canon, same, show (k == k) = true by simp, Bool.true_and]
    by_cases k1 : k = 1
    · subst k1; simp
    rw [if_neg k1]
    by_cases k2 : k = 2
    · subst k2; simp
    rw [if_neg k2]
    by_cases k3 : k = 3
    · subst k3; simp
    rw [if_neg k3]
    by_cases k4 : k = 4
    · subst k4; simpa using h1
    rw [if_neg k4]
    by_cases k5 : k = 5
    · subst k5; simpa using h2
    rw [if_neg k5]
theorem sameL_canon : ∀ l, sameL (canonL l) l = true
  | [] => by rw [canonL, sameL]
  | v :: r => by rw [canonL, sameL, same_canon v, sameL_canon r]; rfl
theorem sameM_canon : ∀ l, sameM (canonM l) l = true
  | [] => by rw [canonM, sameM]
  | (s, v) :: r => by rw [canonM, sameM, same_canon v, sameM_canon r]; simp
end
theorem beq_swap {α : Type} [BEq α] [LawfulBEq α] (a b : α) : (a == b) = (b == a) := by
  by_cases h : a = b
  · subst h; rfl
  · rw [beq_eq_false_iff_ne.2 h, beq_eq_false_iff_ne.2 (fun e => h e.symm)]
mutual
theorem same_symm : ∀ v v', same v v' = same v' v
  | .mk k y n t l m, .mk k' y' n' t' l' m' => by
    have h1 := sameL_symm l l'
    have h2 := sameM_symm m m'
    rw [same, same, beq_swap k k']
    by_cases hk : k = k'
    · subst hk
      rw [beq_swap y y', beq_swap n n', beq_swap t.toList t'.toList, h1, h2]
    · rw [show (k' == k) = false by rw [beq_eq_false_iff_ne]; exact fun e => hk e.symm]; rfl
theorem sameL_symm : ∀ l l', sameL l l' = sameL l' l
  | [], [] => rfl
  | [], _ :: _ => by simp [sameL]
  | _ :: _, [] => by simp [sameL]
  | v :: r, v' :: r' => by rw [sameL, sameL, same_symm v v', sameL_symm r r']
theorem sameM_symm : ∀ l l', sameM l l' = sameM l' l
  | [], [] => rfl
  | [], _ :: _ => by simp [sameM]
  | _ :: _, [] => by simp [sameM]
  | (s, v) :: r, (s', v') :: r' => by rw [sameM, sameM, same_symm v v', sameM_symm r r', beq_swap s.toList s'.toList]
end
/-! What counts of a value is as much, and as deep. -/
mutual
theorem vsize_canon : ∀ v, vsize (canon v) = vsize v
  | .mk k y n t l m => by
    have h1 := vsizeL_canon l
    have h2 := vsizeM_canon m
    rw [canon, vsize, vsize]
    by_cases k4 : k = 4
    · simp [k4, h1]
    · by_cases k5 : k = 5
      · simp [k5, h2]
      · simp [k4, k5]
theorem vsizeL_canon : ∀ l, vsizeL (canonL l) = vsizeL l
  | [] => by rw [canonL]
  | v :: r => by rw [canonL, vsizeL, vsizeL, vsize_canon v, vsizeL_canon r]
theorem vsizeM_canon : ∀ l, vsizeM (canonM l) = vsizeM l
  | [] => by rw [canonM]
  | (s, v) :: r => by rw [canonM, vsizeM, vsizeM, vsize_canon v, vsizeM_canon r]
end
mutual
theorem vsize_wgt : ∀ v, vsize v ≤ wgt v
  | .mk k y n t l m => by
    have h1 := vsizeL_wgt l
    have h2 := vsizeM_wgt m
    rw [vsize, wgt]
    split <;> split <;> omega
theorem vsizeL_wgt : ∀ l, vsizeL l ≤ wgtL l
  | [] => by simp [vsizeL]
  | v :: r => by have h1 := vsize_wgt v; have h2 := vsizeL_wgt r; rw [vsizeL, wgtL]; omega
theorem vsizeM_wgt : ∀ l, vsizeM l ≤ wgtM l
  | [] => by simp [vsizeM]
  | (s, v) :: r => by have h1 := vsize_wgt v; have h2 := vsizeM_wgt r; rw [vsizeM, wgtM]; omega
end
mutual
theorem wgt_canon : ∀ v, wgt (canon v) ≤ wgt v
  | .mk k y n t l m => by
    have h1 := wgtL_canon l
    have h2 := wgtM_canon m
    have h0 : (ByteArray.mk #[]).size = 0 := rfl
    rw [canon, wgt, wgt]
    have a1 : (if k = 3 then t else ⟨#[]⟩ : ByteArray).size ≤ t.size := by split <;> omega
    have a2 : wgtL (if k = 4 then canonL l else []) ≤ wgtL l := by
      split
      · exact h1
      · simp [wgtL]
    have a3 : wgtM (if k = 5 then canonM m else []) ≤ wgtM m := by
      split
      · exact h2
      · simp [wgtM]
    omega
theorem wgtL_canon : ∀ l, wgtL (canonL l) ≤ wgtL l
  | [] => by rw [canonL]; exact Nat.le_refl _
  | v :: r => by have h1 := wgt_canon v; have h2 := wgtL_canon r; rw [canonL, wgtL, wgtL]; omega
theorem wgtM_canon : ∀ l, wgtM (canonM l) ≤ wgtM l
  | [] => by rw [canonM]; exact Nat.le_refl _
  | (s, v) :: r => by have h1 := wgt_canon v; have h2 := wgtM_canon r; rw [canonM, wgtM, wgtM]; omega
end
end Go.Proofs.YtdpohklklmkjbaaDoor

namespace Go.Proofs.YtdpohklklmkjbaaDoor
open Go.RowKit Go.Lib
set_option linter.unusedVariables false
set_option linter.unusedSimpArgs false

/-- No key stands ahead of a lesser one. -/
def SortedK : List ByteArray → Prop
  | [] => True
  | s :: r => (∀ q ∈ r, Op.bytesLess q.data.toList s.data.toList = false) ∧ SortedK r
theorem key_eq {a b : ByteArray} (h1 : Op.bytesLess a.data.toList b.data.toList = false) (h2 : Op.bytesLess b.data.toList a.data.toList = false) : a = b := by
  have := less_tri _ _ h1 h2
  exact ByteArray.ext (Array.toList_inj.1 this)
theorem sortedK_unique : ∀ {l l' : List ByteArray}, l.Perm l' → SortedK l → SortedK l' → l = l'
  | [], l', hp, _, _ => by rw [List.nil_perm.1 hp]
  | s :: r, [], hp, _, _ => by have := hp.length_eq; simp at this
  | s :: r, s' :: r', hp, h, h' => by
    have e : s = s' := by
      rcases List.mem_cons.1 (hp.mem_iff.1 (List.mem_cons_self (a := s) (l := r))) with e | hm
      · exact e
      rcases List.mem_cons.1 (hp.mem_iff.2 (List.mem_cons_self (a := s') (l := r'))) with e | hm'
      · exact e.symm
      exact key_eq (h'.1 s hm) (h.1 s' hm')
    subst e
    rw [sortedK_unique (List.Perm.cons_inv hp) h.2 h'.2]
theorem sortedM_K : ∀ {ms : List (ByteArray × V)}, SortedM ms → SortedK (ms.map (·.1))
  | [], _ => trivial
  | (s, v) :: r, h => by
    refine ⟨fun q hq => ?_, sortedM_K fun i j hi hj hij => ?_⟩
    · obtain ⟨p, hp, rfl⟩ := List.mem_map.1 hq
      obtain ⟨i, hi, rfl⟩ := List.getElem_of_mem hp
      exact h 0 (i + 1) (by simp) (by simpa using hi) (by omega)
    · exact h (i + 1) (j + 1) (by simpa using hi) (by simpa using hj) (by omega)
/-- Pairs whose keys stand alike, and are all unlike, are the same in both rows. -/
theorem pairs_eq : ∀ {l l' : List (ByteArray × V)}, l.Perm l' → l.map (·.1) = l'.map (·.1) → (l.map (·.1)).Nodup → l = l'
  | [], l', hp, _, _ => by rw [List.nil_perm.1 hp]
  | x :: r, [], hp, _, _ => by have := hp.length_eq; simp at this
  | x :: r, x' :: r', hp, he, hn => by
    simp only [List.map_cons, List.cons.injEq] at he
    simp only [List.map_cons, List.nodup_cons] at hn
    have hxx : x = x' := by
      rcases List.mem_cons.1 (hp.mem_iff.1 (List.mem_cons_self (a := x) (l := r))) with e | hm
      · exact e
      · exfalso
        apply hn.1
        rw [he.2]
        exact List.mem_map.2 ⟨x, hm, rfl⟩
    subst hxx
    rw [pairs_eq (List.Perm.cons_inv hp) he.2 hn.2]
theorem noTwice_nodup : ∀ {ms : List (ByteArray × V)}, SortedM ms → NoTwice ms ms.length → (ms.map (·.1)).Nodup
  | [], _, _ => by simp
  | (s, v) :: r, h, hn => by
    have hs := sortedM_K h
    have hr : SortedM r := fun i j hi hj hij => h (i + 1) (j + 1) (by simpa using hi) (by simpa using hj) (by omega)
    have hnr : NoTwice r r.length := fun i hi hij => hn (i + 1) (by simpa using hi) (by simpa using hi)
    have ih := noTwice_nodup hr hnr
    simp only [List.map_cons, List.nodup_cons]
    refine ⟨fun hm => ?_, ih⟩
    cases r with
    | nil => simp at hm
    | cons y r' =>
      obtain ⟨q, u⟩ := y
      have h0 : s ≠ q := hn 0 (by simp) (by simp)
      rcases List.mem_cons.1 hm with e | hm
      · exact h0 e
      · have h1 := hs.1 q (by simp)
        have h2 := hs.2.1 s hm
        exact h0 (key_eq h2 h1)
theorem canonM_map : ∀ l : List (ByteArray × V), canonM l = l.map fun p => (p.1, canon p.2)
  | [] => by rw [canonM]; rfl
  | (s, v) :: r => by rw [canonM, canonM_map r]; rfl
theorem canonM_keys (l : List (ByteArray × V)) : (canonM l).map (·.1) = l.map (·.1) := by rw [canonM_map, List.map_map]; rfl
theorem canonM_perm {l l' : List (ByteArray × V)} (h : l.Perm l') : (canonM l).Perm (canonM l') := by rw [canonM_map, canonM_map]; exact h.map _
/-- Two sorted rows, one of the members and one of what counts of them: the keys stand alike; and, if no key stands twice, the one is what counts of the other. -/
theorem sorted_both {ms dm ms' : List (ByteArray × V)} (hp' : ms'.Perm (canonM ms)) (hs' : SortedM ms') (hp : dm.Perm ms) (hs : SortedM dm) : ms'.map (·.1) = dm.map (·.1) ∧ (NoTwice ms' ms'.length → ms' = canonM dm) := by
  have h1 : ms'.Perm (canonM dm) := hp'.trans (canonM_perm hp.symm)
  have hk : ms'.map (·.1) = dm.map (·.1) := by
    refine sortedK_unique ?_ (sortedM_K hs') (sortedM_K hs)
    have := h1.map (·.1)
    rwa [canonM_keys] at this
  refine ⟨hk, fun hn => pairs_eq h1 (by rw [hk, canonM_keys]) (noTwice_nodup hs' hn)⟩
end Go.Proofs.YtdpohklklmkjbaaDoor

namespace Go.Proofs.YtdpohklklmkjbaaDoor
open Go.RowKit Go.Lib
set_option linter.unusedVariables false
set_option linter.unusedSimpArgs false

theorem notless_trans {a b c : List UInt8} (h1 : Op.bytesLess b a = false) (h2 : Op.bytesLess c b = false) : Op.bytesLess c a = false := by
  cases h : Op.bytesLess c a
  · rfl
  · cases h3 : Op.bytesLess a b
    · have e := less_tri a b h3 h1
      subst e
      rw [h2] at h
      cases h
    · rw [less_trans _ _ _ h h3] at h2
      cases h2
theorem less_not {a b : List UInt8} (h : Op.bytesLess a b = true) : Op.bytesLess b a = false := by
  cases h2 : Op.bytesLess b a
  · rfl
  · have := less_trans _ _ _ h h2
    rw [less_irrefl] at this
    cases this
/-- The test '>' of two texts. -/
theorem gtr_less (a b : ByteArray) : (!(Op.bytesLess a.toList b.toList || a.toList == b.toList)) = Op.bytesLess b.data.toList a.data.toList := by
  rw [Go.ByteArray.toList_eq, Go.ByteArray.toList_eq]
  cases h : Op.bytesLess b.data.toList a.data.toList
  · cases h2 : Op.bytesLess a.data.toList b.data.toList
    · have e := less_tri _ _ h2 h
      simp [e]
    · simp
  · have h2 := less_not h
    rw [h2]
    have : (a.data.toList == b.data.toList) = false := by
      apply beq_eq_false_iff_ne.2
      intro e
      rw [e, less_irrefl] at h
      cases h
    rw [this]
    rfl
def RK (p q : KVC) : Prop := Op.bytesLess q.1.1.data.toList p.1.1.data.toList = false
theorem sortedM_pair {d : List KVC} : SortedM (d.map (·.1)) ↔ d.Pairwise RK := by
  rw [List.pairwise_iff_getElem]
  constructor
  · intro h i j hi hj hij
    have := h i j (by simpa using hi) (by simpa using hj) hij
    simpa [RK] using this
  · intro h i j hi hj hij
    have := h i j (by simpa using hi) (by simpa using hj) hij
    simpa [RK] using this
def putIn (d : List KVC) (a : Nat) (x : KVC) : List KVC := d.take a ++ ([x] ++ d.drop a)
theorem putIn_length (d : List KVC) (a : Nat) (x : KVC) : (putIn d a x).length = d.length + 1 := by
  unfold putIn
  rw [List.length_append, List.length_append, List.length_take, List.length_drop]
  simp
  omega
theorem putIn_perm (d : List KVC) (a : Nat) (x : KVC) : (putIn d a x).Perm (d ++ [x]) := by
  unfold putIn
  have h1 : (d.take a ++ ([x] ++ d.drop a)).Perm (d.take a ++ (d.drop a ++ [x])) := List.Perm.append_left _ List.perm_append_comm
  rw [← List.append_assoc (d.take a) (d.drop a), List.take_append_drop] at h1
  exact h1
theorem putIn_sorted {d : List KVC} {a : Nat} {x : KVC} (ha : a ≤ d.length) (hs : SortedM (d.map (·.1))) (hlo : ∀ (h0 : 0 < a), Op.bytesLess x.1.1.data.toList (d[a - 1]'(by omega)).1.1.data.toList = false)
    (hhi : ∀ q (h : q < d.length), a ≤ q → Op.bytesLess x.1.1.data.toList d[q].1.1.data.toList = true) : SortedM ((putIn d a x).map (·.1)) := by
  rw [sortedM_pair] at hs ⊢
  have hs' := hs
  rw [← List.take_append_drop a d, List.pairwise_append] at hs'
  obtain ⟨h1, h2, h3⟩ := hs'
  have hx1 : ∀ p ∈ d.take a, RK p x := fun p hp => by
    obtain ⟨i, hi, rfl⟩ := List.getElem_of_mem hp
    rw [List.length_take] at hi
    rw [List.getElem_take]
    have hl := hlo (by omega)
    rcases Nat.lt_or_ge i (a - 1) with h | h
    · have := (List.pairwise_iff_getElem.1 hs) i (a - 1) (by omega) (by omega) h
      exact notless_trans this hl
    · have e : i = a - 1 := by omega
      subst e
      exact hl
  have hx2 : ∀ q ∈ d.drop a, RK x q := fun q hq => by
    obtain ⟨i, hi, rfl⟩ := List.getElem_of_mem hq
    rw [List.length_drop] at hi
    rw [List.getElem_drop]
    exact less_not (hhi (a + i) (by omega) (by omega))
  unfold putIn
  rw [List.pairwise_append]
  refine ⟨h1, ?_, fun p hp q hq => ?_⟩
  · rw [List.singleton_append, List.pairwise_cons]
    exact ⟨hx2, h2⟩
  · rw [List.singleton_append, List.mem_cons] at hq
    rcases hq with rfl | hq
    · exact hx1 p hp
    · exact h3 p hp q hq
theorem putIn_flat (d : List KVC) (a : Nat) (x : KVC) : (putIn d a x).flatMap encM = ((d.take a).flatMap encM ++ encM x) ++ (d.drop a).flatMap encM := by
  unfold putIn
  rw [List.flatMap_append, List.flatMap_append]
  simp [List.append_assoc]
/-- What the document's Members answers. -/
def errTwice (key : ByteArray) : Value := .agg #[.int .i64 6, .int .i64 (-1), .string (inPath key 6 ⟨#[]⟩)]
def RMemAns (w w' : World) (ms : List (ByteArray × V)) (e : Ending) : Prop :=
  ∃ dm : List (ByteArray × V), dm.Perm ms ∧ SortedM dm ∧
    ((∃ o : C6, e = .returned (.tuple #[.agg o.arr, .agg #[.int .i64 0, .int .i64 (-1), .string ⟨#[]⟩]]) ∧ NoTwice dm dm.length ∧ Val w' (· < w'.heap.size) 1000000 (.mk 5 false 0 ⟨#[]⟩ [] dm) o.arr) ∨
     (∃ i, ∃ h : i + 1 < dm.length, e = .returned (.tuple #[.agg zero6, errTwice dm[i + 1].1]) ∧ NoTwice dm (i + 1) ∧ dm[i].1 = dm[i + 1].1))
end Go.Proofs.YtdpohklklmkjbaaDoor

namespace Go.Proofs.YtdpohklklmkjbaaDoor
open Go.RowKit Go.Lib
set_option linter.unusedVariables false
set_option linter.unusedSimpArgs false


/-- A part of a row, to be appended: m members, whose cells are these. -/
def Src (w : World) (A : Option Addr) (m : Nat) (xs : List Value) : Prop :=
  xs.length = m * 7 ∧ (m = 0 ∨ ∃ g off, A = some ⟨g, off, none⟩ ∧ g < w.heap.size ∧ ∀ q u, xs[q]? = some u → w.cell? ⟨g, off + q, none⟩ = some u)
theorem Src.below {w w' : World} {A : Option Addr} {m : Nat} {xs : List Value} (h : Src w A m xs) (hb : Below w.heap.size w w') : Src w' A m xs :=
  ⟨h.1, h.2.imp id fun ⟨g, off, e, hg, hc⟩ => ⟨g, off, e, Nat.lt_of_lt_of_le hg hb.size, fun q u hu => (hb.cell (p := ⟨g, off + q, none⟩) hg).trans (hc q u hu)⟩⟩
theorem addr_add (g off q : Nat) : (⟨g, off, none⟩ : Addr).add q = ⟨g, off + q, none⟩ := by
  unfold Addr.add
  split <;> simp_all

set_option maxRecDepth 10000 in
/-- append, whatever is appended. -/
theorem app_run {w : World} {base : Nat} {v : Value} {n : Nat} {xs : List Value} (hown : w.ownsRow base 56 7 v n xs) {A : Option Addr} {m : Nat} (c : Nat) {news : List Value} (hs : Src w A m news) (h1 : ∀ u ∈ news, u.oneCell' = true) (hm : n + m ≤ 2000) (hb : base ≤ w.heap.size) (ty : TypeId) :
    ∃ v' w', (Builtin.append_ #[23, 23] ty #[v, .slice A m c]).run Tryd.prog w = .ok v' w' ∧ w'.ownsRow base 56 7 v' (n + m) (xs ++ news) ∧ w.grownBy w' v.ownBlock ∧ (v'.ownBlock = v.ownBlock ∨ v'.ownBlock = some w.heap.size) := by
  obtain ⟨i, hi, hz0, hz1, hz2⟩ := info_parts info_M
  have ht : Tryd.prog.underlying 23 = some (.slice 56) := Tryd.underlying23
  cases A with
  | none =>
    have hm0 : m = 0 := by
      rcases hs.2 with h | ⟨g, off, e, _⟩
      · exact h
      · cases e
    subst hm0
    have hn : news = [] := List.eq_nil_of_length_eq_zero (by simpa using hs.1)
    subst hn
    refine ⟨v, w, ?_, by simpa using hown, ⟨rfl, rfl, rfl, Nat.le_refl _, fun _ _ _ => rfl⟩, .inl rfl⟩
    rcases hown.2 with ⟨rfl, rfl⟩ | ⟨g, cap, cur, rfl, _, _, hnc, _⟩
    · simp [Builtin.append_, run_underlying ht, sizeOf, typeInfo, hi, Builtin.lenOf, Builtin.firstCells]
    · simp [Builtin.append_, run_underlying ht, sizeOf, typeInfo, hi, Builtin.lenOf, Builtin.firstCells, hnc, storeCells]
  | some ad =>
    have hcells : ∀ q u, news[q]? = some u → w.cell? (ad.add q) = some u := fun q u hu => by
      rcases hs.2 with h | ⟨g, off, e, _, hc⟩
      · subst h
        have hn : news = [] := List.eq_nil_of_length_eq_zero (by simpa using hs.1)
        rw [hn, List.getElem?_nil] at hu
        cases hu
      · injection e with e
        subst e
        rw [addr_add]
        exact hc q u hu
    obtain ⟨v', w', hrun, h2, h3, _, h5⟩ := run_append_own_at (P := Tryd.prog) w base 23 ty 56 i _ 7 104 ht hi hz0 hz1 hz2 rfl (by decide) v n xs hown ad m c news hs.1 hcells h1 (by unfold maxLen; omega) (by omega) hb
    exact ⟨v', w', hrun, h2, h3, h5⟩

/-- At a step of a region that draws its order: an append whose run is known. -/
theorem step_run {P : Program} {w : World} {ops : Array Oper} {o : Oper} {a : Act} {K : Act → World → Prop} {Q : Exit → Act → World → Prop} {E : Prop} (hgd : o.guard = none) (s x : Operand) (t : TypeId) (ho : o.op = .call { callee := .builtin .append, args := #[s, x], argTypes := #[t, t] })
    (v u : Value) (hs : a.eval s = v) (hx : a.eval x = u) (R : Value → World → Prop) (hr : ∃ v' w', (Builtin.append_ #[t, t] o.type #[v, u]).run P w = .ok v' w' ∧ R v' w') (h : ∀ v' w', R v' w' → K (a.put o.dst v') w') :
    if Region.wanted o (yielded ops a.tmps) = true then Oper.wp P o a w K Q else E := by
  have hw : Region.wanted o (yielded ops a.tmps) = true := by simp [Region.wanted, hgd]
  rw [if_pos hw]
  obtain ⟨v', w', hr, hR⟩ := hr
  unfold Oper.wp execOp
  simp only [ho, resolve, invoke, builtin, Sem.run_bind, Sem.run_pure, Result.andThen_ok, List.map_toArray, List.map_cons, List.map_nil, hs, hx, hr]
  exact h v' w' hR

theorem flat_split (d : List KVC) (a : Nat) : d.flatMap encM = (d.take a).flatMap encM ++ (d.drop a).flatMap encM := by
  rw [← List.flatMap_append, List.take_append_drop]
theorem encM_len (x : KVC) : (encM x).length = 7 := rfl
theorem encM_one (x : KVC) : ∀ u ∈ encM x, u.oneCell' = true := by
  intro u hu
  rw [encM, mem7] at hu
  rcases List.mem_cons.1 hu with rfl | hu
  · rfl
  · exact C6.one _ u hu
theorem flat_one (d : List KVC) : ∀ u ∈ d.flatMap encM, u.oneCell' = true := fun u hu => by
  obtain ⟨x, _, hx⟩ := List.mem_flatMap.1 hu
  exact encM_one x u hx

section
variable {wr : World} {base : Nat} {aa : Option Addr} {j cc : Nat} {d : List KVC}
theorem own_cap (hown : wr.ownsRow base 56 7 (.slice aa j cc) j (d.flatMap encM)) : j ≤ cc := by
  rcases hown.2 with ⟨e, h⟩ | ⟨g, cap, cur, e, _, _, h, _⟩
  · omega
  · injection e with e1 e2 e3
    omega
theorem own_at (hown : wr.ownsRow base 56 7 (.slice aa j cc) j (d.flatMap encM)) (h0 : 0 < j) : ∃ g, aa = some ⟨g, 0, none⟩ ∧ g < wr.heap.size ∧ ∀ q u, (d.flatMap encM)[q]? = some u → wr.cell? ⟨g, q, none⟩ = some u := by
  obtain ⟨g, cap, e, _, hg⟩ := hown.form h0
  injection e with e1 e2 e3
  subst e1 e3
  refine ⟨g, rfl, hg, fun q u hu => ?_⟩
  have hq : q < (d.flatMap encM).length := by
    rcases Nat.lt_or_ge q (d.flatMap encM).length with h | h
    · exact h
    · rw [List.getElem?_eq_none h] at hu; cases hu
  rw [hown.cellAt q (by rw [← hown.1]; exact hq)]
  exact hu
set_option maxRecDepth 10000 in
theorem cut_low (hown : wr.ownsRow base 56 7 (.slice aa j cc) j (d.flatMap encM)) (hd : d.length = j) (a : Nat) (ha : a ≤ j) :
    ∃ A1 c1, (∀ W, (Instr.slice 23 (.slice aa j cc) none (some (.int .i64 a)) none).run Tryd.prog W = .ok (.slice A1 a c1) W) ∧ Src wr A1 a ((d.take a).flatMap encM) := by
  obtain ⟨i, hi, hz0, hz1, hz2⟩ := info_parts info_M
  have hcap := own_cap hown
  refine ⟨if cc = 0 then aa else aa.map (·.add (0 * 7)), cc - 0, fun W => ?_, by rw [flat_len encM 7 encM_len, List.length_take]; rw [Nat.min_eq_left (by omega)], ?_⟩
  · rw [run_slice_h W 23 aa j cc Tryd.underlying23 .i64 a (by omega) (by omega)]
    have : Tryd.prog.elem 23 = 56 := by kernel_rfl
    rw [this]
    simp [sizeOf, typeInfo, hi, sliced, hz1]
  · rcases Nat.eq_zero_or_pos a with h0 | h0
    · exact .inl h0
    · obtain ⟨g, rfl, hg, hc⟩ := own_at hown (by omega)
      refine .inr ⟨g, 0, ?_, hg, fun q u hu => ?_⟩
      · rw [if_neg (by omega)]; rfl
      · rw [Nat.zero_add]
        refine hc q u ?_
        rw [flat_split d a]
        have hq : q < ((d.take a).flatMap encM).length := by
          rcases Nat.lt_or_ge q ((d.take a).flatMap encM).length with h | h
          · exact h
          · rw [List.getElem?_eq_none h] at hu; cases hu
        rw [List.getElem?_append_left hq]
        exact hu
set_option maxRecDepth 10000 in
theorem cut_high (hown : wr.ownsRow base 56 7 (.slice aa j cc) j (d.flatMap encM)) (hd : d.length = j) (a : Nat) (ha : a ≤ j) :
    ∃ A2 c2, (∀ W, (Instr.slice 23 (.slice aa j cc) (some (.int .i64 a)) none none).run Tryd.prog W = .ok (.slice A2 (j - a) c2) W) ∧ Src wr A2 (j - a) ((d.drop a).flatMap encM) := by
  obtain ⟨i, hi, hz0, hz1, hz2⟩ := info_parts info_M
  have hcap := own_cap hown
  refine ⟨if cc = a then aa else aa.map (·.add (a * 7)), cc - a, fun W => ?_, by rw [flat_len encM 7 encM_len, List.length_drop, hd], ?_⟩
  · rw [run_slice_l W 23 aa j cc Tryd.underlying23 .i64 a (by omega) (by omega)]
    have : Tryd.prog.elem 23 = 56 := by kernel_rfl
    rw [this]
    simp [sizeOf, typeInfo, hi, sliced, hz1]
  · rcases Nat.eq_zero_or_pos (j - a) with h0 | h0
    · exact .inl h0
    · obtain ⟨g, rfl, hg, hc⟩ := own_at hown (by omega)
      refine .inr ⟨g, a * 7, ?_, hg, fun q u hu => ?_⟩
      · rw [if_neg (by omega), Option.map_some, addr_add, Nat.zero_add]
      · refine hc (a * 7 + q) u ?_
        have hl : ((d.take a).flatMap encM).length = a * 7 := by rw [flat_len encM 7 encM_len, List.length_take, Nat.min_eq_left (by omega)]
        rw [flat_split d a, List.getElem?_append_right (by omega), hl, Nat.add_sub_cancel_left]
        exact hu
end

/-- The new row so far: it lies in memory of its own. -/
structure NewRow (W0 w : World) (v : Value) (n : Nat) (xs : List Value) : Prop where
  below : Below W0.heap.size W0 w
  own : w.ownsRow W0.heap.size 56 7 v n xs
theorem app_more {W0 w : World} {v : Value} {n : Nat} {xs : List Value} (h : NewRow W0 w v n xs) {A : Option Addr} {m : Nat} (c : Nat) {news : List Value} (hs : Src w A m news) (h1 : ∀ u ∈ news, u.oneCell' = true) (hm : n + m ≤ 2000) (ty : TypeId) :
    ∃ v' w', (Builtin.append_ #[23, 23] ty #[v, .slice A m c]).run Tryd.prog w = .ok v' w' ∧ NewRow W0 w' v' (n + m) (xs ++ news) ∧ (∀ g, g < w.heap.size → v.ownBlock ≠ some g → w'.heap[g]? = w.heap[g]?) := by
  obtain ⟨v', w', hr, ho, hg, ha⟩ := app_run h.own c hs h1 hm h.below.size ty
  exact ⟨v', w', hr, ⟨h.below.grown hg h.below.size (fun k hk => (h.own.lt k hk).1), ho⟩, fun g hlt hne => hg.block g hlt (fun e => hne e.symm)⟩
section
variable {W0 : World} {k : Nat} {A : Option Addr} {a c : Nat} {d : List KVC} {x : Array Value}
abbrev E0 : Obj := .cells #[] 56
theorem new_e {W : World} (hb : Below W0.heap.size W0 W) : NewRow W0 (W.alloc E0) (.slice (some ⟨W.heap.size, 0, none⟩) 0 0) 0 [] :=
  ⟨hb.alloc hb.size _, World.ownsRow_made W #[] 0 hb.size (by simp) rfl⟩
theorem drewN_below (W0 : World) (k : Nat) : Below W0.heap.size W0 (W0.drewN k) := ⟨rfl, rfl, rfl, Nat.le_refl _, fun _ _ => rfl⟩
theorem app_e1 (hs : Src W0 A a (d.flatMap encM)) (ha : a ≤ 1000) (ty : TypeId) :
    ∃ v' w', (Builtin.append_ #[23, 23] ty #[.slice (some ⟨W0.heap.size, 0, none⟩) 0 0, .slice A a c]).run Tryd.prog ((W0.drewN k).alloc E0) = .ok v' w' ∧ NewRow W0 w' v' a (d.flatMap encM) := by
  have hn : NewRow W0 ((W0.drewN k).alloc E0) (.slice (some ⟨W0.heap.size, 0, none⟩) 0 0) 0 [] := new_e (drewN_below W0 k)
  obtain ⟨v', w', hr, h1, _⟩ := app_more hn c (hs.below hn.below) (flat_one d) (by omega) ty
  exact ⟨v', w', hr, by simpa using h1⟩
theorem app_e2 (hs : Src W0 A a (d.flatMap encM)) (ha : a ≤ 1000) (ty : TypeId) :
    ∃ v' w', (Builtin.append_ #[23, 23] ty #[.slice (some ⟨W0.heap.size, 0, none⟩) 0 0, .slice A a c]).run Tryd.prog (((W0.drewN k).alloc E0).alloc (.cells x 56)) = .ok v' w' ∧ NewRow W0 w' v' a (d.flatMap encM) ∧ Whole w' (W0.heap.size + 1) 56 x := by
  have hn0 : NewRow W0 ((W0.drewN k).alloc E0) (.slice (some ⟨W0.heap.size, 0, none⟩) 0 0) 0 [] := new_e (drewN_below W0 k)
  have hn : NewRow W0 (((W0.drewN k).alloc E0).alloc (.cells x 56)) (.slice (some ⟨W0.heap.size, 0, none⟩) 0 0) 0 [] := ⟨hn0.below.alloc hn0.below.size _, hn0.own.alloc _⟩
  obtain ⟨v', w', hr, h1, h2⟩ := app_more hn c (hs.below hn.below) (flat_one d) (by omega) ty
  have hx : Whole (((W0.drewN k).alloc E0).alloc (.cells x 56)) (W0.heap.size + 1) 56 x := by
    have := Whole.made ((W0.drewN k).alloc E0) 56 x
    have e : ((W0.drewN k).alloc E0).heap.size = W0.heap.size + 1 := by simp
    rwa [e] at this
  exact ⟨v', w', hr, by simpa using h1, (h2 _ hx.lt (by simp [Value.ownBlock])).trans hx⟩
theorem app_e3 (hs : Src W0 A a (d.flatMap encM)) (ha : a ≤ 1000) (ty : TypeId) :
    ∃ v' w', (Builtin.append_ #[23, 23] ty #[.slice (some ⟨W0.heap.size + 1, 0, none⟩) 0 0, .slice A a c]).run Tryd.prog (((W0.drewN k).alloc (.cells x 56)).alloc E0) = .ok v' w' ∧ NewRow W0 w' v' a (d.flatMap encM) ∧ Whole w' W0.heap.size 56 x := by
  have e : ((W0.drewN k).alloc (.cells x 56)).heap.size = W0.heap.size + 1 := by simp
  have hn : NewRow W0 (((W0.drewN k).alloc (.cells x 56)).alloc E0) (.slice (some ⟨W0.heap.size + 1, 0, none⟩) 0 0) 0 [] := by
    have := new_e (W0 := W0) (W := (W0.drewN k).alloc (.cells x 56)) ((drewN_below W0 k).alloc (Nat.le_refl _) _)
    rwa [e] at this
  obtain ⟨v', w', hr, h1, h2⟩ := app_more hn c (hs.below hn.below) (flat_one d) (by omega) ty
  have hx : Whole (((W0.drewN k).alloc (.cells x 56)).alloc E0) W0.heap.size 56 x := (Whole.made (W0.drewN k) 56 x).alloc _
  exact ⟨v', w', hr, by simpa using h1, (h2 _ hx.lt (by simp [Value.ownBlock])).trans hx⟩
theorem src_block {w : World} {g : Nat} {x : Array Value} (h : Whole w g 56 x) (hx : x.size = 7) : Src w (some ⟨g, 0, none⟩) 1 x.toList :=
  ⟨by simpa using hx, .inr ⟨g, 0, rfl, h.lt, fun q u hu => by rw [Nat.zero_add, h.cell q]; simpa using hu⟩⟩
theorem app_x {w : World} {v : Value} {n g : Nat} {xs : List Value} (h : NewRow W0 w v n xs) (hw : Whole w g 56 x) (y : KVC) (hx : x.toList = encM y) (hm : n ≤ 1000) (ty : TypeId) :
    ∃ v' w', (Builtin.append_ #[23, 23] ty #[v, .slice (some ⟨g, 0, none⟩) 1 1]).run Tryd.prog w = .ok v' w' ∧ NewRow W0 w' v' (n + 1) (xs ++ encM y) := by
  have hs : x.size = 7 := by rw [← Array.length_toList, hx]; rfl
  obtain ⟨v', w', hr, h1, _⟩ := app_more h 1 (src_block hw hs) (by rw [hx]; exact encM_one y) (by omega) ty
  rw [hx] at h1
  exact ⟨v', w', hr, h1⟩
theorem app_x1 {w : World} {v : Value} {n : Nat} {xs : List Value} (h : NewRow W0 w v n xs) (y : KVC) (hx : x.toList = encM y) (hm : n ≤ 1000) (ty : TypeId) :
    ∃ v' w', (Builtin.append_ #[23, 23] ty #[v, .slice (some ⟨w.heap.size, 0, none⟩) 1 1]).run Tryd.prog (w.alloc (.cells x 56)) = .ok v' w' ∧ NewRow W0 w' v' (n + 1) (xs ++ encM y) :=
  app_x ⟨h.below.alloc h.below.size _, h.own.alloc _⟩ (Whole.made w _ _) y hx hm ty
theorem app_last {w : World} {v : Value} {n m : Nat} {xs : List Value} {d' : List KVC} (h : NewRow W0 w v (n + 1) xs) (hs : Src W0 A m (d'.flatMap encM)) (hm : n + 1 + m ≤ 2000) (ty : TypeId) :
    ∃ v' w', (Builtin.append_ #[23, 23] ty #[v, .slice A m c]).run Tryd.prog w = .ok v' w' ∧ ∃ g cap, v' = .slice (some ⟨g, 0, none⟩) (n + 1 + m) cap ∧ NewRow W0 w' (.slice (some ⟨g, 0, none⟩) (n + 1 + m) cap) (n + 1 + m) (xs ++ d'.flatMap encM) := by
  obtain ⟨v', w', hr, h1, _⟩ := app_more h c (hs.below h.below) (flat_one d') (by omega) ty
  obtain ⟨g, cap, rfl, _⟩ := h1.own.form (by omega)
  exact ⟨_, w', hr, g, cap, rfl, h1⟩
end
end Go.Proofs.YtdpohklklmkjbaaDoor

namespace Go.Proofs.YtdpohklklmkjbaaDoor
open Go.RowKit Go.Lib
set_option linter.unusedVariables false
set_option linter.unusedSimpArgs false

abbrev zeroE : Array Value := #[.int .i64 0, .int .i64 0, .string ⟨#[]⟩]
def RmRel (w : World) (B : Nat) (ms : List (ByteArray × V)) (kk : Nat) (out i : Value) (wr : World) : Prop :=
  ∃ (j : Nat) (d : List KVC) (aa : Option Addr) (cc : Nat), j + kk = ms.length ∧ i = .int .i64 j ∧ out = .slice aa j cc ∧ d.length = j ∧ (d.map (·.1)).Perm (ms.take j) ∧ SortedM (d.map (·.1)) ∧ wr.ownsRow (w.heap.size + 2) 56 7 (.slice aa j cc) j (d.flatMap encM) ∧ Kids wr (· < B) d ∧
    Whole wr w.heap.size 25 zero6 ∧ Whole wr (w.heap.size + 1) 29 zeroE ∧ Below w.heap.size w wr

/-- Where the new member belongs. -/
def AtRel (W0 : World) (d : List KVC) (ks : ByteArray) (at_ : Value) (wx : World) : Prop :=
  ∃ (a n : Nat) (ha : a ≤ d.length), at_ = .int .i64 a ∧ W0.drewN n = wx ∧ (∀ h0 : 0 < a, Op.bytesLess ks.data.toList (d[a - 1]'(by omega)).1.1.data.toList = false) ∧ ∀ q (h : q < d.length), a ≤ q → Op.bytesLess ks.data.toList d[q].1.1.data.toList = true
def InRel (W0 : World) (d : List KVC) (ks : ByteArray) (k : Nat) (at_ : Value) (wr : World) : Prop :=
  ∃ n : Nat, k ≤ d.length ∧ at_ = .int .i64 k ∧ W0.drewN n = wr ∧ ∀ q (h : q < d.length), k ≤ q → Op.bytesLess ks.data.toList d[q].1.1.data.toList = true

def TwRel (W0 : World) (d : List KVC) (k : Nat) (i : Value) (wr : World) : Prop :=
  ∃ q n : Nat, q + k = d.length ∧ i = .int .i64 q ∧ NoTwice (d.map (·.1)) q ∧ W0.drewN n = wr
theorem Whole.three {w : World} {g : Nat} {t : TypeId} {a b c : Value} (h : Whole w g t #[a, b, c]) : w.cell? ⟨g, 0, none⟩ = some a ∧ w.cell? ⟨g, 1, none⟩ = some b ∧ w.cell? ⟨g, 2, none⟩ = some c := ⟨h.cell 0, h.cell 1, h.cell 2⟩
theorem own_val {w wr : World} {B : Nat} {aa : Option Addr} {j cc : Nat} {d : List KVC} (hown : wr.ownsRow (w.heap.size + 2) 56 7 (.slice aa j cc) j (d.flatMap encM)) (hd : d.length = j) (hl : j ≤ 1000) (hk : Kids wr (· < B) d) (hB : B ≤ w.heap.size) (hz : w.heap.size + 1 < wr.heap.size) :
    Val wr (fun b => b < wr.heap.size ∧ b ≠ w.heap.size ∧ b ≠ w.heap.size + 1) 1000000 (.mk 5 false 0 ⟨#[]⟩ [] (d.map (·.1))) #[.int .i64 5, .bool false, .int .i64 0, .string ⟨#[]⟩, .slice none 0 0, .slice aa j cc] := by
  rw [Val]
  have hcap := own_cap hown
  refine ⟨none, 0, aa, cc, by simp [hd], ⟨by simp, by simpa [hd] using hcap, by simp [ByteArray.size], by simp, by simp; omega, fun _ => rfl, fun e => ?_⟩, by rw [ValL]; trivial, ?_⟩
  · subst e
    rcases hown.2 with ⟨e, _⟩ | ⟨g, cap, cur, e, _⟩
    · injection e
    · cases e
  · refine ValM.mk_ fun i hi => ?_
    have hi' : i < d.length := by simpa using hi
    obtain ⟨g, rfl, hg, hc⟩ := own_at hown (by omega)
    have hgb : w.heap.size + 2 ≤ g := (hown.lt g rfl).1
    have hce : ∀ q, q < 7 → wr.cell? ⟨g, i * 7 + q, none⟩ = (encM d[i])[q]? := fun q hq => by
      have h2 := flat_get encM 7 encM_len d i q hi' hq
      have h3 : (encM d[i])[q]? = some ((encM d[i])[q]'(by rw [encM_len]; exact hq)) := List.getElem?_eq_getElem _
      rw [h3]
      exact hc _ _ (h2.trans h3)
    refine ⟨g, 0, d[i].2.arr, rfl, ⟨hg, by omega, by omega⟩, ?_, ?_, fun q hq => ?_, ?_⟩
    · rw [List.getElem_map]; exact (hk _ (List.getElem_mem hi')).1
    · rw [List.getElem_map]
      have h7 := hce 0 (by omega)
      rw [Nat.add_zero] at h7
      rw [Nat.zero_add, Nat.zero_add]
      exact h7
    · have h7 := hce (1 + q) (by omega)
      rw [C6.arr_get, Nat.zero_add, Nat.zero_add, h7, Nat.add_comm 1 q]
      rfl
    · rw [List.getElem_map]
      exact (hk _ (List.getElem_mem hi')).2.keep (fun _ _ => rfl) (fun b hb => ⟨by omega, by omega, by omega⟩)
theorem rm_step {w wr w3 : World} {B : Nat} {ms : List (ByteArray × V)} {j a : Nat} {d : List KVC} {cj : C6} {aa : Option Addr} {cc g3 cap3 : Nat} {i : Value} (hB : B ≤ w.heap.size) (hlt : j < ms.length) (ha : a ≤ d.length) (hi : i = .int .i64 ((j + 1 : Nat) : Int)) (hsM : ms[j].1.size ≤ 1000000)
    (hX : d.length = j ∧ (d.map (·.1)).Perm (ms.take j) ∧ SortedM (d.map (·.1)) ∧ wr.ownsRow (w.heap.size + 2) 56 7 (.slice aa j cc) j (d.flatMap encM) ∧ Kids wr (· < B) d ∧
      Whole wr w.heap.size 25 zero6 ∧ Whole wr (w.heap.size + 1) 29 zeroE ∧ Below w.heap.size w wr ∧ Val w (· < B) 1000000 ms[j].2 cj.arr)
    (hA : (∀ h0 : 0 < a, Op.bytesLess ms[j].1.data.toList (d[a - 1]'(by omega)).1.1.data.toList = false) ∧ ∀ q (h : q < d.length), a ≤ q → Op.bytesLess ms[j].1.data.toList d[q].1.1.data.toList = true)
    (hP : NewRow wr w3 (.slice (some ⟨g3, 0, none⟩) (a + 1 + (j - a)) cap3) (a + 1 + (j - a)) (((d.take a).flatMap encM ++ encM ((ms[j].1, ms[j].2), cj)) ++ (d.drop a).flatMap encM)) :
    RmRel w B ms (ms.length - (j + 1)) (.slice (some ⟨g3, 0, none⟩) (a + 1 + (j - a)) cap3) i w3 := by
  obtain ⟨hdl, hp, hs, hown, hkids, hw0, hw1, hb, hx⟩ := hX
  have e : a + 1 + (j - a) = j + 1 := by omega
  rw [e] at hP ⊢
  have hz := hw1.lt
  have hb3 : Below w.heap.size w w3 := hb.trans (hP.below.mono hb.size)
  rw [← putIn_flat] at hP
  refine ⟨j + 1, putIn d a ((ms[j].1, ms[j].2), cj), some ⟨g3, 0, none⟩, cap3, by omega, hi, rfl, by rw [putIn_length, hdl], ?_, putIn_sorted (x := ((ms[j].1, ms[j].2), cj)) ha hs hA.1 hA.2, ?_, ?_, hw0.below hP.below hw0.lt, hw1.below hP.below hw1.lt, hb3⟩
  · refine ((putIn_perm d a _).map (·.1)).trans ?_
    rw [List.map_append, List.take_succ_eq_append_getElem hlt]
    exact hp.append_right _
  · obtain ⟨h1, h2⟩ := hP.own
    refine ⟨h1, .inr ?_⟩
    rcases h2 with ⟨e2, _⟩ | ⟨g, cap, cur, e2, hbase, hr⟩
    · cases e2
    · exact ⟨g, cap, cur, e2, by omega, hr⟩
  · refine Kids.perm (d := d ++ [((ms[j].1, ms[j].2), cj)]) (fun p hm => ?_) (putIn_perm d a _)
    rcases List.mem_append.1 hm with hm | hm
    · exact (hkids.keep (fun q hq => hP.below.cell (Nat.lt_of_lt_of_le (Nat.lt_of_lt_of_le hq hB) hb.size)) (fun _ h => h)) p hm
    · obtain rfl := List.mem_singleton.1 hm
      exact ⟨hsM, hx.keep (fun q hq => hb3.cell (Nat.lt_of_lt_of_le hq hB)) (fun _ h => h)⟩

set_option maxRecDepth 100000 in
set_option maxHeartbeats 8000000 in
theorem refmembers_any (ms : List (ByteArray × V)) (A : Option Addr) (c B : Nat) (w : World) (hv : ValM w (· < B) 1000000 ms A 0) (hB : B ≤ w.heap.size) (hl : ms.length ≤ 1000) (hc : ms.length ≤ c) :
    Calls Tryd.prog 28 #[.slice A ms.length c] w fun e w' => RMemAns w w' ms e ∧ Below w.heap.size w w' := by
  have HV := Lib.hid hv
  clear hv
  go_enter Tryd.func28, Tryd.ntmps28
  go_wp2_with fail
  go_loopg [4, 10] ms.length (RmRel w B ms)
  case atStart =>
    refine ⟨0, [], none, 0, by simp, rfl, rfl, rfl, by simp, fun i j hi => by simp at hi, by simpa using World.ownsRow_nil _ _ _ _, fun p hp => by simp at hp, (Whole.made w _ _).alloc _, ?_, ((Below.refl _ _).alloc (Nat.le_refl _) _).alloc (by simp) _⟩
    have := Whole.made (w.alloc (.cells zero6 25)) 29 zeroE
    simpa [zero6] using this
  case round =>
    obtain ⟨j, d, aa, cc, hk, rfl, rfl, hdl, hp, hs, hown, hkids, hw0, hw1, hb⟩ := hrel
    by_cases hlt : j < ms.length
    · obtain ⟨b, off, cs, rfl, hbB, hsM, hkc, hc', hx⟩ := HV.out.get j hlt
      obtain ⟨cj, rfl⟩ := hx.c6
      obtain ⟨ks, hks⟩ : ∃ ks, ms[j].1 = ks := ⟨_, rfl⟩
      rw [hks] at hkc hsM
      have hck : wr.cell? ⟨b, off + j * 7, none⟩ = some (.string ks) := by
        rw [hb.cell (p := ⟨b, off + j * 7, none⟩) (show b < w.heap.size by omega)]
        simpa using hkc
      have hcj : ∀ q, q < 6 → wr.cell? ⟨b, off + j * 7 + (1 + q), none⟩ = cj.arr[q]? := fun q hq => by
        rw [hb.cell (p := ⟨b, off + j * 7 + (1 + q), none⟩) (show b < w.heap.size by omega)]
        simpa using hc' q hq
      obtain ⟨xk, x0, x1, x2, x3, x4, x5⟩ := cells7 hck hcj rfl
      obtain ⟨v, hv⟩ : ∃ v, ms[j].2 = v := ⟨_, rfl⟩
      have HX := Lib.hid (And.intro hk (And.intro hdl (And.intro hp (And.intro hs (And.intro hown (And.intro hkids (And.intro hw0 (And.intro hw1 (And.intro hb (And.intro hx (And.intro hks hv)))))))))))
      clear hk hdl hp hs hown hkids hw0 hw1 hx hck hcj hc' hkc hks hv
      obtain ⟨jk, jy, jn, jt, ja, jla, jca, jb, jlb, jcb⟩ := cj
      dsimp only at x0 x1 x2 x3 x4 x5
      go_upto_block 2 with (fail)
      go_cut [6] from 15 to 32 (AtRel wr d ks)
      case first =>
        go_wp2_with fail
        go_loopg [6] j (InRel wr d ks)
        case atStart => exact ⟨0, by have := HX.out.2.1; omega, rfl, rfl, fun q h h' => by have := HX.out.2.1; omega⟩
        case round =>
          obtain ⟨n, hkd, rfl, rfl, hhi⟩ := hrel
          cases gk with
          | zero =>
            have HH := Lib.hid hhi
            clear hhi
            have hj0 : decide ((0 : Int) < ((0 : Nat) : Int)) = false := rfl
            go_wp2_with fail
            go_quiet (fail)
            go_wp2_with fail
            go_meet
            exact ⟨0, n + nq, Nat.zero_le _, rfl, by first | rfl | rw [World.drewN_drewN], fun h0 => by omega, HH.out⟩
          | succ a =>
            obtain ⟨g, cap, e, hg1, hg2⟩ := HX.out.2.2.2.2.1.form (show 0 < j by have := HX.out.2.1; omega)
            injection e with e1 e2 e3
            subst e1 e3
            have had : a < d.length := by omega
            have hca : wr.cell? ⟨g, a * 7, none⟩ = some (.string d[a].1.1) := by
              have h1 := HX.out.2.2.2.2.1.cellAt (a * 7) (by have := HX.out.2.1; omega)
              have h2 := flat_get encM 7 encM_len d a 0 had (by omega)
              rw [Nat.add_zero] at h2
              rw [h1, h2]
              rfl
            obtain ⟨qs, hqs⟩ : ∃ qs, d[a].1.1 = qs := ⟨_, rfl⟩
            rw [hqs] at hca
            have hj0 : (0 : Int) < ((a + 1 : Nat) : Int) := by omega
            have hil : (a : Int) < (j : Int) := by have := HX.out.2.1; omega
            have hjl : (j : Int) < (ms.length : Int) := by omega
            have ha9 : a ≤ 1000 := by omega
            have hwa : IntKind.i64.wrap (a : Int) = a := IntWalk.i64_in _ (by omega)
            have HH := Lib.hid (And.intro hhi hqs)
            clear hhi hqs
            cases hgt : Op.bytesLess ks.data.toList qs.data.toList with
            | true =>
              have h1b : (!(Op.bytesLess qs.toList ks.toList || qs.toList == ks.toList)) = true := by rw [gtr_less]; exact hgt
              have HG := Lib.hid hgt
              clear hgt
              go_wp2_with fail
              go_quiet (fail)
              go_wp2_with fail
              go_roundg a
              case rel => exact ⟨n + nq, by omega, by go_num, by first | rfl | rw [World.drewN_drewN], fun q h h' => by
                rcases Nat.lt_or_ge a q with h2 | h2
                · exact HH.out.1 q h h2
                · obtain rfl : a = q := by omega
                  have := HG.out
                  rw [← HH.out.2] at this
                  exact this⟩
              case measure => omega
            | false =>
              have h1b : (!(Op.bytesLess qs.toList ks.toList || qs.toList == ks.toList)) = false := by rw [gtr_less]; exact hgt
              have HG := Lib.hid hgt
              clear hgt
              go_wp2_with fail
              go_quiet (fail)
              go_wp2_with fail
              go_meet
              refine ⟨a + 1, n + nq, by omega, by go_num, by first | rfl | rw [World.drewN_drewN], fun h0 => ?_, HH.out.1⟩
              have := HG.out
              rw [← HH.out.2] at this
              exact this
      case rest =>
        obtain ⟨a, n, ha, rfl, rfl, hlo, hhi⟩ := hcut
        have HA := Lib.hid (And.intro hlo hhi)
        clear hlo hhi
        have hjl : (j : Int) < (ms.length : Int) := by omega
        have haj : a ≤ j := by have := HX.out.2.1; omega
        obtain ⟨A1, c1, hs1, hr1⟩ := cut_low HX.out.2.2.2.2.1 HX.out.2.1 a haj
        obtain ⟨A2, c2, hs2, hr2⟩ := cut_high HX.out.2.2.2.2.1 HX.out.2.1 a haj
        have HS1 := Lib.hid hr1
        have HS2 := Lib.hid hr2
        have ha9 : a ≤ 1000 := by omega
        have hsum : a + 1 + (j - a) ≤ 2000 := by omega
        clear hr1 hr2 hb
        have hy : (#[.string ks, .int .i64 jk, .bool jy, .int .i64 jn, .string jt, .slice ja jla jca, .slice jb jlb jcb] : Array Value).toList = encM ((ks, v), ⟨jk, jy, jn, jt, ja, jla, jca, jb, jlb, jcb⟩) := rfl
        have HY := Lib.hid hy
        clear hy
        go_wp2_with fail
        have hbwr : b < wr.heap.size := by have := HX.out.2.2.2.2.2.2.2.2.1.size; omega
        go_region_held3 (fun w' => w'.cell? ⟨b, off + j * 7, none⟩ = some (.string ks) ∧ w'.cell? ⟨b, off + j * 7 + 1, none⟩ = some (.int .i64 jk) ∧ w'.cell? ⟨b, off + j * 7 + 2, none⟩ = some (.bool jy) ∧ w'.cell? ⟨b, off + j * 7 + 3, none⟩ = some (.int .i64 jn) ∧ w'.cell? ⟨b, off + j * 7 + 4, none⟩ = some (.string jt) ∧ w'.cell? ⟨b, off + j * 7 + 5, none⟩ = some (.slice ja jla jca) ∧ w'.cell? ⟨b, off + j * 7 + 6, none⟩ = some (.slice jb jlb jcb))
          (first | (go_keep; done) | (exact ⟨(HP3.out.below.cell hbwr).trans xk, (HP3.out.below.cell hbwr).trans x0, (HP3.out.below.cell hbwr).trans x1, (HP3.out.below.cell hbwr).trans x2, (HP3.out.below.cell hbwr).trans x3, (HP3.out.below.cell hbwr).trans x4, (HP3.out.below.cell hbwr).trans x5⟩) | (exact ⟨(HP2.out.below.cell hbwr).trans xk, (HP2.out.below.cell hbwr).trans x0, (HP2.out.below.cell hbwr).trans x1, (HP2.out.below.cell hbwr).trans x2, (HP2.out.below.cell hbwr).trans x3, (HP2.out.below.cell hbwr).trans x4, (HP2.out.below.cell hbwr).trans x5⟩) | (exact ⟨(HP1.out.below.cell hbwr).trans xk, (HP1.out.below.cell hbwr).trans x0, (HP1.out.below.cell hbwr).trans x1, (HP1.out.below.cell hbwr).trans x2, (HP1.out.below.cell hbwr).trans x3, (HP1.out.below.cell hbwr).trans x4, (HP1.out.below.cell hbwr).trans x5⟩))
          (first
            | (refine step_run ?_ (.tmp 33) (.tmp 36) 23 ?_ _ _ ?_ ?_ _ (app_e1 (c := c1) HS1.out ha9 _) ?_; rfl; rfl; rfl; rfl; intro v1 w1 hP1
               have HP1 := Lib.hid hP1
               clear hP1)
            | (refine step_run ?_ (.tmp 33) (.tmp 36) 23 ?_ _ _ ?_ ?_ _ (app_e2 (c := c1) HS1.out ha9 _) ?_; rfl; rfl; rfl; rfl; intro v1 w1 hP1
               have HP1 := Lib.hid hP1.1
               have HP1x := Lib.hid hP1.2
               clear hP1)
            | (refine step_run ?_ (.tmp 33) (.tmp 36) 23 ?_ _ _ ?_ ?_ _ (app_e3 (c := c1) HS1.out ha9 _) ?_; rfl; rfl; rfl; rfl; intro v1 w1 hP1
               have HP1 := Lib.hid hP1.1
               have HP1x := Lib.hid hP1.2
               clear hP1)
            | (refine step_run ?_ (.tmp 37) (.tmp 42) 23 ?_ _ _ ?_ ?_ _ (app_x HP1.out HP1x.out _ HY.out ha9 _) ?_; rfl; rfl; rfl; rfl; intro v2 w2 hP2
               have HP2 := Lib.hid hP2
               clear hP2)
            | (refine step_run ?_ (.tmp 37) (.tmp 42) 23 ?_ _ _ ?_ ?_ _ (app_x1 HP1.out _ HY.out ha9 _) ?_; rfl; rfl; rfl; rfl; intro v2 w2 hP2
               have HP2 := Lib.hid hP2
               clear hP2)
            | (refine step_run ?_ (.tmp 43) (.tmp 46) 23 ?_ _ _ ?_ ?_ _ (app_last (c := c2) HP2.out HS2.out hsum _) ?_; rfl; rfl; rfl; rfl; rintro v3 w3 ⟨g3, cap3, rfl, hP3⟩
               have HP3 := Lib.hid hP3
               clear hP3))
        all_goals
          go_wp2_with fail
          go_roundg (ms.length - (j + 1))
          case rel =>
            obtain ⟨hk, hdl, hp, hs, hown, hkids, hw0, hw1, hb, hx, rfl, rfl⟩ := HX.out
            exact rm_step hB hlt ha (by go_num) hsM ⟨hdl, hp, hs, hown, hkids, hw0, hw1, hb, hx⟩ HA.out HP3.out
          case measure => have := HX.out.1; omega
    · obtain rfl : j = ms.length := by omega
      have HX := Lib.hid (And.intro hdl (And.intro hp (And.intro hs (And.intro hown (And.intro hkids (And.intro hw0 (And.intro hw1 hb)))))))
      clear hk hp hs hown hkids hw0 hw1 hb hlt
      go_wp2_with fail
      go_loopg [51] d.length (TwRel wr d)
      case atStart => exact ⟨0, 0, by simp, rfl, fun i h h0 => absurd h0 (by omega), rfl⟩
      case round =>
        obtain ⟨q, n, hk, rfl, hno, rfl⟩ := hrel
        by_cases hlt : q < d.length
        · obtain ⟨hdl', hp, hs, hown, hkids, hw0, hw1, hb⟩ := HX.out
          obtain ⟨g, rfl, hg, hcells⟩ := own_at hown (by omega)
          have hgb : w.heap.size + 2 ≤ g := (hown.lt g rfl).1
          have hkey : ∀ i (h : i < d.length), wr.cell? ⟨g, i * 7, none⟩ = some (.string d[i].1.1) := fun i h => by
            refine hcells (i * 7) _ ?_
            have h2 := flat_get encM 7 encM_len d i 0 h (by omega)
            rw [Nat.add_zero] at h2
            rw [h2]
            rfl
          have hql : (q : Int) < (ms.length : Int) := by omega
          cases q with
          | zero =>
            have HZ := Lib.hid hno
            clear hno hp hs hown hkids hw0 hw1 hb hkey hcells hdl'
            have hj0 : decide ((0 : Int) < ((0 : Nat) : Int)) = false := rfl
            go_wp2_with fail
            go_quiet (fail)
            go_wp2_with fail
            go_roundg (d.length - 1)
            case rel => exact ⟨1, n + nq, by omega, by go_num, fun i h h0 => absurd h0 (by omega), by first | rfl | rw [World.drewN_drewN]⟩
            case measure => omega
          | succ i =>
            have k1 := hkey (i + 1) hlt
            have k0 := hkey i (by omega)
            obtain ⟨ks, hks⟩ : ∃ ks, d[i + 1].1.1 = ks := ⟨_, rfl⟩
            obtain ⟨qs, hqs⟩ : ∃ qs, d[i].1.1 = qs := ⟨_, rfl⟩
            rw [hks] at k1
            rw [hqs] at k0
            have hksz : ks.size ≤ 1000000 := by rw [← hks]; exact (hkids _ (List.getElem_mem hlt)).1
            have hi9 : i ≤ 1000 := by omega
            have hwi : IntKind.i64.wrap (i : Int) = i := IntWalk.i64_in _ (by omega)
            have hil : (i : Int) < (ms.length : Int) := by omega
            have hj0 : (0 : Int) < ((i + 1 : Nat) : Int) := by omega
            have HZ := Lib.hid (And.intro hno (And.intro hks hqs))
            clear hno hp hs hown hkids hw0 hw1 hb hkey hcells hdl' hks hqs
            by_cases heq : ks.toList = qs.toList
            · have h1b : (ks.toList == qs.toList) = true := by simp [heq]
              have H1 := Lib.hid heq
              clear heq
              go_wp2_with fail
              go_quiet (fail)
              go_wp2_with fail
              have hn0 : g ≠ w.heap.size := by omega
              have hn1 : g ≠ w.heap.size + 1 := by omega
              have hn2 : w.heap.size ≠ g := by omega
              have hn3 : w.heap.size + 1 ≠ g := by omega
              have hq0 : (0 : Int) ≤ (i : Int) + 1 := by omega
              have hq1 : (i : Int) + 1 < (ms.length : Int) := by omega
              have hq2 : ((i : Int) + 1).toNat = i + 1 := by omega
              go_region_held3 (fun w' => w'.cell? ⟨g, (i + 1) * 7, none⟩ = some (.string ks))
                (first | (with_reducible exact (K1.out.cell (p := ⟨g, (i + 1) * 7, none⟩) hg).trans k1) | (go_keep; done))
                (first
                  | (go_at_call 35; refine (err_any 6 _).mono ?_; rintro e W1 ⟨rfl, hb⟩
                     have k1' : Below wr.heap.size wr W1 := ⟨hb.os, hb.tape, hb.output, hb.size, hb.block⟩
                     have K1 := Lib.hid k1'
                     clear hb k1')
                  | (go_at_call 33; refine (in_any ks ⟨#[]⟩ 6 (-1) _ ?_ ?_).mono ?_; (omega); (simp [ByteArray.size]); rintro e W2 ⟨rfl, hb⟩
                     have k2' : Below wr.heap.size wr W2 := K1.out.trans (hb.mono K1.out.size)
                     have K1 := Lib.hid k2'
                     obtain ⟨a0, a1, a2, a3, a4, a5⟩ := (HX.out.2.2.2.2.2.1.below k2' HX.out.2.2.2.2.2.1.lt).six
                     have f0 := (HX.out.2.2.2.2.2.1.below k2' HX.out.2.2.2.2.2.1.lt).frozen 0
                     have f1 := (HX.out.2.2.2.2.2.1.below k2' HX.out.2.2.2.2.2.1.lt).frozen 1
                     have f2 := (HX.out.2.2.2.2.2.1.below k2' HX.out.2.2.2.2.2.1.lt).frozen 2
                     have f3 := (HX.out.2.2.2.2.2.1.below k2' HX.out.2.2.2.2.2.1.lt).frozen 3
                     have f4 := (HX.out.2.2.2.2.2.1.below k2' HX.out.2.2.2.2.2.1.lt).frozen 4
                     have f5 := (HX.out.2.2.2.2.2.1.below k2' HX.out.2.2.2.2.2.1.lt).frozen 5
                     obtain ⟨e0, e1, e2⟩ := (HX.out.2.2.2.2.2.2.1.below k2' HX.out.2.2.2.2.2.2.1.lt).three
                     have h0 := (HX.out.2.2.2.2.2.2.1.below k2' HX.out.2.2.2.2.2.2.1.lt).frozen 0
                     have h1 := (HX.out.2.2.2.2.2.2.1.below k2' HX.out.2.2.2.2.2.2.1.lt).frozen 1
                     have h2 := (HX.out.2.2.2.2.2.2.1.below k2' HX.out.2.2.2.2.2.2.1.lt).frozen 2
                     have hzE : w.heap.size + 1 < W2.heap.size := (HX.out.2.2.2.2.2.2.1.below k2' HX.out.2.2.2.2.2.2.1.lt).lt
                     have hzV : w.heap.size < W2.heap.size := by omega
                     clear hb k2'))
              go_wp2_with fail
              refine bodyPost_ret (v := .tuple #[.agg #[.int .i64 0, .bool false, .int .i64 0, .string ⟨#[]⟩, .slice none 0 0, .slice none 0 0], .agg #[.int .i64 6, .int .i64 (-1), .string (inPath ks 6 ⟨#[]⟩)]]) (by simp [results, Tryd.results28, go_sem, a0, a1, a2, a3, a4, a5, e0, e1, e2]) rfl ⟨?_, ?_⟩
              · obtain ⟨hdl', hp, hs, -⟩ := HX.out
                obtain ⟨hno, hks, hqs⟩ := HZ.out
                refine ⟨d.map (·.1), by rw [List.take_length] at hp; exact hp, hs, .inr ⟨i, by simpa using hlt, ?_, hno, ?_⟩⟩
                · rw [List.getElem_map, hks]; rfl
                · rw [List.getElem_map, List.getElem_map, hqs, hks]
                  exact (toList_inj H1.out).symm
              · have hbw := HX.out.2.2.2.2.2.2.2
                have hb2 : Below w.heap.size w W2 := hbw.trans (K1.out.mono hbw.size)
                exact (((((((((hb2.setCell (Nat.le_refl _) _).setCell (Nat.le_refl _) _).setCell (Nat.le_refl _) _).setCell (Nat.le_refl _) _).setCell (Nat.le_refl _) _).setCell (Nat.le_refl _) _).setCell (Nat.le_succ _) _).setCell (Nat.le_succ _) _).setCell (Nat.le_succ _) _)
            · have h1b : (ks.toList == qs.toList) = false := by simpa using heq
              have H1 := Lib.hid heq
              clear heq
              go_wp2_with fail
              go_quiet (fail)
              go_wp2_with fail
              go_roundg (d.length - (i + 2))
              case rel =>
                refine ⟨i + 2, n + nq, by omega, by go_num, fun e h h0 => ?_, by first | rfl | rw [World.drewN_drewN]⟩
                rcases Nat.lt_or_ge (e + 1) (i + 1) with h2 | h2
                · exact HZ.out.1 e h h2
                · obtain rfl : e = i := by omega
                  rw [List.getElem_map, List.getElem_map, HZ.out.2.1, HZ.out.2.2]
                  exact fun e2 => H1.out (by rw [e2])
              case measure => omega
        · obtain rfl : q = d.length := by omega
          have HZ := Lib.hid hno
          clear hno
          go_wp2_with fail
          refine (none_any _).mono ?_
          rintro e W2 ⟨rfl, hb⟩
          obtain ⟨hdl', hp, hs, hown, hkids, hw0, hw1, hbw⟩ := HX.out
          have k2' : Below wr.heap.size wr W2 := ⟨hb.os, hb.tape, hb.output, hb.size, hb.block⟩
          have K1 := Lib.hid k2'
          obtain ⟨a0, a1, a2, a3, a4, a5⟩ := (hw0.below k2' hw0.lt).six
          have f0 := (hw0.below k2' hw0.lt).frozen 0
          have f1 := (hw0.below k2' hw0.lt).frozen 1
          have f2 := (hw0.below k2' hw0.lt).frozen 2
          have f3 := (hw0.below k2' hw0.lt).frozen 3
          have f4 := (hw0.below k2' hw0.lt).frozen 4
          have f5 := (hw0.below k2' hw0.lt).frozen 5
          obtain ⟨e0, e1, e2⟩ := (hw1.below k2' hw1.lt).three
          have h0 := (hw1.below k2' hw1.lt).frozen 0
          have h1 := (hw1.below k2' hw1.lt).frozen 1
          have h2 := (hw1.below k2' hw1.lt).frozen 2
          have hzE : w.heap.size + 1 < W2.heap.size := (hw1.below k2' hw1.lt).lt
          have hzV : w.heap.size < W2.heap.size := by omega
          clear hb k2' hdl' hp hs hown hkids hw0 hw1 hbw
          go_wp2_with fail
          refine bodyPost_ret (v := .tuple #[.agg #[.int .i64 5, .bool false, .int .i64 0, .string ⟨#[]⟩, .slice none 0 0, .slice aa ms.length cc], .agg #[.int .i64 0, .int .i64 (-1), .string ⟨#[]⟩]]) (by simp [results, Tryd.results28, go_sem, a0, a1, a2, a3, a4, a5, e0, e1, e2]) rfl ⟨?_, ?_⟩
          · obtain ⟨hdl', hp, hs, hown, hkids, hw0, hw1, hbw⟩ := HX.out
            refine ⟨d.map (·.1), by rw [List.take_length] at hp; exact hp, hs, .inl ⟨⟨5, false, 0, ⟨#[]⟩, none, 0, 0, aa, ms.length, cc⟩, rfl, by simpa using HZ.out, ?_⟩⟩
            refine (own_val hown hdl' hl hkids hB hw1.lt).keep (fun p hp => ?_) (fun b hb => ?_)
            · refine Eq.trans ?_ (K1.out.cell (p := p) hp.1)
              have q1 := hp.2.1
              have q2 := hp.2.2
              have far : ∀ (W : World) (b o : Nat) (u : Value), p.block ≠ b → (W.setCell ⟨b, o, none⟩ u).cell? p = W.cell? p := fun W b o u hne => World.cell?_setCell_other W _ p u (fun e => hne (by rw [← e]))
              rw [far _ _ _ _ q2, far _ _ _ _ q2, far _ _ _ _ q2, far _ _ _ _ q1, far _ _ _ _ q1, far _ _ _ _ q1, far _ _ _ _ q1, far _ _ _ _ q1, far _ _ _ _ q1]
            · have := K1.out.size
              simp
              omega
          · have hbw := HX.out.2.2.2.2.2.2.2
            have hb2 : Below w.heap.size w W2 := hbw.trans (K1.out.mono hbw.size)
            exact (((((((((hb2.setCell (Nat.le_refl _) _).setCell (Nat.le_refl _) _).setCell (Nat.le_refl _) _).setCell (Nat.le_refl _) _).setCell (Nat.le_refl _) _).setCell (Nat.le_refl _) _).setCell (Nat.le_succ _) _).setCell (Nat.le_succ _) _).setCell (Nat.le_succ _) _)
end Go.Proofs.YtdpohklklmkjbaaDoor

namespace Go.Proofs.YtdpohklklmkjbaaDoor
open Go.RowKit Go.Lib
set_option linter.unusedVariables false
set_option linter.unusedSimpArgs false

/-- The path of an error, each part with / ahead. -/
def pth : List ByteArray → ByteArray
  | [] => ⟨#[]⟩
  | s :: r => (⟨#[47]⟩ ++ s) ++ pth r
def refCode : Option (List ByteArray × Int) → Int
  | none => 0
  | some (_, c) => c
def refPath : Option (List ByteArray × Int) → ByteArray
  | none => ⟨#[]⟩
  | some (p, _) => pth p
def RefAns (r : Option (List ByteArray × Int)) (w : World) (e : Ending) (w' : World) : Prop := e = .returned (.agg #[.int .i64 (refCode r), .int .i64 (-1), .string (refPath r)]) ∧ Below w.heap.size w w'

def GoodR (d : Nat) (r : Option (List ByteArray × Int)) : Prop := ∀ p c, r = some (p, c) → c ≠ 0 ∧ (pth p).size ≤ d * 1000050
theorem chkL_good {d : Nat} {f : V → Option (List ByteArray × Int)} : ∀ (l : List V) (i : Nat), (∀ v ∈ l, GoodR d (f v)) → i + l.length ≤ 1000000 → GoodR (d + 1) (chkL f i l)
  | [], i, _, _ => fun p c h => by simp [chkL] at h
  | v :: r, i, hf, hi => fun p c h => by
    rw [chkL] at h
    cases hv : f v with
    | none => rw [hv] at h; exact chkL_good r (i + 1) (fun x hx => hf x (List.mem_cons_of_mem _ hx)) (by simp only [List.length_cons] at hi; omega) p c h
    | some pc =>
      obtain ⟨p', c'⟩ := pc
      rw [hv] at h
      simp only [Option.some.injEq, Prod.mk.injEq] at h
      obtain ⟨rfl, rfl⟩ := h
      have := hf v (List.mem_cons_self ..) p' c' hv
      have h1 := itoaB_small i (by simp only [List.length_cons] at hi; omega)
      refine ⟨this.1, ?_⟩
      have h47 : (ByteArray.mk #[47]).size = 1 := rfl
      rw [pth, ByteArray.size_append, ByteArray.size_append, h47, Nat.succ_mul]
      omega
theorem chkKey_ne {s : ByteArray} {q : Option ByteArray} {c : Int} (h : chkKey s q = some c) : c ≠ 0 := by
  unfold chkKey at h
  split at h
  · injection h with h; omega
  · split at h
    · cases h
    · split at h
      · injection h with h; omega
      · split at h
        · injection h with h; omega
        · cases h
theorem chkM_good {d : Nat} {f : V → Option (List ByteArray × Int)} : ∀ (l : List (ByteArray × V)) (q : Option ByteArray), (∀ x ∈ l, x.1.size ≤ 1000000 ∧ GoodR d (f x.2)) → GoodR (d + 1) (chkM f q l)
  | [], q, _ => fun p c h => by simp [chkM] at h
  | (s, v) :: r, q, hf => fun p c h => by
    have h47 : (ByteArray.mk #[47]).size = 1 := rfl
    have h0 : (ByteArray.mk #[]).size = 0 := rfl
    have hs := hf (s, v) (List.mem_cons_self ..)
    rw [chkM] at h
    cases hk : chkKey s q with
    | some c' =>
      rw [hk] at h
      simp only [Option.some.injEq, Prod.mk.injEq] at h
      obtain ⟨rfl, rfl⟩ := h
      refine ⟨chkKey_ne hk, ?_⟩
      rw [pth, pth, ByteArray.size_append, ByteArray.size_append, h47, h0, Nat.succ_mul]
      have := hs.1
      dsimp only at this
      omega
    | none =>
      rw [hk] at h
      cases hv : f v with
      | none => rw [hv] at h; exact chkM_good r (some s) (fun x hx => hf x (List.mem_cons_of_mem _ hx)) p c h
      | some pc =>
        obtain ⟨p', c'⟩ := pc
        rw [hv] at h
        simp only [Option.some.injEq, Prod.mk.injEq] at h
        obtain ⟨rfl, rfl⟩ := h
        have := hs.2 p' c' hv
        refine ⟨this.1, ?_⟩
        rw [pth, ByteArray.size_append, ByteArray.size_append, h47, Nat.succ_mul]
        have := hs.1
        dsimp only at this
        omega
theorem VOkL.mem {M : Nat} : ∀ {l : List V}, VOkL M l → ∀ v ∈ l, VOk M v
  | v :: r, h, x, hx => by
    rcases List.mem_cons.1 hx with rfl | hx
    · exact h.1
    · exact VOkL.mem h.2 x hx
theorem VOkM.mem {M : Nat} : ∀ {l : List (ByteArray × V)}, VOkM M l → ∀ x ∈ l, x.1.size ≤ M ∧ VOk M x.2
  | (s, v) :: r, h, x, hx => by
    rcases List.mem_cons.1 hx with rfl | hx
    · exact ⟨h.1, h.2.1⟩
    · exact VOkM.mem h.2.2 x hx
theorem chkHead_good {D : Nat} {fl : List V → Option (List ByteArray × Int)} {fm : List (ByteArray × V) → Option (List ByteArray × Int)} : ∀ v, (∀ k y n t l m, v = .mk k y n t l m → GoodR D (fl l) ∧ GoodR D (fm m)) → GoodR D (chkHead fl fm v)
  | .mk k y n t l m, h => fun p c hh => by
    have h0 : (pth []).size = 0 := rfl
    obtain ⟨h1, h2⟩ := h k y n t l m rfl
    have hz : ∀ c', some (([] : List ByteArray), c') = some (p, c) → c' ≠ 0 → c ≠ 0 ∧ (pth p).size ≤ D * 1000050 := fun c' e hc => by
      injection e with e; injection e with e1 e2; subst e1 e2; exact ⟨hc, by omega⟩
    rw [chkHead] at hh
    by_cases k0 : k = 0 ∨ k = 1
    · rw [if_pos k0] at hh; cases hh
    rw [if_neg k0] at hh
    by_cases k2 : k = 2
    · rw [if_pos k2] at hh
      by_cases hn : n < -9007199254740991 ∨ 9007199254740991 < n
      · rw [if_pos hn] at hh; exact hz 4 hh (by omega)
      · rw [if_neg hn] at hh; cases hh
    rw [if_neg k2] at hh
    by_cases k3 : k = 3
    · rw [if_pos k3] at hh
      by_cases hn : validB t = true
      · rw [if_pos hn] at hh; cases hh
      · rw [if_neg hn] at hh; exact hz 5 hh (by omega)
    rw [if_neg k3] at hh
    by_cases k4 : k = 4
    · rw [if_pos k4] at hh; exact h1 p c hh
    rw [if_neg k4] at hh
    by_cases k5 : k = 5
    · rw [if_pos k5] at hh; exact h2 p c hh
    rw [if_neg k5] at hh
    exact hz 9 hh (by omega)
theorem chk_good : ∀ (d : Nat) (v : V), VOk 1000000 v → GoodR d (chk d v)
  | 0, v, h => by
    rw [chk]
    exact chkHead_good v fun k y n t l m e => ⟨fun p c h => by injection h with h; injection h with e1 e2; subst e1 e2; exact ⟨by omega, by show (pth []).size ≤ _; exact Nat.zero_le _⟩, fun p c h => by injection h with h; injection h with e1 e2; subst e1 e2; exact ⟨by omega, by show (pth []).size ≤ _; exact Nat.zero_le _⟩⟩
  | d + 1, v, h => by
    rw [chk]
    refine chkHead_good v fun k y n t l m e => ?_
    subst e
    obtain ⟨ht, hl, hm, hvl, hvm⟩ := h
    exact ⟨chkL_good l 0 (fun x hx => chk_good d x (hvl.mem x hx)) (by omega), chkM_good m none (fun x hx => ⟨(hvm.mem x hx).1, chk_good d x.2 (hvm.mem x hx).2⟩)⟩

set_option maxRecDepth 100000 in
set_option maxHeartbeats 4000000 in
/-- The kinds without parts, at whatever depth; and those that are too deep. -/
theorem refcheck_plain (fl : List V → Option (List ByteArray × Int)) (fm : List (ByteArray × V) → Option (List ByteArray × Int)) (k : Int) (y : Bool) (n : Int) (t : ByteArray) (l : List V) (m : List (ByteArray × V)) (a a' : Value) (dp : Int) (w : World) (ht : t.size ≤ 1000000)
    (hk : (k ≠ 4 ∧ k ≠ 5) ∨ (dp = 20 ∧ fl l = some ([], 3) ∧ fm m = some ([], 3))) :
    Calls Tryd.prog 39 #[.agg #[.int .i64 k, .bool y, .int .i64 n, .string t, a, a'], .int .i64 dp] w (RefAns (chkHead fl fm (.mk k y n t l m)) w) := by
  have hb0 : Below w.heap.size w ((w.alloc (.cells #[.int .i64 k, .bool y, .int .i64 n, .string t, a, a'] 25)).alloc (.cells #[.int .i64 0, .int .i64 0, .string ⟨#[]⟩] 29)) := ((Below.refl _ _).alloc (Nat.le_refl _) _).alloc (by simp) _
  have hE0 : EBlk ((w.alloc (.cells #[.int .i64 k, .bool y, .int .i64 n, .string t, a, a'] 25)).alloc (.cells #[.int .i64 0, .int .i64 0, .string ⟨#[]⟩] 29)) (w.heap.size + 1) 0 0 ⟨#[]⟩ := by
    have := EBlk.new (w.alloc (.cells #[.int .i64 k, .bool y, .int .i64 n, .string t, a, a'] 25)) 0 0 ⟨#[]⟩
    simpa using this
  have fin : ∀ (W : World) (r : Option (List ByteArray × Int)), Below w.heap.size w W → chkHead fl fm (.mk k y n t l m) = r → RefAns (chkHead fl fm (.mk k y n t l m)) w (.returned (.agg #[.int .i64 (refCode r), .int .i64 (-1), .string (refPath r)])) W := fun W r hW hr => by rw [hr]; exact ⟨rfl, hW⟩
  obtain ⟨R, hR⟩ : ∃ R, chkHead fl fm (.mk k y n t l m) = R := ⟨_, rfl⟩
  rw [hR] at fin ⊢
  have FIN := Lib.hid fin
  have HR := Lib.hid hR
  have H0 := Lib.hid (And.intro hb0 hE0)
  clear fin hR hb0 hE0
  by_cases e0 : k = 0
  · subst e0
    go_enter Tryd.func39, Tryd.ntmps39
    go_wp2_with fail
    refine (none_any _).mono ?_
    rintro e W ⟨rfl, hb⟩
    obtain ⟨⟨x0, x1, x2⟩, y0, y1, y2⟩ := H0.out.2.below hb (by simp)
    have hz : w.heap.size + 1 < W.heap.size := lt_of_cell x0
    have HB := Lib.hid (H0.out.1.trans (hb.mono (by simp; omega)))
    clear hb
    go_wp2_with fail
    exact bodyPost_ret (v := .agg #[.int .i64 0, .int .i64 (-1), .string ⟨#[]⟩]) (by simp [results, Tryd.results39, go_sem, x0, x1, x2, y0, y1, y2]) rfl (FIN.out _ none (((HB.out.setCell (by simp) _).setCell (by simp) _).setCell (by simp) _) (by rw [← HR.out]; simp [chkHead]))
  by_cases e1 : k = 1
  · subst e1
    go_enter Tryd.func39, Tryd.ntmps39
    go_wp2_with fail
    refine (none_any _).mono ?_
    rintro e W ⟨rfl, hb⟩
    obtain ⟨⟨x0, x1, x2⟩, y0, y1, y2⟩ := H0.out.2.below hb (by simp)
    have hz : w.heap.size + 1 < W.heap.size := lt_of_cell x0
    have HB := Lib.hid (H0.out.1.trans (hb.mono (by simp; omega)))
    clear hb
    go_wp2_with fail
    exact bodyPost_ret (v := .agg #[.int .i64 0, .int .i64 (-1), .string ⟨#[]⟩]) (by simp [results, Tryd.results39, go_sem, x0, x1, x2, y0, y1, y2]) rfl (FIN.out _ none (((HB.out.setCell (by simp) _).setCell (by simp) _).setCell (by simp) _) (by rw [← HR.out]; simp [chkHead]))
  by_cases e2 : k = 2
  · subst e2
    by_cases g2 : 9007199254740991 < n
    · go_enter Tryd.func39, Tryd.ntmps39
      go_wp2_with fail
      refine (err_any 4 _).mono ?_
      rintro e W ⟨rfl, hb⟩
      obtain ⟨⟨x0, x1, x2⟩, y0, y1, y2⟩ := H0.out.2.below hb (by simp)
      have hz : w.heap.size + 1 < W.heap.size := lt_of_cell x0
      have HB := Lib.hid (H0.out.1.trans (hb.mono (by simp; omega)))
      clear hb
      go_wp2_with fail
      exact bodyPost_ret (v := .agg #[.int .i64 4, .int .i64 (-1), .string ⟨#[]⟩]) (by simp [results, Tryd.results39, go_sem, x0, x1, x2, y0, y1, y2]) rfl (FIN.out _ (some ([], 4)) (((HB.out.setCell (by simp) _).setCell (by simp) _).setCell (by simp) _) (by rw [← HR.out]; simp [chkHead, g2]))
    have g2' : decide (9007199254740991 < n) = false := decide_eq_false g2
    by_cases g1 : n < -9007199254740991
    · go_enter Tryd.func39, Tryd.ntmps39
      go_wp2_with fail
      refine (err_any 4 _).mono ?_
      rintro e W ⟨rfl, hb⟩
      obtain ⟨⟨x0, x1, x2⟩, y0, y1, y2⟩ := H0.out.2.below hb (by simp)
      have hz : w.heap.size + 1 < W.heap.size := lt_of_cell x0
      have HB := Lib.hid (H0.out.1.trans (hb.mono (by simp; omega)))
      clear hb
      go_wp2_with fail
      exact bodyPost_ret (v := .agg #[.int .i64 4, .int .i64 (-1), .string ⟨#[]⟩]) (by simp [results, Tryd.results39, go_sem, x0, x1, x2, y0, y1, y2]) rfl (FIN.out _ (some ([], 4)) (((HB.out.setCell (by simp) _).setCell (by simp) _).setCell (by simp) _) (by rw [← HR.out]; simp [chkHead, g1]))
    · go_enter Tryd.func39, Tryd.ntmps39
      go_wp2_with fail
      refine (none_any _).mono ?_
      rintro e W ⟨rfl, hb⟩
      obtain ⟨⟨x0, x1, x2⟩, y0, y1, y2⟩ := H0.out.2.below hb (by simp)
      have hz : w.heap.size + 1 < W.heap.size := lt_of_cell x0
      have HB := Lib.hid (H0.out.1.trans (hb.mono (by simp; omega)))
      clear hb
      go_wp2_with fail
      exact bodyPost_ret (v := .agg #[.int .i64 0, .int .i64 (-1), .string ⟨#[]⟩]) (by simp [results, Tryd.results39, go_sem, x0, x1, x2, y0, y1, y2]) rfl (FIN.out _ none (((HB.out.setCell (by simp) _).setCell (by simp) _).setCell (by simp) _) (by rw [← HR.out, chkHead, if_neg (by omega), if_pos rfl, if_neg (by omega)]))
  by_cases e3 : k = 3
  · subst e3
    have HU := Lib.hid (fun W => utf8_any t W (by omega))
    cases hB' : validB t
    · rw [hB'] at HU
      have HV := Lib.hid hB'
      clear hB'
      go_enter Tryd.func39, Tryd.ntmps39
      go_wp2_with fail
      refine (HU.out _).mono ?_
      rintro e W0 ⟨rfl, rfl⟩
      go_wp2_with fail
      refine (err_any 5 _).mono ?_
      rintro e W ⟨rfl, hb⟩
      obtain ⟨⟨x0, x1, x2⟩, y0, y1, y2⟩ := H0.out.2.below hb (by simp)
      have hz : w.heap.size + 1 < W.heap.size := lt_of_cell x0
      have HB := Lib.hid (H0.out.1.trans (hb.mono (by simp; omega)))
      clear hb
      go_wp2_with fail
      exact bodyPost_ret (v := .agg #[.int .i64 5, .int .i64 (-1), .string ⟨#[]⟩]) (by simp [results, Tryd.results39, go_sem, x0, x1, x2, y0, y1, y2]) rfl (FIN.out _ (some ([], 5)) (((HB.out.setCell (by simp) _).setCell (by simp) _).setCell (by simp) _) (by rw [← HR.out]; simp [chkHead, HV.out]))
    · rw [hB'] at HU
      have HV := Lib.hid hB'
      clear hB'
      go_enter Tryd.func39, Tryd.ntmps39
      go_wp2_with fail
      refine (HU.out _).mono ?_
      rintro e W0 ⟨rfl, rfl⟩
      go_wp2_with fail
      refine (none_any _).mono ?_
      rintro e W ⟨rfl, hb⟩
      obtain ⟨⟨x0, x1, x2⟩, y0, y1, y2⟩ := H0.out.2.below hb (by simp)
      have hz : w.heap.size + 1 < W.heap.size := lt_of_cell x0
      have HB := Lib.hid (H0.out.1.trans (hb.mono (by simp; omega)))
      clear hb
      go_wp2_with fail
      exact bodyPost_ret (v := .agg #[.int .i64 0, .int .i64 (-1), .string ⟨#[]⟩]) (by simp [results, Tryd.results39, go_sem, x0, x1, x2, y0, y1, y2]) rfl (FIN.out _ none (((HB.out.setCell (by simp) _).setCell (by simp) _).setCell (by simp) _) (by rw [← HR.out]; simp [chkHead, HV.out]))
  by_cases e4 : k = 4
  · subst e4
    obtain ⟨rfl, hfl, hfm⟩ : dp = 20 ∧ fl l = some ([], 3) ∧ fm m = some ([], 3) := by
      rcases hk with h | h
      · exact absurd rfl h.1
      · exact h
    have HF := Lib.hid hfl
    clear hfl hfm hk
    go_enter Tryd.func39, Tryd.ntmps39
    go_wp2_with fail
    refine (err_any 3 _).mono ?_
    rintro e W ⟨rfl, hb⟩
    obtain ⟨⟨x0, x1, x2⟩, y0, y1, y2⟩ := H0.out.2.below hb (by simp)
    have hz : w.heap.size + 1 < W.heap.size := lt_of_cell x0
    have HB := Lib.hid (H0.out.1.trans (hb.mono (by simp; omega)))
    clear hb
    go_wp2_with fail
    exact bodyPost_ret (v := .agg #[.int .i64 3, .int .i64 (-1), .string ⟨#[]⟩]) (by simp [results, Tryd.results39, go_sem, x0, x1, x2, y0, y1, y2]) rfl (FIN.out _ (some ([], 3)) (((HB.out.setCell (by simp) _).setCell (by simp) _).setCell (by simp) _) (by rw [← HR.out]; simp [chkHead, HF.out]))
  by_cases e5 : k = 5
  · subst e5
    obtain ⟨rfl, hfl, hfm⟩ : dp = 20 ∧ fl l = some ([], 3) ∧ fm m = some ([], 3) := by
      rcases hk with h | h
      · exact absurd rfl h.2
      · exact h
    have HF := Lib.hid hfm
    clear hfl hfm hk
    go_enter Tryd.func39, Tryd.ntmps39
    go_wp2_with fail
    refine (err_any 3 _).mono ?_
    rintro e W ⟨rfl, hb⟩
    obtain ⟨⟨x0, x1, x2⟩, y0, y1, y2⟩ := H0.out.2.below hb (by simp)
    have hz : w.heap.size + 1 < W.heap.size := lt_of_cell x0
    have HB := Lib.hid (H0.out.1.trans (hb.mono (by simp; omega)))
    clear hb
    go_wp2_with fail
    exact bodyPost_ret (v := .agg #[.int .i64 3, .int .i64 (-1), .string ⟨#[]⟩]) (by simp [results, Tryd.results39, go_sem, x0, x1, x2, y0, y1, y2]) rfl (FIN.out _ (some ([], 3)) (((HB.out.setCell (by simp) _).setCell (by simp) _).setCell (by simp) _) (by rw [← HR.out]; simp [chkHead, HF.out]))
  · have k0 : (k == 0) = false := beq_eq_false_iff_ne.2 e0
    have k1 : (k == 1) = false := beq_eq_false_iff_ne.2 e1
    have k2 : (k == 2) = false := beq_eq_false_iff_ne.2 e2
    have k3 : (k == 3) = false := beq_eq_false_iff_ne.2 e3
    have k4 : (k == 4) = false := beq_eq_false_iff_ne.2 e4
    have k5 : (k == 5) = false := beq_eq_false_iff_ne.2 e5
    have HK : Hid (chkHead fl fm (.mk k y n t l m) = some ([], 9)) := by
      show _ = _
      rw [chkHead, if_neg (by omega), if_neg e2, if_neg e3, if_neg e4, if_neg e5]
    clear hk e0 e1 e2 e3 e4 e5
    go_enter Tryd.func39, Tryd.ntmps39
    go_wp2_with fail
    refine (err_any 9 _).mono ?_
    rintro e W ⟨rfl, hb⟩
    obtain ⟨⟨x0, x1, x2⟩, y0, y1, y2⟩ := H0.out.2.below hb (by simp)
    have hz : w.heap.size + 1 < W.heap.size := lt_of_cell x0
    have HB := Lib.hid (H0.out.1.trans (hb.mono (by simp; omega)))
    clear hb
    go_wp2_with fail
    exact bodyPost_ret (v := .agg #[.int .i64 9, .int .i64 (-1), .string ⟨#[]⟩]) (by simp [results, Tryd.results39, go_sem, x0, x1, x2, y0, y1, y2]) rfl (FIN.out _ (some ([], 9)) (((HB.out.setCell (by simp) _).setCell (by simp) _).setCell (by simp) _) (by rw [← HR.out]; exact HK.out))
end Go.Proofs.YtdpohklklmkjbaaDoor

namespace Go.Proofs.YtdpohklklmkjbaaDoor
open Go.RowKit Go.Lib
set_option linter.unusedVariables false
set_option linter.unusedSimpArgs false

def RefSaid (d : Nat) : Prop := ∀ (v : V) (cs : Array Value) (B : Nat) (w : World), Val w (· < B) 1000000 v cs → B ≤ w.heap.size → Calls Tryd.prog 39 #[.agg cs, .int .i64 (20 - (d : Int))] w (RefAns (chk d v) w)
def RefRelL (w : World) (f : V → Option (List ByteArray × Int)) (l : List V) (box : Array Value) (k : Nat) (i : Value) (wr : World) : Prop :=
  ∃ j : Nat, j + k = l.length ∧ i = .int .i64 j ∧ Whole wr w.heap.size 25 box ∧ EBlk wr (w.heap.size + 1) 0 0 ⟨#[]⟩ ∧ chkL f j (l.drop j) = chkL f 0 l ∧ Below w.heap.size w wr
theorem inPath_pth (s : ByteArray) (c : Int) (p : List ByteArray) (h : c ≠ 0) : inPath s c (pth p) = pth (s :: p) := by rw [inPath, if_neg h, pth]

set_option maxRecDepth 100000 in
set_option maxHeartbeats 4000000 in
theorem refcheck_list (d : Nat) (hd : d + 1 ≤ 20) (ih : RefSaid d) (y : Bool) (n : Int) (t : ByteArray) (l : List V) (m : List (ByteArray × V)) (A A' : Option Addr) (c c' B : Nat) (w : World) (hv : ValL w (· < B) 1000000 l A 0) (hlen : l.length ≤ 1000000) (hcap : l.length ≤ c) (hB : B ≤ w.heap.size) :
    Calls Tryd.prog 39 #[.agg #[.int .i64 4, .bool y, .int .i64 n, .string t, .slice A l.length c, .slice A' m.length c'], .int .i64 (20 - ((d + 1 : Nat) : Int))] w (RefAns (chkL (chk d) 0 l) w) := by
  obtain ⟨dp, hdp⟩ : ∃ dp : Int, dp = 20 - ((d + 1 : Nat) : Int) := ⟨_, rfl⟩
  rw [← hdp]
  have hdp1 : dp + 1 = 20 - (d : Int) := by omega
  have hne : (dp == 20) = false := beq_eq_false_iff_ne.2 (by omega)
  have hd0 : 0 ≤ dp := by omega
  have hd20 : dp < 20 := by omega
  obtain ⟨R, hR⟩ : ∃ R, chkL (chk d) 0 l = R := ⟨_, rfl⟩
  rw [hR]
  have HR := Lib.hid (And.intro hR hdp1)
  have HV := Lib.hid hv
  clear hR hv hdp hdp1
  go_enter Tryd.func39, Tryd.ntmps39
  go_wp2_with fail
  go_loopg [43] l.length (RefRelL w (chk d) l #[.int .i64 4, .bool y, .int .i64 n, .string t, .slice A l.length c, .slice A' m.length c'])
  case atStart =>
    refine ⟨0, by simp, rfl, (Whole.made w _ _).alloc _, ?_, rfl, ((Below.refl _ _).alloc (Nat.le_refl _) _).alloc (by simp) _⟩
    have := EBlk.new (w.alloc (.cells #[.int .i64 4, .bool y, .int .i64 n, .string t, .slice A l.length c, .slice A' m.length c'] 25)) 0 0 ⟨#[]⟩
    simpa using this
  case round =>
    obtain ⟨j, hk, rfl, hbox, hE, hrest, hb⟩ := hrel
    have b4 := hbox.cell 4
    simp at b4
    have hz : w.heap.size + 1 < wr.heap.size := hE.lt
    by_cases hlt : j < l.length
    · obtain ⟨b, off, cs, rfl, hbl, hcell, hval⟩ := HV.out.get j hlt
      have hcell' : ∀ q, q < 6 → wr.cell? ⟨b, off + j * 6 + q, none⟩ = cs[q]? := fun q hq => (hb.cell (by simp; omega)).trans (by simpa using hcell q hq)
      obtain ⟨cj, rfl⟩ := hval.c6
      obtain ⟨x0, x1, x2, x3, x4, x5⟩ := cells6 hcell' rfl
      have hcall := ih l[j] cj.arr B wr (hval.keep (fun p hp => hb.cell (Nat.lt_of_lt_of_le hp hB)) (fun _ h => h)) (Nat.le_trans hB hb.size)
      rw [← HR.out.2] at hcall
      have hgood := chk_good d l[j] hval.ok
      have hj1 : (j : Int) < (l.length : Int) := by omega
      have HC := Lib.hid hcall
      have HX := Lib.hid (And.intro hk (And.intro hbox (And.intro hE (And.intro hrest hb))))
      clear hcall hval hcell hcell' hk hbox hE hrest hb
      obtain ⟨jk, jy, jn, jt, ja, jla, jca, jb, jlb, jcb⟩ := cj
      dsimp only [C6.arr] at x0 x1 x2 x3 x4 x5 HC
      cases hcj : chk d l[j] with
      | none =>
        rw [hcj] at HC
        have HJ := Lib.hid hcj
        clear hcj hgood
        go_wp2_with fail
        refine HC.out.mono ?_
        rintro e W ⟨rfl, hb2⟩
        have HB := Lib.hid hb2
        clear hb2 x0 x1 x2 x3 x4 x5 HC
        simp only [refCode, refPath]
        go_wp2_with fail
        go_roundg (l.length - (j + 1))
        case rel =>
          obtain ⟨hk, hbox, hE, hrest, hb⟩ := HX.out
          have hb3 := HB.out.alloc HB.out.size (.cells #[.int .i64 0, .int .i64 (-1), .string ⟨#[]⟩] 29)
          refine ⟨j + 1, by omega, by go_num, hbox.below hb3 hbox.lt, hE.below hb3 hE.lt, ?_, hb.trans (hb3.mono hb.size)⟩
          rw [← hrest, List.drop_eq_getElem_cons hlt, chkL, HJ.out]
        case measure => have := HX.out.1; omega
      | some pc =>
        obtain ⟨p, ec⟩ := pc
        rw [hcj] at HC
        have hg := hgood p ec hcj
        have hec : (ec != 0) = true := by simpa using hg.1
        have hps : (pth p).size ≤ 1000000000 := by have := hg.2; have : d * 1000050 ≤ 20 * 1000050 := Nat.mul_le_mul_right _ (by omega); omega
        have HJ := Lib.hid (And.intro hcj hg.1)
        clear hcj hgood hg
        obtain ⟨pp, hpp⟩ : ∃ pp, pth p = pp := ⟨_, rfl⟩
        unfold RefAns at HC
        simp only [refCode, refPath] at HC
        rw [hpp] at HC hps
        have HP := Lib.hid hpp
        clear hpp
        go_wp2_with fail
        refine HC.out.mono ?_
        rintro e W ⟨rfl, hb2⟩
        obtain ⟨r0, r1, r2⟩ := (HX.out.2.2.1.below hb2 HX.out.2.2.1.lt).1
        obtain ⟨s0, s1, s2⟩ := (HX.out.2.2.1.below hb2 HX.out.2.2.1.lt).2
        have hzW : w.heap.size + 1 < W.heap.size := lt_of_cell r0
        have HB := Lib.hid hb2
        clear hb2 x0 x1 x2 x3 x4 x5 HC
        go_wp2_with fail
        obtain ⟨W2, hW2⟩ : ∃ W2, W.alloc (.cells #[.int .i64 ec, .int .i64 (-1), .string pp] 29) = W2 := ⟨_, rfl⟩
        rw [hW2]
        have hbW2 : Below W.heap.size W W2 := hW2 ▸ (Below.refl _ _).alloc (Nat.le_refl _) _
        have hE2 : EBlk W2 W.heap.size ec (-1) pp := hW2 ▸ EBlk.new W ec (-1) pp
        obtain ⟨e0, e1, e2⟩ := hE2.1
        have q0 := (hbW2.cell (p := ⟨w.heap.size + 1, 0, none⟩) hzW).trans r0
        have q1 := (hbW2.cell (p := ⟨w.heap.size + 1, 1, none⟩) hzW).trans r1
        have q2 := (hbW2.cell (p := ⟨w.heap.size + 1, 2, none⟩) hzW).trans r2
        have u0 := (hbW2.frozen (p := ⟨w.heap.size + 1, 0, none⟩) hzW).trans s0
        have u1 := (hbW2.frozen (p := ⟨w.heap.size + 1, 1, none⟩) hzW).trans s1
        have u2 := (hbW2.frozen (p := ⟨w.heap.size + 1, 2, none⟩) hzW).trans s2
        have hz2 : W.heap.size < W2.heap.size := hE2.lt
        have hzr2 : w.heap.size + 1 < W2.heap.size := by omega
        have HW2 := Lib.hid hbW2
        clear hbW2 hE2 hW2 r0 r1 r2 s0 s1 s2
        go_region_held3 (fun w' => w'.cell? ⟨W.heap.size, 0, none⟩ = some (.int .i64 ec) ∧ w'.cell? ⟨W.heap.size, 1, none⟩ = some (.int .i64 (-1)) ∧ w'.cell? ⟨W.heap.size, 2, none⟩ = some (.string pp)) (go_keep)
          (first
            | (go_at_call 34; refine (digits_any j _ (by omega)).mono ?_; rintro e W5 ⟨rfl, rfl⟩)
            | (go_at_call 33; refine (in_any (itoaB j) pp ec (-1) _ (Nat.le_trans (itoaB_small j (by omega)) (by omega)) hps).mono ?_; rintro e W6 ⟨rfl, hb6⟩
               have e0' := (hb6.cell (p := ⟨W.heap.size, 0, none⟩) hz2).trans e0
               have e1' := (hb6.cell (p := ⟨W.heap.size, 1, none⟩) hz2).trans e1
               have e2' := (hb6.cell (p := ⟨W.heap.size, 2, none⟩) hz2).trans e2
               have q0' := (hb6.cell (p := ⟨w.heap.size + 1, 0, none⟩) hzr2).trans q0
               have q1' := (hb6.cell (p := ⟨w.heap.size + 1, 1, none⟩) hzr2).trans q1
               have q2' := (hb6.cell (p := ⟨w.heap.size + 1, 2, none⟩) hzr2).trans q2
               have u0' := (hb6.frozen (p := ⟨w.heap.size + 1, 0, none⟩) hzr2).trans u0
               have u1' := (hb6.frozen (p := ⟨w.heap.size + 1, 1, none⟩) hzr2).trans u1
               have u2' := (hb6.frozen (p := ⟨w.heap.size + 1, 2, none⟩) hzr2).trans u2
               have hz6 : w.heap.size + 1 < W6.heap.size := lt_of_cell q0'
               have hne6 : ¬ w.heap.size + 1 = W.heap.size := by omega
               have H6 := Lib.hid (((Below.refl W2.heap.size W2).drew).trans hb6)
               clear hb6))
        go_wp2_with fail
        refine bodyPost_ret (v := .agg #[.int .i64 ec, .int .i64 (-1), .string (inPath (itoaB j) ec pp)]) (by simp [results, Tryd.results39, go_sem, q0', q1', q2', u0', u1', u2']) rfl ?_
        obtain ⟨hk, hbox, hE, hrest, hb⟩ := HX.out
        have hRR : R = some (itoaB j :: p, ec) := by rw [← HR.out.1, ← hrest, List.drop_eq_getElem_cons hlt, chkL, HJ.out.1]
        refine ⟨?_, ?_⟩
        · rw [hRR, ← HP.out, inPath_pth _ _ _ HJ.out.2]; rfl
        · exact (((hb.trans ((HB.out.trans ((HW2.out.trans (H6.out.mono HW2.out.size)).mono HB.out.size)).mono hb.size)).setCell (by simp) _).setCell (by simp) _).setCell (by simp) _
    · obtain ⟨r0, r1, r2⟩ := hE.1
      have HX := Lib.hid (And.intro hk (And.intro hE (And.intro hrest hb)))
      clear hk hbox hE hrest hb
      go_wp2_with fail
      refine (none_any _).mono ?_
      rintro e W ⟨rfl, hb2⟩
      obtain ⟨⟨x0, x1, x2⟩, y0, y1, y2⟩ := HX.out.2.1.below hb2 HX.out.2.1.lt
      have hzW : w.heap.size + 1 < W.heap.size := lt_of_cell x0
      have HB := Lib.hid hb2
      clear hb2 r0 r1 r2
      go_wp2_with fail
      refine bodyPost_ret (v := .agg #[.int .i64 0, .int .i64 (-1), .string ⟨#[]⟩]) (by simp [results, Tryd.results39, go_sem, x0, x1, x2, y0, y1, y2]) rfl ?_
      obtain ⟨hk, hE, hrest, hb⟩ := HX.out
      have hRR : R = none := by rw [← HR.out.1, ← hrest, List.drop_of_length_le (by omega), chkL]
      refine ⟨by rw [hRR]; rfl, ?_⟩
      exact (((hb.trans (HB.out.mono hb.size)).setCell (by simp) _).setCell (by simp) _).setCell (by simp) _
end Go.Proofs.YtdpohklklmkjbaaDoor

namespace Go.Proofs.YtdpohklklmkjbaaDoor
open Go.RowKit Go.Lib
set_option linter.unusedVariables false
set_option linter.unusedSimpArgs false

def RefRelM (w : World) (f : V → Option (List ByteArray × Int)) (l : List (ByteArray × V)) (box : Array Value) (k : Nat) (i : Value) (wr : World) : Prop :=
  ∃ j : Nat, j + k = l.length ∧ i = .int .i64 j ∧ Whole wr w.heap.size 25 box ∧ EBlk wr (w.heap.size + 1) 0 0 ⟨#[]⟩ ∧ chkM f (prevAt l j) (l.drop j) = chkM f none l ∧ Below w.heap.size w wr

theorem Only.drewN {g : Nat} {w w' : World} (h : Only g w w') (n : Nat) : Only g w (w'.drewN n) := ⟨h.1, h.2.1, fun B W hW h1 h2 => below_drewN (h.2.2 B W hW h1 h2) n⟩
theorem EBlk.drewN {w : World} {g : Nat} {a b : Int} {s : ByteArray} (h : EBlk w g a b s) (n : Nat) : EBlk (w.drewN n) g a b s := h
def lessB (s : ByteArray) : Option ByteArray → Bool
  | none => false
  | some q => Op.bytesLess s.toList q.toList
def sameB (s : ByteArray) : Option ByteArray → Bool
  | none => false
  | some q => s.toList == q.toList

theorem sameB_some {s q : ByteArray} : sameB s (some q) = decide (s.toList = q.toList) := by
  unfold sameB
  by_cases h : s.toList = q.toList <;> simp [h]
theorem map_step {f : V → Option (List ByteArray × Int)} {m : List (ByteArray × V)} {j : Nat} {s : ByteArray} {ro : Option (List ByteArray × Int)} {d : Nat} (hlt : j < m.length) (hs : m[j].1 = s) (hro : f m[j].2 = ro) (hg : GoodR d ro) :
    (validB s = false → chkM f (prevAt m j) (m.drop j) = some ([s], 5)) ∧
    (validB s = true → ∀ (ec2 : Int) (ep2 : ByteArray), (if sameB s (prevAt m j) then 6 else if lessB s (prevAt m j) then 1 else refCode ro) = ec2 → (if sameB s (prevAt m j) then ⟨#[]⟩ else if lessB s (prevAt m j) then ⟨#[]⟩ else refPath ro) = ep2 →
      (ec2 = 0 → chkM f (prevAt m (j + 1)) (m.drop (j + 1)) = chkM f (prevAt m j) (m.drop j)) ∧ (ec2 ≠ 0 → ∃ p, chkM f (prevAt m j) (m.drop j) = some (p, ec2) ∧ pth p = inPath s ec2 ep2)) := by
  have hdrop : m.drop j = (s, m[j].2) :: m.drop (j + 1) := by
    rw [List.drop_eq_getElem_cons hlt]
    congr 1
    exact Prod.ext hs rfl
  have hprev : prevAt m (j + 1) = some s := by simp [prevAt, List.getElem?_eq_getElem hlt, hs]
  have hone : ∀ c : Int, c ≠ 0 → pth [s] = inPath s c ⟨#[]⟩ := fun c hc => by rw [inPath, if_neg hc, pth, pth]
  refine ⟨fun h => ?_, fun h ec2 ep2 hec hep => ?_⟩
  · rw [hdrop, chkM, chkKey.eq_def, if_pos h]
  · have hkey : chkKey s (prevAt m j) = if sameB s (prevAt m j) then some 6 else if lessB s (prevAt m j) then some 1 else none := by
      rw [chkKey.eq_def, if_neg (by simp [h])]
      cases hp : prevAt m j with
      | none => rfl
      | some q =>
        simp only [sameB_some, lessB, bytesLt]
        by_cases h1 : s.toList = q.toList
        · simp [h1]
        · rw [if_neg h1, if_neg (by simp [h1])]
          rfl
    rw [hdrop, chkM, hkey, hprev]
    by_cases b2 : sameB s (prevAt m j) = true
    · rw [if_pos b2] at hec hep ⊢
      subst hec hep
      exact ⟨fun h0 => absurd h0 (by omega), fun _ => ⟨[s], rfl, hone 6 (by omega)⟩⟩
    · rw [if_neg b2] at hec hep ⊢
      by_cases b1 : lessB s (prevAt m j) = true
      · rw [if_pos b1] at hec hep ⊢
        subst hec hep
        exact ⟨fun h0 => absurd h0 (by omega), fun _ => ⟨[s], rfl, hone 1 (by omega)⟩⟩
      · rw [if_neg b1] at hec hep ⊢
        dsimp only
        rw [hro]
        cases ro with
        | none =>
          subst hec hep
          exact ⟨fun _ => rfl, fun h0 => absurd rfl h0⟩
        | some pc =>
          obtain ⟨p, c⟩ := pc
          subst hec hep
          have hc := (hg p c rfl).1
          exact ⟨fun h0 => absurd h0 hc, fun _ => ⟨s :: p, rfl, (inPath_pth s c p hc).symm⟩⟩

set_option maxRecDepth 100000 in
set_option maxHeartbeats 8000000 in
theorem refcheck_map (d : Nat) (hd : d + 1 ≤ 20) (ih : RefSaid d) (y : Bool) (n : Int) (t : ByteArray) (l : List V) (m : List (ByteArray × V)) (A A' : Option Addr) (c c' B : Nat) (w : World) (hv : ValM w (· < B) 1000000 m A' 0) (hlen : m.length ≤ 1000000) (hcap : m.length ≤ c') (hB : B ≤ w.heap.size) :
    Calls Tryd.prog 39 #[.agg #[.int .i64 5, .bool y, .int .i64 n, .string t, .slice A l.length c, .slice A' m.length c'], .int .i64 (20 - ((d + 1 : Nat) : Int))] w (RefAns (chkM (chk d) none m) w) := by
  obtain ⟨dp, hdp⟩ : ∃ dp : Int, dp = 20 - ((d + 1 : Nat) : Int) := ⟨_, rfl⟩
  rw [← hdp]
  have hdp1 : dp + 1 = 20 - (d : Int) := by omega
  have hne : (dp == 20) = false := beq_eq_false_iff_ne.2 (by omega)
  have hd0 : 0 ≤ dp := by omega
  have hd20 : dp < 20 := by omega
  obtain ⟨R, hR⟩ : ∃ R, chkM (chk d) none m = R := ⟨_, rfl⟩
  rw [hR]
  have HR := Lib.hid (And.intro hR hdp1)
  have HV := Lib.hid hv
  clear hR hv hdp hdp1
  go_enter Tryd.func39, Tryd.ntmps39
  go_wp2_with fail
  go_loopg [71] m.length (RefRelM w (chk d) m #[.int .i64 5, .bool y, .int .i64 n, .string t, .slice A l.length c, .slice A' m.length c'])
  case atStart =>
    refine ⟨0, by simp, rfl, (Whole.made w _ _).alloc _, ?_, rfl, ((Below.refl _ _).alloc (Nat.le_refl _) _).alloc (by simp) _⟩
    have := EBlk.new (w.alloc (.cells #[.int .i64 5, .bool y, .int .i64 n, .string t, .slice A l.length c, .slice A' m.length c'] 25)) 0 0 ⟨#[]⟩
    simpa using this
  case round =>
    obtain ⟨j, hk, rfl, hbox, hE, hrest, hb⟩ := hrel
    have b5 := hbox.cell 5
    simp at b5
    have hz : w.heap.size + 1 < wr.heap.size := hE.lt
    by_cases hlt : j < m.length
    · obtain ⟨b, off, cs, rfl, hbl, hsM, hkc, hcell, hval⟩ := HV.out.get j hlt
      obtain ⟨cj, rfl⟩ := hval.c6
      obtain ⟨s, hs⟩ : ∃ s, m[j].1 = s := ⟨_, rfl⟩
      rw [hs] at hkc hsM
      have hck : wr.cell? ⟨b, off + j * 7, none⟩ = some (.string s) := (hb.cell (p := ⟨b, off + j * 7, none⟩) (by simp; omega)).trans (by simpa using hkc)
      have hcj : ∀ q, q < 6 → wr.cell? ⟨b, off + j * 7 + (1 + q), none⟩ = cj.arr[q]? := fun q hq => (hb.cell (p := ⟨b, off + j * 7 + (1 + q), none⟩) (by simp; omega)).trans (by simpa using hcell q hq)
      obtain ⟨xk, x0, x1, x2, x3, x4, x5⟩ := cells7 hck hcj rfl
      have hcall := ih m[j].2 cj.arr B wr (hval.keep (fun p hp => hb.cell (Nat.lt_of_lt_of_le hp hB)) (fun _ h => h)) (Nat.le_trans hB hb.size)
      rw [← HR.out.2] at hcall
      have hgood := chk_good d m[j].2 hval.ok
      have hj1 : (j : Int) < (m.length : Int) := by omega
      have hbr : b < wr.heap.size := by have := hb.size; omega
      obtain ⟨ro, hro⟩ : ∃ ro, chk d m[j].2 = ro := ⟨_, rfl⟩
      rw [hro] at hcall hgood
      unfold RefAns at hcall
      obtain ⟨ec, hec⟩ : ∃ ec, refCode ro = ec := ⟨_, rfl⟩
      obtain ⟨ep, hep⟩ : ∃ ep, refPath ro = ep := ⟨_, rfl⟩
      rw [hec, hep] at hcall
      have hps : ep.size ≤ 1000000000 := by
        rw [← hep]
        cases ro with
        | none => simp [refPath, ByteArray.size]
        | some pc =>
          obtain ⟨p, c2⟩ := pc
          have := (hgood p c2 rfl).2
          have : d * 1000050 ≤ 20 * 1000050 := Nat.mul_le_mul_right _ (by omega)
          simp only [refPath]; omega
      have HC := Lib.hid hcall
      have HX := Lib.hid (And.intro hk (And.intro hbox (And.intro hE (And.intro hrest hb))))
      have HY := Lib.hid (And.intro hs (And.intro hro (And.intro hec (And.intro hep hgood))))
      clear hcall hval hcell hcj hk hbox hE hrest hb hs hro hec hep hgood hkc hck
      obtain ⟨jk, jy, jn, jt, ja, jla, jca, jb, jlb, jcb⟩ := cj
      dsimp only [C6.arr] at x0 x1 x2 x3 x4 x5 HC
      have hprev : ∀ i, j = i + 1 → ∃ q, prevAt m j = some q ∧ wr.cell? ⟨b, off + i * 7, none⟩ = some (.string q) := fun i e => by
        subst e
        obtain ⟨b', off', cs', e', -, -, hkc', -, -⟩ := HV.out.get i (by omega)
        obtain ⟨rfl, rfl⟩ : b = b' ∧ off = off' := by simpa using e'
        refine ⟨m[i].1, by simp [prevAt, List.getElem?_eq_getElem (show i < m.length by omega)], ?_⟩
        exact (HX.out.2.2.2.2.cell (p := ⟨b, off + i * 7, none⟩) (by simp; omega)).trans (by simpa using hkc')
      have HP := Lib.hid hprev
      clear hprev
      go_wp2_with fail
      refine HC.out.mono ?_
      rintro e W ⟨rfl, hb2⟩
      have HB := Lib.hid hb2
      have zk0 := (hb2.cell (p := ⟨b, off + j * 7, none⟩) hbr).trans xk
      have z50 := (hb2.cell (p := ⟨w.heap.size, 5, none⟩) (show w.heap.size < wr.heap.size by omega)).trans b5
      have hzW := hb2.size
      clear hb2 x0 x1 x2 x3 x4 x5 HC xk b5
      go_upto_region 31 with (fail)
      obtain ⟨W2, hW2⟩ : ∃ W2, W.alloc (.cells #[.int .i64 ec, .int .i64 (-1), .string ep] 29) = W2 := ⟨_, rfl⟩
      rw [hW2]
      have hbW2 : Below W.heap.size W W2 := hW2 ▸ (Below.refl _ _).alloc (Nat.le_refl _) _
      have hE2 : EBlk W2 W.heap.size ec (-1) ep := hW2 ▸ EBlk.new W ec (-1) ep
      have zk := (hbW2.cell (p := ⟨b, off + j * 7, none⟩) (show b < W.heap.size by omega)).trans zk0
      have z5 := (hbW2.cell (p := ⟨w.heap.size, 5, none⟩) (show w.heap.size < W.heap.size by omega)).trans z50
      have HK := Lib.hid (And.intro zk (And.intro z5 (And.intro hE2 hbW2)))
      have hz2 : W.heap.size < W2.heap.size := hE2.lt
      have hbW : b < W.heap.size := by omega
      clear hW2 hE2 hbW2 zk0 z50
      go_cut [71, 100] from 71 to 141 (fun i s100 wx => i = .int .i64 j ∧ s100 = .bool (lessB s (prevAt m j)) ∧ Only W.heap.size W2 wx ∧ EBlk wx W.heap.size ec (-1) ep)
      case first =>
        cases j with
        | zero =>
          have hg0 : decide ((0 : Int) < ((0 : Nat) : Int)) = false := rfl
          go_quiet (fail)
          go_wp2_with fail
          go_meet
          exact ⟨rfl, rfl, (Only.refl _ _).drewN _, HK.out.2.2.1.drewN _⟩
        | succ i =>
          obtain ⟨q, hq, hqc⟩ := HP.out i rfl
          have hqc2 : W2.cell? ⟨b, off + i * 7, none⟩ = some (.string q) := (HK.out.2.2.2.cell (p := ⟨b, off + i * 7, none⟩) hbW).trans ((HB.out.cell (p := ⟨b, off + i * 7, none⟩) hbr).trans hqc)
          have hi0 : (0 : Int) < ((i + 1 : Nat) : Int) := by omega
          have hil : (i : Int) < (m.length : Int) := by omega
          have HQ := Lib.hid hq
          clear hq hqc
          go_quiet (fail)
          go_wp2_with fail
          go_meet
          exact ⟨by go_num, by rw [HQ.out]; rfl, (Only.refl _ _).drewN _, HK.out.2.2.1.drewN _⟩
      case rest =>
        obtain ⟨rfl, rfl, ho, hE⟩ := hcut
        obtain ⟨B1, hB1⟩ : ∃ B1, lessB s (prevAt m j) = B1 := ⟨_, rfl⟩
        rw [hB1]
        have HB1 := Lib.hid hB1
        have HO := Lib.hid (And.intro ho hE)
        obtain ⟨⟨e0, e1, e2⟩, f0, f1, f2⟩ := hE
        have hzo : W2.heap.size ≤ wc.heap.size := ho.1
        clear hB1 ho
        go_upto_if 100 with (fail)
        go_cut [71] from 71 to 141 (fun i wx => i = .int .i64 j ∧ Only W.heap.size W2 wx ∧ EBlk wx W.heap.size (if B1 then 1 else ec) (-1) (if B1 then ⟨#[]⟩ else ep))
        case first =>
          cases B1 with
          | false =>
            go_wp2_with fail
            go_meet
            exact ⟨rfl, HO.out.1, HO.out.2⟩
          | true =>
            go_wp2_with fail
            refine (err_any 1 _).mono ?_
            rintro e W5 ⟨rfl, hb5⟩
            have hE5 := HO.out.2.below hb5 (show W.heap.size < wc.heap.size by omega)
            have HE := Lib.hid (And.intro hE5 hb5)
            obtain ⟨⟨c0, c1, c2⟩, g0, g1, g2⟩ := hE5
            have hz5 : W.heap.size < W5.heap.size := lt_of_cell c0
            clear hb5 e0 e1 e2 f0 f1 f2
            go_wp2_with fail
            go_meet
            refine ⟨rfl, (((HO.out.1.step HE.out.2).put 0 _).put 1 _).put 2 _, ?_⟩
            exact ((HE.out.1.set0 _).set1 _).set2 _
        case rest =>
          obtain ⟨rfl, ho, hE⟩ := hcut
          clear HO e0 e1 e2 f0 f1 f2 hzo
          obtain ⟨ec1, hec1⟩ : ∃ x, (if B1 then (1 : Int) else ec) = x := ⟨_, rfl⟩
          obtain ⟨ep1, hep1⟩ : ∃ x, (if B1 then (⟨#[]⟩ : ByteArray) else ep) = x := ⟨_, rfl⟩
          rw [hec1, hep1] at hE
          have hps1 : ep1.size ≤ 1000000000 := by
            rw [← hep1]
            split
            · simp [ByteArray.size]
            · exact hps
          have Hec1 := Lib.hid (And.intro hec1 hep1)
          clear hec1 hep1
          have HO := Lib.hid (And.intro ho hE)
          have zk' := (ho.cell (p := ⟨b, off + j * 7, none⟩) (show b < W2.heap.size by omega) (show b ≠ W.heap.size by omega)).trans zk
          have z5' := (ho.cell (p := ⟨w.heap.size, 5, none⟩) (show w.heap.size < W2.heap.size by omega) (show w.heap.size ≠ W.heap.size by omega)).trans z5
          clear ho hE
          go_upto_region 33 with (fail)
          go_cut [71, 119] from 71 to 141 (fun i s119 wx => i = .int .i64 j ∧ s119 = .bool (sameB s (prevAt m j)) ∧ Only W.heap.size W2 wx ∧ EBlk wx W.heap.size ec1 (-1) ep1)
          case first =>
            cases j with
            | zero =>
              have hg0 : decide ((0 : Int) < ((0 : Nat) : Int)) = false := rfl
              go_quiet (fail)
              go_wp2_with fail
              go_meet
              exact ⟨rfl, rfl, HO.out.1.drewN _, HO.out.2.drewN _⟩
            | succ i =>
              obtain ⟨q, hq, hqc⟩ := HP.out i rfl
              have hqc2 : wc.cell? ⟨b, off + i * 7, none⟩ = some (.string q) := (HO.out.1.cell (p := ⟨b, off + i * 7, none⟩) (show b < W2.heap.size by omega) (show b ≠ W.heap.size by omega)).trans ((HK.out.2.2.2.cell (p := ⟨b, off + i * 7, none⟩) hbW).trans ((HB.out.cell (p := ⟨b, off + i * 7, none⟩) hbr).trans hqc))
              have hi0 : (0 : Int) < ((i + 1 : Nat) : Int) := by omega
              have hil : (i : Int) < (m.length : Int) := by omega
              have HQ := Lib.hid hq
              clear hq hqc
              go_quiet (fail)
              go_wp2_with fail
              go_meet
              exact ⟨by go_num, by rw [HQ.out]; rfl, HO.out.1.drewN _, HO.out.2.drewN _⟩
          case rest =>
            clear HO zk' z5'
            obtain ⟨rfl, rfl, ho, hE⟩ := hcut
            obtain ⟨B2, hB2⟩ : ∃ B2, sameB s (prevAt m j) = B2 := ⟨_, rfl⟩
            rw [hB2]
            have HB2 := Lib.hid hB2
            have HO := Lib.hid (And.intro ho hE)
            obtain ⟨⟨e0, e1, e2⟩, f0, f1, f2⟩ := hE
            have hzo : W2.heap.size ≤ wc.heap.size := ho.1
            clear hB2 ho
            go_upto_if 119 with (fail)
            go_cut [71] from 71 to 141 (fun i wx => i = .int .i64 j ∧ Only W.heap.size W2 wx ∧ EBlk wx W.heap.size (if B2 then 6 else ec1) (-1) (if B2 then ⟨#[]⟩ else ep1))
            case first =>
              cases B2 with
              | false =>
                go_wp2_with fail
                go_meet
                exact ⟨rfl, HO.out.1, HO.out.2⟩
              | true =>
                go_wp2_with fail
                refine (err_any 6 _).mono ?_
                rintro e W5 ⟨rfl, hb5⟩
                have hE5 := HO.out.2.below hb5 (show W.heap.size < wc.heap.size by omega)
                have HE := Lib.hid (And.intro hE5 hb5)
                obtain ⟨⟨c0, c1, c2⟩, g0, g1, g2⟩ := hE5
                have hz5 : W.heap.size < W5.heap.size := lt_of_cell c0
                clear hb5 e0 e1 e2 f0 f1 f2
                go_wp2_with fail
                go_meet
                refine ⟨rfl, (((HO.out.1.step HE.out.2).put 0 _).put 1 _).put 2 _, ?_⟩
                exact ((HE.out.1.set0 _).set1 _).set2 _
            case rest =>
              obtain ⟨rfl, ho, hE⟩ := hcut
              clear HO e0 e1 e2 f0 f1 f2 hzo
              obtain ⟨ec2, hec2⟩ : ∃ x, (if B2 then (6 : Int) else ec1) = x := ⟨_, rfl⟩
              obtain ⟨ep2, hep2⟩ : ∃ x, (if B2 then (⟨#[]⟩ : ByteArray) else ep1) = x := ⟨_, rfl⟩
              rw [hec2, hep2] at hE
              have hps2 : ep2.size ≤ 1000000000 := by
                rw [← hep2]
                split
                · simp [ByteArray.size]
                · exact hps1
              have Hec2 := Lib.hid (And.intro hec2 hep2)
              clear hec2 hep2
              have hE1 : EBlk wc (w.heap.size + 1) 0 0 ⟨#[]⟩ := by
                have h1 := (HX.out.2.2.1.below HB.out HX.out.2.2.1.lt).below HK.out.2.2.2 (show w.heap.size + 1 < W.heap.size by omega)
                exact h1.keep (fun o => ho.cell (p := ⟨w.heap.size + 1, o, none⟩) (show w.heap.size + 1 < W2.heap.size by omega) (show w.heap.size + 1 ≠ W.heap.size by omega)) (fun o => World.frozen?_of_block (ho.2.1 (w.heap.size + 1) (show w.heap.size + 1 < W2.heap.size by omega) (show w.heap.size + 1 ≠ W.heap.size by omega)))
              have zk' := (ho.cell (p := ⟨b, off + j * 7, none⟩) (show b < W2.heap.size by omega) (show b ≠ W.heap.size by omega)).trans zk
              have z5' := (ho.cell (p := ⟨w.heap.size, 5, none⟩) (show w.heap.size < W2.heap.size by omega) (show w.heap.size ≠ W.heap.size by omega)).trans z5
              have hbw : Below w.heap.size w W2 := HX.out.2.2.2.2.trans ((HB.out.trans (HK.out.2.2.2.mono HB.out.size)).mono HX.out.2.2.2.2.size)
              have hbc : Below w.heap.size w wc := ho.2.2 _ _ hbw (by omega) (by omega)
              obtain ⟨⟨e0, e1, e2⟩, f0, f1, f2⟩ := hE
              obtain ⟨⟨r0, r1, r2⟩, s0, s1, s2⟩ := hE1
              have hzo : W2.heap.size ≤ wc.heap.size := ho.1
              have yb : b < wc.heap.size := by omega
              have yw : w.heap.size < wc.heap.size := by omega
              have yg : W.heap.size < wc.heap.size := by omega
              have yr : w.heap.size + 1 < wc.heap.size := by omega
              have HO := Lib.hid (And.intro hbc ho)
              have HU := Lib.hid (utf8_any s wc (by omega))
              clear ho hbw hbc zk z5
              cases hvs : validB s
              · rw [hvs] at HU
                have HVS := Lib.hid hvs
                clear hvs
                go_wp2_with fail
                refine HU.out.mono ?_
                rintro e W5 ⟨rfl, rfl⟩
                go_wp2_with fail
                refine (err_any 5 _).mono ?_
                rintro e W7 ⟨rfl, hb7⟩
                obtain ⟨W8, hW8⟩ : ∃ W8, ((W7.setCell ⟨W.heap.size, 0, none⟩ (.int .i64 5)).setCell ⟨W.heap.size, 1, none⟩ (.int .i64 (-1))).setCell ⟨W.heap.size, 2, none⟩ (.string ⟨#[]⟩) = W8 := ⟨_, rfl⟩
                have ho8 : Only W.heap.size W2 W8 := hW8 ▸ (((HO.out.2.step hb7).put 0 _).put 1 _).put 2 _
                have hE8 : EBlk W8 W.heap.size 5 (-1) ⟨#[]⟩ := hW8 ▸ ((((show EBlk wc W.heap.size ec2 (-1) ep2 from ⟨⟨e0, e1, e2⟩, f0, f1, f2⟩).below hb7 yg).set0 5).set1 (-1)).set2 ⟨#[]⟩
                have d0 := (hb7.cell (p := ⟨W.heap.size, 0, none⟩) yg).trans e0
                have d1 := (hb7.cell (p := ⟨W.heap.size, 1, none⟩) yg).trans e1
                have d2 := (hb7.cell (p := ⟨W.heap.size, 2, none⟩) yg).trans e2
                have g0 := (hb7.frozen (p := ⟨W.heap.size, 0, none⟩) yg).trans f0
                have g1 := (hb7.frozen (p := ⟨W.heap.size, 1, none⟩) yg).trans f1
                have g2 := (hb7.frozen (p := ⟨W.heap.size, 2, none⟩) yg).trans f2
                have hz7 : W.heap.size < W7.heap.size := lt_of_cell d0
                have hbw : Below w.heap.size w W2 := HX.out.2.2.2.2.trans ((HB.out.trans (HK.out.2.2.2.mono HB.out.size)).mono HX.out.2.2.2.2.size)
                have hbc : Below w.heap.size w W8 := ho8.2.2 _ _ hbw (by omega) (by omega)
                have hE1 : EBlk W8 (w.heap.size + 1) 0 0 ⟨#[]⟩ := by
                  have h1 := (HX.out.2.2.1.below HB.out HX.out.2.2.1.lt).below HK.out.2.2.2 (show w.heap.size + 1 < W.heap.size by omega)
                  exact h1.keep (fun o => ho8.cell (p := ⟨w.heap.size + 1, o, none⟩) (show w.heap.size + 1 < W2.heap.size by omega) (show w.heap.size + 1 ≠ W.heap.size by omega)) (fun o => World.frozen?_of_block (ho8.2.1 (w.heap.size + 1) (show w.heap.size + 1 < W2.heap.size by omega) (show w.heap.size + 1 ≠ W.heap.size by omega)))
                have zk8 := (ho8.cell (p := ⟨b, off + j * 7, none⟩) (show b < W2.heap.size by omega) (show b ≠ W.heap.size by omega)).trans HK.out.1
                have z58 := (ho8.cell (p := ⟨w.heap.size, 5, none⟩) (show w.heap.size < W2.heap.size by omega) (show w.heap.size ≠ W.heap.size by omega)).trans HK.out.2.1
                have hz8 : W2.heap.size ≤ W8.heap.size := ho8.1
                have HQ8 := Lib.hid hW8
                have HO8 := Lib.hid (And.intro hbc (And.intro hE8 (And.intro hE1 (And.intro zk8 z58))))
                clear hW8 ho8 hb7 hbw hbc hE8 hE1 zk8 z58 zk' z5' e0 e1 e2 f0 f1 f2 r0 r1 r2 s0 s1 s2 yb yw yg yr HU HO
                go_wp2_with fail
                rw [HQ8.out]
                obtain ⟨hbc, hE8, hE1, zk', z5'⟩ := HO8.out
                obtain ⟨⟨e0, e1, e2⟩, f0, f1, f2⟩ := hE8
                obtain ⟨⟨r0, r1, r2⟩, s0, s1, s2⟩ := hE1
                have yb : b < W8.heap.size := by omega
                have yw : w.heap.size < W8.heap.size := by omega
                have yg : W.heap.size < W8.heap.size := by omega
                have yr : w.heap.size + 1 < W8.heap.size := by omega
                clear d0 d1 d2 g0 g1 g2 hbc
                go_region_held3 (fun w' => w'.cell? ⟨b, off + j * 7, none⟩ = some (.string s) ∧ w'.cell? ⟨w.heap.size, 5, none⟩ = some (.slice (some ⟨b, off, none⟩) m.length c') ∧ w'.cell? ⟨W.heap.size, 0, none⟩ = some (.int .i64 5) ∧ w'.cell? ⟨W.heap.size, 1, none⟩ = some (.int .i64 (-1)) ∧ w'.cell? ⟨W.heap.size, 2, none⟩ = some (.string ⟨#[]⟩)) (go_keep)
                  (first
                    | (go_at_call 33; refine (in_any s ⟨#[]⟩ 5 (-1) _ (by omega) (by simp [ByteArray.size])).mono ?_; rintro e W6 ⟨rfl, hb6⟩
                       have k1 := (hb6.cell (p := ⟨b, off + j * 7, none⟩) yb).trans zk'
                       have k2 := (hb6.cell (p := ⟨w.heap.size, 5, none⟩) yw).trans z5'
                       have k3 := (hb6.cell (p := ⟨W.heap.size, 0, none⟩) yg).trans e0
                       have k4 := (hb6.cell (p := ⟨W.heap.size, 1, none⟩) yg).trans e1
                       have k5 := (hb6.cell (p := ⟨W.heap.size, 2, none⟩) yg).trans e2
                       have q0 := (hb6.cell (p := ⟨w.heap.size + 1, 0, none⟩) yr).trans r0
                       have q1 := (hb6.cell (p := ⟨w.heap.size + 1, 1, none⟩) yr).trans r1
                       have q2 := (hb6.cell (p := ⟨w.heap.size + 1, 2, none⟩) yr).trans r2
                       have u0 := (hb6.frozen (p := ⟨w.heap.size + 1, 0, none⟩) yr).trans s0
                       have u1 := (hb6.frozen (p := ⟨w.heap.size + 1, 1, none⟩) yr).trans s1
                       have u2 := (hb6.frozen (p := ⟨w.heap.size + 1, 2, none⟩) yr).trans s2
                       have hz6 : w.heap.size + 1 < W6.heap.size := lt_of_cell q0
                       have hn1 : ¬ w.heap.size + 1 = W.heap.size := by omega
                       have hn2 : ¬ w.heap.size + 1 = b := by omega
                       have H6 := Lib.hid (((Below.refl W8.heap.size W8).drew).trans hb6)
                       clear hb6))
                go_wp2_with fail
                refine bodyPost_ret (v := .agg #[.int .i64 5, .int .i64 (-1), .string (inPath s 5 ⟨#[]⟩)]) (by simp [results, Tryd.results39, go_sem, q0, q1, q2, u0, u1, u2]) rfl ?_
                obtain ⟨hs, hro, hec, hep, hgood⟩ := HY.out
                have hst := map_step hlt hs hro hgood
                have hRR : R = some ([s], 5) := by rw [← HR.out.1, ← HX.out.2.2.2.1, hst.1 HVS.out]
                refine ⟨by rw [hRR]; simp [refCode, refPath, pth, inPath], ?_⟩
                have hbc := HO8.out.1
                exact (((hbc.trans (H6.out.mono hbc.size)).setCell (by simp) _).setCell (by simp) _).setCell (by simp) _
              · rw [hvs] at HU
                have HVS := Lib.hid hvs
                clear hvs
                by_cases h20 : ec2 = 0
                · subst h20
                  go_wp2_with fail
                  refine HU.out.mono ?_
                  rintro e W5 ⟨rfl, rfl⟩
                  go_wp2_with fail
                  go_roundg (m.length - (j + 1))
                  case rel =>
                    obtain ⟨hs, hro, hec, hep, hgood⟩ := HY.out
                    obtain ⟨hk, hbox, hE, hrest, hb⟩ := HX.out
                    have hst := (map_step hlt hs hro hgood).2 HVS.out 0 ep2 (by rw [HB2.out, HB1.out, hec]; rw [← Hec1.out.1] at Hec2; exact Hec2.out.1) (by rw [HB2.out, HB1.out, hep]; rw [← Hec1.out.2] at Hec2; exact Hec2.out.2)
                    refine ⟨j + 1, by omega, by go_num, ?_, ⟨⟨r0, r1, r2⟩, s0, s1, s2⟩, (hst.1 rfl).trans hrest, HO.out.1⟩
                    have h1 := (hbox.below HB.out hbox.lt).below HK.out.2.2.2 (show w.heap.size < W.heap.size by omega)
                    exact (HO.out.2.2.1 w.heap.size (show w.heap.size < W2.heap.size by omega) (show w.heap.size ≠ W.heap.size by omega)).trans h1
                  case measure => have := HX.out.1; omega
                · have h20b : (ec2 != 0) = true := by simpa using h20
                  have H20 := Lib.hid h20
                  clear h20
                  go_wp2_with fail
                  refine HU.out.mono ?_
                  rintro e W5 ⟨rfl, rfl⟩
                  go_wp2_with fail
                  go_region_held3 (fun w' => w'.cell? ⟨b, off + j * 7, none⟩ = some (.string s) ∧ w'.cell? ⟨w.heap.size, 5, none⟩ = some (.slice (some ⟨b, off, none⟩) m.length c') ∧ w'.cell? ⟨W.heap.size, 0, none⟩ = some (.int .i64 ec2) ∧ w'.cell? ⟨W.heap.size, 1, none⟩ = some (.int .i64 (-1)) ∧ w'.cell? ⟨W.heap.size, 2, none⟩ = some (.string ep2)) (go_keep)
                    (first
                      | (go_at_call 33; refine (in_any s ep2 ec2 (-1) _ (by omega) hps2).mono ?_; rintro e W6 ⟨rfl, hb6⟩
                         have k1 := (hb6.cell (p := ⟨b, off + j * 7, none⟩) yb).trans zk'
                         have k2 := (hb6.cell (p := ⟨w.heap.size, 5, none⟩) yw).trans z5'
                         have k3 := (hb6.cell (p := ⟨W.heap.size, 0, none⟩) yg).trans e0
                         have k4 := (hb6.cell (p := ⟨W.heap.size, 1, none⟩) yg).trans e1
                         have k5 := (hb6.cell (p := ⟨W.heap.size, 2, none⟩) yg).trans e2
                         have q0 := (hb6.cell (p := ⟨w.heap.size + 1, 0, none⟩) yr).trans r0
                         have q1 := (hb6.cell (p := ⟨w.heap.size + 1, 1, none⟩) yr).trans r1
                         have q2 := (hb6.cell (p := ⟨w.heap.size + 1, 2, none⟩) yr).trans r2
                         have u0 := (hb6.frozen (p := ⟨w.heap.size + 1, 0, none⟩) yr).trans s0
                         have u1 := (hb6.frozen (p := ⟨w.heap.size + 1, 1, none⟩) yr).trans s1
                         have u2 := (hb6.frozen (p := ⟨w.heap.size + 1, 2, none⟩) yr).trans s2
                         have hz6 : w.heap.size + 1 < W6.heap.size := lt_of_cell q0
                         have hn1 : ¬ w.heap.size + 1 = W.heap.size := by omega
                         have hn2 : ¬ w.heap.size + 1 = b := by omega
                         have H6 := Lib.hid (((Below.refl wc.heap.size wc).drew).trans hb6)
                         clear hb6))
                  go_wp2_with fail
                  refine bodyPost_ret (v := .agg #[.int .i64 ec2, .int .i64 (-1), .string (inPath s ec2 ep2)]) (by simp [results, Tryd.results39, go_sem, q0, q1, q2, u0, u1, u2]) rfl ?_
                  obtain ⟨hs, hro, hec, hep, hgood⟩ := HY.out
                  have hst := map_step hlt hs hro hgood
                  have hst2 := hst.2 HVS.out ec2 ep2 (by rw [HB2.out, HB1.out, hec]; rw [← Hec1.out.1] at Hec2; exact Hec2.out.1) (by rw [HB2.out, HB1.out, hep]; rw [← Hec1.out.2] at Hec2; exact Hec2.out.2)
                  obtain ⟨p, hp1, hp2⟩ := hst2.2 H20.out
                  have hRR : R = some (p, ec2) := by rw [← HR.out.1, ← HX.out.2.2.2.1, hp1]
                  refine ⟨by rw [hRR]; simp only [refCode, refPath, hp2], ?_⟩
                  exact (((HO.out.1.trans (H6.out.mono HO.out.1.size)).setCell (by simp) _).setCell (by simp) _).setCell (by simp) _
    · obtain ⟨r0, r1, r2⟩ := hE.1
      have HX := Lib.hid (And.intro hk (And.intro hE (And.intro hrest hb)))
      clear hk hbox hE hrest hb
      go_wp2_with fail
      refine (none_any _).mono ?_
      rintro e W ⟨rfl, hb2⟩
      obtain ⟨⟨x0, x1, x2⟩, y0, y1, y2⟩ := HX.out.2.1.below hb2 HX.out.2.1.lt
      have hzW : w.heap.size + 1 < W.heap.size := lt_of_cell x0
      have HB := Lib.hid hb2
      clear hb2 r0 r1 r2
      go_wp2_with fail
      refine bodyPost_ret (v := .agg #[.int .i64 0, .int .i64 (-1), .string ⟨#[]⟩]) (by simp [results, Tryd.results39, go_sem, x0, x1, x2, y0, y1, y2]) rfl ?_
      obtain ⟨hk, hE, hrest, hb⟩ := HX.out
      have hRR : R = none := by rw [← HR.out.1, ← hrest, List.drop_of_length_le (by omega), chkM]
      refine ⟨by rw [hRR]; rfl, ?_⟩
      exact (((hb.trans (HB.out.mono hb.size)).setCell (by simp) _).setCell (by simp) _).setCell (by simp) _

theorem refcheck_any : ∀ d, d ≤ 20 → RefSaid d
  | 0, _ => fun v cs B w hv hB => by
    cases v with
    | mk k y n t l m =>
    rw [Val] at hv
    obtain ⟨A1, c1, A2, c2, rfl, ⟨h1c, h2c, ht, hl, hm, -, -⟩, hvl, hvm⟩ := hv
    rw [chk]
    exact refcheck_plain _ _ k y n t l m _ _ _ w ht (.inr ⟨by simp, rfl, rfl⟩)
  | d + 1, hd => fun v cs B w hv hB => by
    have ih := refcheck_any d (by omega)
    cases v with
    | mk k y n t l m =>
    rw [Val] at hv
    obtain ⟨A1, c1, A2, c2, rfl, ⟨h1c, h2c, ht, hl, hm, -, -⟩, hvl, hvm⟩ := hv
    rw [chk]
    by_cases k4 : k = 4
    · subst k4
      exact refcheck_list d hd ih y n t l m A1 A2 c1 c2 B w hvl hl h1c hB
    · by_cases k5 : k = 5
      · subst k5
        exact refcheck_map d hd ih y n t l m A1 A2 c1 c2 B w hvm hm h2c hB
      · exact refcheck_plain _ _ k y n t l m _ _ _ w ht (.inl ⟨k4, k5⟩)

end Go.Proofs.YtdpohklklmkjbaaDoor

namespace Go.Proofs.YtdpohklklmkjbaaDoor
open Go.RowKit Go.Lib
set_option linter.unusedVariables false
set_option linter.unusedSimpArgs false

/-- The document's Check of every value. -/
theorem RefCheck_any (v : V) (cs : Array Value) (B : Nat) (w : World) (hv : Val w (· < B) 1000000 v cs) (hB : B ≤ w.heap.size) :
    Calls Tryd.prog 14 #[.agg cs] w (RefAns (chk 20 v) w) := by
  obtain ⟨c, rfl⟩ := hv.c6
  have HC := Lib.hid (fun W (hW : Below w.heap.size w W) => refcheck_any 20 (Nat.le_refl _) v c.arr B W (hv.keep (fun p hp => hW.cell (Nat.lt_of_lt_of_le hp hB)) (fun _ h => h)) (Nat.le_trans hB hW.size))
  clear hv
  obtain ⟨jk, jy, jn, jt, ja, jla, jca, jb, jlb, jcb⟩ := c
  obtain ⟨R, hR⟩ : ∃ R, chk 20 v = R := ⟨_, rfl⟩
  rw [hR] at HC ⊢
  have h00 : (20 : Int) - ((20 : Nat) : Int) = 0 := by decide
  rw [h00] at HC
  dsimp only [C6.arr] at HC ⊢
  clear h00 hR
  go_enter Tryd.func14, Tryd.ntmps14
  go_wp2_with fail
  refine (HC.out _ ?_).mono ?_
  · repeat (first | exact Below.refl _ _ | refine Below.alloc ?_ (by simp <;> omega) _)
  rintro e W ⟨rfl, hb⟩
  have hE0 : EBlk ((w.alloc (.cells #[.int .i64 jk, .bool jy, .int .i64 jn, .string jt, .slice ja jla jca, .slice jb jlb jcb] 25)).alloc (.cells #[.int .i64 0, .int .i64 0, .string ⟨#[]⟩] 29)) (w.heap.size + 1) 0 0 ⟨#[]⟩ := by
    have := EBlk.new (w.alloc (.cells #[.int .i64 jk, .bool jy, .int .i64 jn, .string jt, .slice ja jla jca, .slice jb jlb jcb] 25)) 0 0 ⟨#[]⟩
    simpa using this
  obtain ⟨⟨x0, x1, x2⟩, y0, y1, y2⟩ := hE0.below hb (by simp)
  have hz : w.heap.size + 1 < W.heap.size := lt_of_cell x0
  have HB := Lib.hid ((((Below.refl w.heap.size w).alloc (Nat.le_refl _) _).alloc (by simp) _).trans (hb.mono (by simp; omega)))
  clear hb hE0
  go_wp2_with fail
  exact bodyPost_ret (v := .agg #[.int .i64 (refCode R), .int .i64 (-1), .string (refPath R)]) (by simp [results, Tryd.results14, go_sem, x0, x1, x2, y0, y1, y2]) rfl ⟨rfl, ((HB.out.setCell (by simp) _).setCell (by simp) _).setCell (by simp) _⟩

/-! ### what Tell makes of a check's answer -/
theorem ba_assoc (a b c : ByteArray) : a ++ (b ++ c) = (a ++ b) ++ c := by apply ByteArray.ext; simp
theorem tell_pth : ∀ (p : List ByteArray) (q : ByteArray), tellGo (-1) q (p.map fun s => ((-1 : Int), s)) = (-1, q ++ pth p)
  | [], q => by
    simp only [List.map_nil, tellGo, pth]
    congr 1
    apply ByteArray.ext
    simp
  | s :: r, q => by
    simp only [List.map_cons, tellGo]
    rw [if_neg (by omega), if_pos (by omega), tell_pth r, pth, ba_assoc, ba_assoc, ba_assoc]
theorem chainLen_pth : ∀ (p : List ByteArray), chainLen (p.map fun s => ((-1 : Int), s)) = (pth p).size
  | [] => rfl
  | s :: r => by
    have h47 : (ByteArray.mk #[47]).size = 1 := rfl
    simp only [List.map_cons, chainLen]
    rw [chainLen_pth r, pth, ByteArray.size_append, ByteArray.size_append, h47]

def TellAns (r : Option (List ByteArray × Int)) (w : World) (e : Ending) (w' : World) : Prop := e = .returned (.agg #[.int .i64 (refCode r), .int .i64 (-1), .string (refPath r)]) ∧ Below w.heap.size w w'
/-- Check, and behind it, in whatever world, Tell: what chk says. -/
def CheckTell (r : Option (List ByteArray × Int)) (w : World) (e : Ending) (w' : World) : Prop :=
  ∃ x, e = .returned x ∧ Below w.heap.size w w' ∧ ∀ W, Below w'.heap.size w' W → Calls Tryd.prog 11 #[x] W (TellAns r W)
theorem checkTell_any (v : V) (cs : Array Value) (B : Nat) (w : World) (hv : Val w (· < B) 1000000 v cs) (hB : B ≤ w.heap.size) (hG : Glob w) :
    Calls Tryd.prog 12 #[.agg cs] w (CheckTell (chk 20 v) w) := by
  have hg := chk_good 20 v hv.ok
  refine (Check_any v cs B w hv hB hG).mono ?_
  rintro e w' ⟨hb, ⟨hr, rfl⟩ | ⟨p, c, x, hr, rfl, hch⟩⟩
  · exact ⟨_, rfl, hb, fun W hW => by rw [hr]; exact tell_nil W⟩
  · refine ⟨x, rfl, hb, fun W hW => ?_⟩
    have h2 := (hg p c hr).2
    have := tell_chain _ c x W (hch.below hW) ((hG.below hb).below hW).1 (by rw [chainLen_pth]; omega)
    rw [tell_pth] at this
    rw [hr]
    refine this.mono fun e w'' ⟨he, hb'⟩ => ⟨?_, hb'⟩
    rw [he]
    simp only [refCode, refPath]
    congr 4
end Go.Proofs.YtdpohklklmkjbaaDoor

namespace Go.Proofs.YtdpohklklmkjbaaDoor
open Go.RowKit Go.Lib
set_option linter.unusedVariables false
set_option linter.unusedSimpArgs false

/-- Real, then Check, then Tell, in whatever worlds: what chk says. -/
def RealTell (r : Option (List ByteArray × Int)) (w : World) (e : Ending) (w' : World) : Prop :=
  ∃ o : C6, e = .returned (.agg o.arr) ∧ Below w.heap.size w w' ∧ ∀ W, Below w'.heap.size w' W → Calls Tryd.prog 12 #[.agg o.arr] W (CheckTell r W)
theorem realTell_any (v : V) (cs : Array Value) (B : Nat) (w : World) (hw : wgt v ≤ 300) (hv : Val w (· < B) 1000000 v cs) (hB : B ≤ w.heap.size) (hG : Glob w) :
    Calls Tryd.prog 13 #[.agg cs] w (RealTell (chk 20 v) w) := by
  refine (real_any 300 v cs B w hw (by omega) hv hB).mono ?_
  rintro e w' ⟨⟨o, rfl, ho⟩, hb⟩
  refine ⟨o, rfl, hb, fun W hW => ?_⟩
  exact checkTell_any v o.arr w'.heap.size W (ho.keep (fun p hp => hW.cell hp.2) (fun b hb => hb.2)) hW.size ((hG.below hb).below hW)

set_option maxRecDepth 100000 in
set_option maxHeartbeats 4000000 in
theorem lawChecks_any (v : V) (c : C6) (B M : Nat) (w : World) (hM : M ≤ 1000000000) (hw : wgt v ≤ 1000000000) (hv : Val w (· < B) M v c.arr) (hB : B ≤ w.heap.size) (hG : Glob w) :
    Calls Tryd.prog 3 #[.agg c.arr] w fun e w' => e = .returned (.bool true) ∧ Below w.heap.size w w' := by
  obtain ⟨jk, jy, jn, jt, ja, jla, jca, jb, jlb, jcb⟩ := c
  have HV := Lib.hid (And.intro hv hG)
  have HF := Lib.hid (fun W (hW : Below w.heap.size w W) => few_any M hM 300 (by omega) v _ B W hw (hv.keep (fun p hp => hW.cell (Nat.lt_of_lt_of_le hp hB)) (fun _ h => h)) (Nat.le_trans hB hW.size))
  obtain ⟨W0, hW0⟩ : ∃ W0, w.alloc (.cells #[.int .i64 jk, .bool jy, .int .i64 jn, .string jt, .slice ja jla jca, .slice jb jlb jcb] 25) = W0 := ⟨_, rfl⟩
  have hb0 : Below w.heap.size w W0 := hW0 ▸ (Below.refl _ _).alloc (Nat.le_refl _) _
  have hw6 : Whole W0 w.heap.size 25 #[.int .i64 jk, .bool jy, .int .i64 jn, .string jt, .slice ja jla jca, .slice jb jlb jcb] := hW0 ▸ Whole.made _ _ _
  have H0 := Lib.hid (And.intro hb0 (And.intro hw6 hW0))
  have hz0 : w.heap.size < W0.heap.size := hw6.lt
  clear hv hG hW0 hb0 hw6
  dsimp only [C6.arr] at HF HV ⊢
  by_cases h300 : wgt v ≤ 300
  · have hdec : decide (wgt v ≤ 300) = true := decide_eq_true h300
    rw [hdec] at HF
    have HR := Lib.hid (fun W (hW : Below w.heap.size w W) => realTell_any v _ B W h300 ((HV.out.1.small (K := 300) (by omega) h300).keep (fun p hp => hW.cell (Nat.lt_of_lt_of_le hp hB)) (fun _ h => h)) (Nat.le_trans hB hW.size) (HV.out.2.below hW))
    have HC := Lib.hid (fun W (hW : Below w.heap.size w W) => RefCheck_any v _ B W ((HV.out.1.small (K := 300) (by omega) h300).keep (fun p hp => hW.cell (Nat.lt_of_lt_of_le hp hB)) (fun _ h => h)) (Nat.le_trans hB hW.size))
    obtain ⟨R, hR⟩ : ∃ R, chk 20 v = R := ⟨_, rfl⟩
    rw [hR] at HR HC
    clear hdec h300 hR
    go_enter Tryd.func3, Tryd.ntmps3
    go_wp2_with fail
    rw [H0.out.2.2]
    refine (awake_any W0 (HV.out.2.below H0.out.1)).mono ?_
    rintro e W1 ⟨rfl, hb1⟩
    obtain ⟨x0, x1, x2, x3, x4, x5⟩ := (H0.out.2.1.below hb1 hz0).six
    have HB1 := Lib.hid (H0.out.1.trans (hb1.mono H0.out.1.size))
    have hz1 : w.heap.size < W1.heap.size := lt_of_cell x0
    clear hb1
    go_wp2_with fail
    refine (HF.out W1 HB1.out).mono ?_
    rintro e W2 ⟨rfl, hb2⟩
    have y0 := (hb2.cell (p := ⟨w.heap.size, 0, none⟩) hz1).trans x0
    have y1 := (hb2.cell (p := ⟨w.heap.size, 1, none⟩) hz1).trans x1
    have y2 := (hb2.cell (p := ⟨w.heap.size, 2, none⟩) hz1).trans x2
    have y3 := (hb2.cell (p := ⟨w.heap.size, 3, none⟩) hz1).trans x3
    have y4 := (hb2.cell (p := ⟨w.heap.size, 4, none⟩) hz1).trans x4
    have y5 := (hb2.cell (p := ⟨w.heap.size, 5, none⟩) hz1).trans x5
    have HB2 := Lib.hid (HB1.out.trans (hb2.mono HB1.out.size))
    have hz2 : w.heap.size < W2.heap.size := lt_of_cell y0
    clear hb2 x0 x1 x2 x3 x4 x5
    go_wp2_with fail
    go_region_held3 (fun w' => w'.cell? ⟨w.heap.size, 0, none⟩ = some (.int .i64 jk) ∧ w'.cell? ⟨w.heap.size, 1, none⟩ = some (.bool jy) ∧ w'.cell? ⟨w.heap.size, 2, none⟩ = some (.int .i64 jn) ∧ w'.cell? ⟨w.heap.size, 3, none⟩ = some (.string jt) ∧ w'.cell? ⟨w.heap.size, 4, none⟩ = some (.slice ja jla jca) ∧ w'.cell? ⟨w.heap.size, 5, none⟩ = some (.slice jb jlb jcb)) (go_keep)
      (first
        | (go_at_call 13; refine (HR.out _ ?_).mono ?_; (first | exact HB2.out | exact HB2.out.drew); rintro e W3 ⟨o, rfl, hb3, hck⟩
           have z0 := (hb3.cell (p := ⟨w.heap.size, 0, none⟩) hz2).trans y0
           have z1 := (hb3.cell (p := ⟨w.heap.size, 1, none⟩) hz2).trans y1
           have z2 := (hb3.cell (p := ⟨w.heap.size, 2, none⟩) hz2).trans y2
           have z3 := (hb3.cell (p := ⟨w.heap.size, 3, none⟩) hz2).trans y3
           have z4 := (hb3.cell (p := ⟨w.heap.size, 4, none⟩) hz2).trans y4
           have z5 := (hb3.cell (p := ⟨w.heap.size, 5, none⟩) hz2).trans y5
           have hz3 : w.heap.size < W3.heap.size := lt_of_cell z0
           have H3 := Lib.hid (And.intro (HB2.out.trans ((((Below.refl W2.heap.size W2).drew).trans hb3).mono HB2.out.size)) hck)
           clear hb3 hck)
        | (go_at_call 12; refine (H3.out.2 _ (Below.refl _ _)).mono ?_; rintro e W4 ⟨x, rfl, hb4, htl⟩
           have p0 := (hb4.cell (p := ⟨w.heap.size, 0, none⟩) hz3).trans z0
           have p1 := (hb4.cell (p := ⟨w.heap.size, 1, none⟩) hz3).trans z1
           have p2 := (hb4.cell (p := ⟨w.heap.size, 2, none⟩) hz3).trans z2
           have p3 := (hb4.cell (p := ⟨w.heap.size, 3, none⟩) hz3).trans z3
           have p4 := (hb4.cell (p := ⟨w.heap.size, 4, none⟩) hz3).trans z4
           have p5 := (hb4.cell (p := ⟨w.heap.size, 5, none⟩) hz3).trans z5
           have hz4 : w.heap.size < W4.heap.size := lt_of_cell p0
           have H4 := Lib.hid (And.intro (H3.out.1.trans (hb4.mono H3.out.1.size)) htl)
           clear hb4 htl)
        | (go_at_call 11; refine (H4.out.2 _ (Below.refl _ _)).mono ?_; rintro e W5 ⟨rfl, hb5⟩
           have q0 := (hb5.cell (p := ⟨w.heap.size, 0, none⟩) hz4).trans p0
           have q1 := (hb5.cell (p := ⟨w.heap.size, 1, none⟩) hz4).trans p1
           have q2 := (hb5.cell (p := ⟨w.heap.size, 2, none⟩) hz4).trans p2
           have q3 := (hb5.cell (p := ⟨w.heap.size, 3, none⟩) hz4).trans p3
           have q4 := (hb5.cell (p := ⟨w.heap.size, 4, none⟩) hz4).trans p4
           have q5 := (hb5.cell (p := ⟨w.heap.size, 5, none⟩) hz4).trans p5
           have hz5 : w.heap.size < W5.heap.size := lt_of_cell q0
           have H5 := Lib.hid (H4.out.1.trans (hb5.mono H4.out.1.size))
           clear hb5)
        | (go_at_call 14; refine (HC.out _ H5.out).mono ?_; rintro e W6 ⟨rfl, hb6⟩
           have r0 := (hb6.cell (p := ⟨w.heap.size, 0, none⟩) hz5).trans q0
           have r1 := (hb6.cell (p := ⟨w.heap.size, 1, none⟩) hz5).trans q1
           have r2 := (hb6.cell (p := ⟨w.heap.size, 2, none⟩) hz5).trans q2
           have r3 := (hb6.cell (p := ⟨w.heap.size, 3, none⟩) hz5).trans q3
           have r4 := (hb6.cell (p := ⟨w.heap.size, 4, none⟩) hz5).trans q4
           have r5 := (hb6.cell (p := ⟨w.heap.size, 5, none⟩) hz5).trans q5
           have H6 := Lib.hid (H5.out.trans (hb6.mono H5.out.size))
           clear hb6))
    go_wp2_with fail
    go_ret
    exact ⟨by simp, H6.out⟩
  · have hdec : decide (wgt v ≤ 300) = false := decide_eq_false h300
    rw [hdec] at HF
    clear hdec h300
    go_enter Tryd.func3, Tryd.ntmps3
    go_wp2_with fail
    rw [H0.out.2.2]
    refine (awake_any W0 (HV.out.2.below H0.out.1)).mono ?_
    rintro e W1 ⟨rfl, hb1⟩
    obtain ⟨x0, x1, x2, x3, x4, x5⟩ := (H0.out.2.1.below hb1 hz0).six
    have HB1 := Lib.hid (H0.out.1.trans (hb1.mono H0.out.1.size))
    have hz1 : w.heap.size < W1.heap.size := lt_of_cell x0
    clear hb1
    go_wp2_with fail
    refine (HF.out W1 HB1.out).mono ?_
    rintro e W2 ⟨rfl, hb2⟩
    have HB2 := Lib.hid (HB1.out.trans (hb2.mono HB1.out.size))
    clear hb2 x0 x1 x2 x3 x4 x5
    go_wp2_with fail
    refine (awake_any W2 (HV.out.2.below HB2.out)).mono ?_
    rintro e W3 ⟨rfl, hb3⟩
    go_wp2_with fail
    go_ret
    exact ⟨rfl, HB2.out.trans (hb3.mono HB2.out.size)⟩
end Go.Proofs.YtdpohklklmkjbaaDoor

namespace Go.Proofs.YtdpohklklmkjbaaDoor
open Go.RowKit Go.Lib
set_option linter.unusedVariables false
set_option linter.unusedSimpArgs false

/-- A cell behind: as it was; or a number for a number; or a text, by at most n longer. -/
def Like (n : Nat) (u u' : Value) : Prop := u' = u ∨ (∃ a b : Int, u = .int .i64 a ∧ u' = .int .i64 b) ∨ ∃ s s' : ByteArray, u = .string s ∧ u' = .string s' ∧ s'.size ≤ s.size + n
theorem Like.trans {n m : Nat} {u v x : Value} (h : Like n u v) (h' : Like m v x) : Like (n + m) u x := by
  rcases h with rfl | ⟨a, b, rfl, rfl⟩ | ⟨s, s', rfl, rfl, hs⟩
  · rcases h' with rfl | ⟨a, b, rfl, rfl⟩ | ⟨s, s', rfl, rfl, hs⟩
    · exact .inl rfl
    · exact .inr (.inl ⟨a, b, rfl, rfl⟩)
    · exact .inr (.inr ⟨s, s', rfl, rfl, by omega⟩)
  · rcases h' with rfl | ⟨a', b', e, rfl⟩ | ⟨s, s', e, rfl, hs⟩
    · exact .inr (.inl ⟨a, b, rfl, rfl⟩)
    · exact .inr (.inl ⟨a, b', rfl, rfl⟩)
    · cases e
  · rcases h' with rfl | ⟨a', b', e, rfl⟩ | ⟨s1, s2, e, rfl, hs2⟩
    · exact .inr (.inr ⟨s, s', rfl, rfl, by omega⟩)
    · cases e
    · injection e with e
      subst e
      exact .inr (.inr ⟨s, s2, rfl, rfl, by omega⟩)
theorem Like.more {n m : Nat} {u v : Value} (h : Like n u v) (hm : n ≤ m) : Like m u v := by
  rcases h with h | h | ⟨s, s', h1, h2, h3⟩
  · exact .inl h
  · exact .inr (.inl h)
  · exact .inr (.inr ⟨s, s', h1, h2, by omega⟩)
/-- What turn does: only blocks that Q says, cell by cell as 'Like' says; nothing is made. -/
structure Mod (Q : Nat → Prop) (n : Nat) (w w' : World) : Prop where
  os : w'.os = w.os
  tape : w'.tape = w.tape
  output : w'.output = w.output
  size : w'.heap.size = w.heap.size
  far : ∀ k, ¬ Q k → w'.heap[k]? = w.heap[k]?
  frz : ∀ p, w'.frozen? p = w.frozen? p
  cell : ∀ p u, w.cell? p = some u → ∃ u', w'.cell? p = some u' ∧ Like n u u'
theorem Mod.refl (Q : Nat → Prop) (w : World) : Mod Q 0 w w := ⟨rfl, rfl, rfl, rfl, fun _ _ => rfl, fun _ => rfl, fun _ u h => ⟨u, h, .inl rfl⟩⟩
theorem Mod.trans {Q : Nat → Prop} {n m : Nat} {w w1 w2 : World} (h : Mod Q n w w1) (h' : Mod Q m w1 w2) : Mod Q (n + m) w w2 :=
  ⟨h'.os.trans h.os, h'.tape.trans h.tape, h'.output.trans h.output, h'.size.trans h.size, fun k hk => (h'.far k hk).trans (h.far k hk), fun p => (h'.frz p).trans (h.frz p), fun p u hu => by
    obtain ⟨u1, h1, l1⟩ := h.cell p u hu
    obtain ⟨u2, h2, l2⟩ := h'.cell p u1 h1
    exact ⟨u2, h2, l1.trans l2⟩⟩
theorem Mod.more {Q : Nat → Prop} {n m : Nat} {w w1 : World} (h : Mod Q n w w1) (hm : n ≤ m) : Mod Q m w w1 :=
  ⟨h.os, h.tape, h.output, h.size, h.far, h.frz, fun p u hu => by obtain ⟨u', h1, h2⟩ := h.cell p u hu; exact ⟨u', h1, h2.more hm⟩⟩
/-- One store of that kind. -/
theorem Mod.put {Q : Nat → Prop} {n : Nat} {w : World} {b o : Nat} {u u' : Value} (hQ : Q b) (hc : w.cell? ⟨b, o, none⟩ = some u) (hl : Like n u u') : Mod Q n w (w.setCell ⟨b, o, none⟩ u') where
  os := rfl
  tape := rfl
  output := rfl
  size := by simp [World.setCell]
  far := fun k hk => Below.heap_setCell _ _ _ _ (fun e => hk (by simpa [e] using hQ))
  frz := fun p => World.frozen?_setCell _ _ _ _
  cell := fun p x hx => by
    by_cases hp : p = ⟨b, o, none⟩
    · subst hp
      rw [hc] at hx
      injection hx with hx
      subst hx
      exact ⟨u', World.cell?_setCell_same _ _ _ hc, hl⟩
    · exact ⟨x, (World.cell?_setCell_other _ _ _ _ (fun e => hp e.symm)).trans hx, .inl rfl⟩

mutual
/-- The shape of a value at a place: its slices, its parts' kinds and keys, not frozen, in blocks that Q says. -/
def Sh (w : World) (Q : Nat → Prop) (L : Nat) : V → Nat → Nat → Prop
  | .mk _ _ _ _ l m, b, off => ∃ A c A' c', w.cell? ⟨b, off + 4, none⟩ = some (.slice A l.length c) ∧ w.cell? ⟨b, off + 5, none⟩ = some (.slice A' m.length c') ∧ ShL w Q L l A 0 ∧ ShM w Q L m A' 0
def ShL (w : World) (Q : Nat → Prop) (L : Nat) : List V → Option Addr → Nat → Prop
  | [], _, _ => True
  | v :: r, A, i => (∃ b off k, A = some ⟨b, off, none⟩ ∧ Q b ∧ w.cell? ⟨b, off + i * 6, none⟩ = some (.int .i64 k) ∧ Unfrozen w b ∧ Sh w Q L v b (off + i * 6)) ∧ ShL w Q L r A (i + 1)
def ShM (w : World) (Q : Nat → Prop) (L : Nat) : List (ByteArray × V) → Option Addr → Nat → Prop
  | [], _, _ => True
  | (_, v) :: r, A, i => (∃ b off s, A = some ⟨b, off, none⟩ ∧ Q b ∧ w.cell? ⟨b, off + i * 7, none⟩ = some (.string s) ∧ s.size ≤ L ∧ Unfrozen w b ∧ Sh w Q L v b (off + i * 7 + 1)) ∧ ShM w Q L r A (i + 1)
end
theorem Mod.slice {Q : Nat → Prop} {n : Nat} {w w' : World} (h : Mod Q n w w') {p : Addr} {A : Option Addr} {l c : Nat} (hc : w.cell? p = some (.slice A l c)) : w'.cell? p = some (.slice A l c) := by
  obtain ⟨u', h1, h2⟩ := h.cell p _ hc
  rcases h2 with rfl | ⟨a, b, e, -⟩ | ⟨s, s', e, -⟩
  · exact h1
  · cases e
  · cases e
mutual
theorem Sh.keep {w w' : World} {Q : Nat → Prop} {L n : Nat} (h : Mod Q n w w') : ∀ {v : V} {b off : Nat}, Sh w Q L v b off → Sh w' Q (L + n) v b off
  | .mk _ _ _ _ l m, b, off, hv => by
    rw [Sh] at hv ⊢
    obtain ⟨A, c, A', c', h4, h5, hl, hm⟩ := hv
    exact ⟨A, c, A', c', h.slice h4, h.slice h5, ShL.keep h hl, ShM.keep h hm⟩
theorem ShL.keep {w w' : World} {Q : Nat → Prop} {L n : Nat} (h : Mod Q n w w') : ∀ {l : List V} {A : Option Addr} {i : Nat}, ShL w Q L l A i → ShL w' Q (L + n) l A i
  | [], _, _, _ => by rw [ShL]; trivial
  | v :: r, A, i, hv => by
    rw [ShL] at hv ⊢
    obtain ⟨⟨b, off, k, e, hb, hk, hu, hx⟩, hr⟩ := hv
    obtain ⟨u', h1, h2⟩ := h.cell _ _ hk
    have hu' : Unfrozen w' b := fun o => (h.frz _).trans (hu o)
    refine ⟨?_, ShL.keep h hr⟩
    rcases h2 with rfl | ⟨a, a', -, rfl⟩ | ⟨s, s', e', -⟩
    · exact ⟨b, off, k, e, hb, h1, hu', Sh.keep h hx⟩
    · exact ⟨b, off, a', e, hb, h1, hu', Sh.keep h hx⟩
    · cases e'
theorem ShM.keep {w w' : World} {Q : Nat → Prop} {L n : Nat} (h : Mod Q n w w') : ∀ {l : List (ByteArray × V)} {A : Option Addr} {i : Nat}, ShM w Q L l A i → ShM w' Q (L + n) l A i
  | [], _, _, _ => by rw [ShM]; trivial
  | (t, v) :: r, A, i, hv => by
    rw [ShM] at hv ⊢
    obtain ⟨⟨b, off, s, e, hb, hk, hs, hu, hx⟩, hr⟩ := hv
    obtain ⟨u', h1, h2⟩ := h.cell _ _ hk
    have hu' : Unfrozen w' b := fun o => (h.frz _).trans (hu o)
    refine ⟨?_, ShM.keep h hr⟩
    rcases h2 with rfl | ⟨a, a', e', -⟩ | ⟨s1, s2, e', rfl, h3⟩
    · exact ⟨b, off, s, e, hb, h1, by omega, hu', Sh.keep h hx⟩
    · cases e'
    · injection e' with e'
      subst e'
      exact ⟨b, off, s2, e, hb, h1, by omega, hu', Sh.keep h hx⟩
end
mutual
/-- What Real made has that shape. -/
theorem Val.sh {w : World} {Q : Nat → Prop} {M : Nat} (hQ : ∀ b, Q b → Unfrozen w b) : ∀ {v : V} {cs : Array Value} {b off : Nat}, Val w Q M v cs → (∀ q, q < 6 → w.cell? ⟨b, off + q, none⟩ = cs[q]?) → Sh w Q M v b off
  | .mk k y n t l m, cs, b, off, hv, hc => by
    rw [Val] at hv
    obtain ⟨A, c, A', c', rfl, -, hl, hm⟩ := hv
    rw [Sh]
    exact ⟨A, c, A', c', hc 4 (by omega), hc 5 (by omega), ValL.sh hQ hl, ValM.sh hQ hm⟩
theorem ValL.sh {w : World} {Q : Nat → Prop} {M : Nat} (hQ : ∀ b, Q b → Unfrozen w b) : ∀ {l : List V} {A : Option Addr} {i : Nat}, ValL w Q M l A i → ShL w Q M l A i
  | [], _, _, _ => by rw [ShL]; trivial
  | .mk k y n t l' m' :: r, A, i, hv => by
    rw [ValL] at hv
    obtain ⟨⟨b, off, cs, e, hb, hc, hx⟩, hr⟩ := hv
    rw [ShL]
    refine ⟨⟨b, off, k, e, hb, ?_, hQ b hb, Val.sh hQ hx hc⟩, ValL.sh hQ hr⟩
    have h0 := hc 0 (by omega)
    rw [Val] at hx
    obtain ⟨A, c, A', c', rfl, -⟩ := hx
    exact h0
theorem ValM.sh {w : World} {Q : Nat → Prop} {M : Nat} (hQ : ∀ b, Q b → Unfrozen w b) : ∀ {l : List (ByteArray × V)} {A : Option Addr} {i : Nat}, ValM w Q M l A i → ShM w Q M l A i
  | [], _, _, _ => by rw [ShM]; trivial
  | (s, v) :: r, A, i, hv => by
    rw [ValM] at hv
    obtain ⟨⟨b, off, cs, e, hb, hs, hk, hc, hx⟩, hr⟩ := hv
    rw [ShM]
    exact ⟨⟨b, off, s, e, hb, hk, hs, hQ b hb, Val.sh hQ hx (fun q hq => by rw [Nat.add_assoc]; exact hc q hq)⟩, ValM.sh hQ hr⟩
end
end Go.Proofs.YtdpohklklmkjbaaDoor

namespace Go.Proofs.YtdpohklklmkjbaaDoor
open Go.RowKit Go.Lib
set_option linter.unusedVariables false
set_option linter.unusedSimpArgs false

theorem ShL.get {w : World} {Q : Nat → Prop} {L : Nat} : ∀ {l : List V} {A : Option Addr} {i : Nat}, ShL w Q L l A i → ∀ (j : Nat) (hj : j < l.length),
    ∃ b off k, A = some ⟨b, off, none⟩ ∧ Q b ∧ w.cell? ⟨b, off + (i + j) * 6, none⟩ = some (.int .i64 k) ∧ Unfrozen w b ∧ Sh w Q L l[j] b (off + (i + j) * 6)
  | v :: r, A, i, hv, 0, _ => by rw [ShL] at hv; exact hv.1
  | v :: r, A, i, hv, j + 1, hj => by
    rw [ShL] at hv
    obtain ⟨b, off, k, e, hb, hc, hu, hx⟩ := ShL.get hv.2 j (by simpa using hj)
    rw [show i + 1 + j = i + (j + 1) by omega] at hc hx
    exact ⟨b, off, k, e, hb, hc, hu, by simpa using hx⟩
theorem ShM.get {w : World} {Q : Nat → Prop} {L : Nat} : ∀ {l : List (ByteArray × V)} {A : Option Addr} {i : Nat}, ShM w Q L l A i → ∀ (j : Nat) (hj : j < l.length),
    ∃ b off s, A = some ⟨b, off, none⟩ ∧ Q b ∧ w.cell? ⟨b, off + (i + j) * 7, none⟩ = some (.string s) ∧ s.size ≤ L ∧ Unfrozen w b ∧ Sh w Q L l[j].2 b (off + (i + j) * 7 + 1)
  | (t, v) :: r, A, i, hv, 0, _ => by rw [ShM] at hv; exact hv.1
  | (t, v) :: r, A, i, hv, j + 1, hj => by
    rw [ShM] at hv
    obtain ⟨b, off, s, e, hb, hc, hs, hu, hx⟩ := ShM.get hv.2 j (by simpa using hj)
    rw [show i + 1 + j = i + (j + 1) by omega] at hc hx
    exact ⟨b, off, s, e, hb, hc, hs, hu, by simpa using hx⟩
def TurnL (Q : Nat → Prop) (w : World) (l : List V) (k : Nat) (i : Value) (wr : World) : Prop := ∃ j : Nat, j + k = l.length ∧ i = .int .i64 j ∧ Mod Q (2 * wgtL (l.take j)) w wr
def TurnM (Q : Nat → Prop) (w : World) (n0 : Nat) (m : List (ByteArray × V)) (k : Nat) (i : Value) (wr : World) : Prop := ∃ j : Nat, j + k = m.length ∧ i = .int .i64 j ∧ Mod Q (n0 + 2 * wgtM (m.take j)) w wr

set_option maxRecDepth 100000 in
set_option maxHeartbeats 4000000 in
theorem turn_any (Q : Nat → Prop) : ∀ (N : Nat) (v : V) (b off L : Nat) (w : World), wgt v ≤ N → Sh w Q L v b off → L + 2 * wgt v ≤ 2000000 →
    Calls Tryd.prog 23 #[.pointer (some ⟨b, off, none⟩)] w fun e w' => e = .returned (.tuple #[]) ∧ Mod Q (2 * wgt v - 1) w w'
  | 0, v, b, off, L, w, h, _, _ => by have := wgt_pos v; omega
  | N + 1, .mk k y n t l m, b, off, L, w, hw, hv, hL => by
    have ih := Lib.hid (turn_any Q N)
    rw [wgt] at hw hL ⊢
    rw [Sh] at hv
    obtain ⟨A, c, A', c', h4, h5, hl, hm⟩ := hv
    have hln : l.length ≤ 2000000 := by have := wgtL_len l; omega
    have hmn : m.length ≤ 2000000 := by have := wgtM_len m; omega
    have HV := Lib.hid (And.intro hl (And.intro hm (And.intro hw (And.intro hL (And.intro h4 h5)))))
    clear hl hm hw hL h5
    go_enter Tryd.func23, Tryd.ntmps23
    go_wp2_with fail
    go_loopg [9] l.length (TurnL Q w l)
    case atStart => exact ⟨0, by simp, rfl, by simpa [wgtL] using Mod.refl Q w⟩
    case round =>
      obtain ⟨j, hk, rfl, hM⟩ := hrel
      have d4 := hM.slice HV.out.2.2.2.2.1
      have d5 := hM.slice HV.out.2.2.2.2.2
      by_cases hlt : j < l.length
      · obtain ⟨b', off', kk, rfl, hQ, hc, hu, hx⟩ := (HV.out.1.keep hM).get j hlt
        rw [Nat.zero_add] at hc hx
        have htk := wgtL_take l j hlt
        have hle := wgtL_le l (j + 1)
        have hcall := ih.out l[j] b' (off' + j * 6) _ wr (by have := HV.out.2.2.1; omega) hx (by have := HV.out.2.2.2.1; omega)
        have hj1 : (j : Int) < (l.length : Int) := by omega
        have HX := Lib.hid (And.intro hk (And.intro hM (And.intro hQ (And.intro hc (And.intro hu (And.intro htk hcall))))))
        clear hk hM hQ hc hu hx htk hle hcall h4 d5
        go_wp2_with fail
        refine HX.out.2.2.2.2.2.2.mono ?_
        rintro e W2 ⟨rfl, hM2⟩
        obtain ⟨u', hu1, hu2⟩ := hM2.cell _ _ HX.out.2.2.2.1
        have hint : ∃ a, u' = .int .i64 a := by
          rcases hu2 with rfl | ⟨a, a', -, rfl⟩ | ⟨s, s', e', -⟩
          · exact ⟨_, rfl⟩
          · exact ⟨_, rfl⟩
          · cases e'
        obtain ⟨a, rfl⟩ := hint
        have d4' := hM2.slice d4
        have f0 : W2.frozen? ⟨b', off' + j * 6, none⟩ = false := (hM2.frz _).trans (HX.out.2.2.2.2.1 _)
        have HM := Lib.hid (And.intro hM2 hu1)
        clear hM2 hu2 d4
        go_wp2_with fail
        go_roundg (l.length - (j + 1))
        case rel =>
          obtain ⟨hk, hM, hQ, hc, hu, htk, -⟩ := HX.out
          refine ⟨j + 1, by omega, by go_num, ((hM.trans HM.out.1).trans (Mod.put (n := 0) hQ HM.out.2 (.inr (.inl ⟨_, _, rfl, rfl⟩)))).more ?_⟩
          have := wgt_pos l[j]
          omega
        case measure => have := HX.out.1; omega
      · have hjl : j = l.length := by omega
        subst hjl
        rw [List.take_length] at hM
        have HM := Lib.hid hM
        clear hM hk h4 d4
        go_wp2_with fail
        obtain ⟨wo, rfl⟩ : ∃ wo : World, wo = wr := ⟨_, rfl⟩
        go_loopg [36] m.length (TurnM Q w (2 * wgtL l) m)
        case atStart => exact ⟨0, by simp, rfl, by simpa [wgtM] using HM.out⟩
        case round =>
          clear d5
          obtain ⟨j, hk, rfl, hM⟩ := hrel
          have d5 := hM.slice HV.out.2.2.2.2.2
          by_cases hlt2 : j < m.length
          · obtain ⟨b', off', s, rfl, hQ, hc, hs, hu, hx⟩ := (HV.out.2.1.keep hM).get j hlt2
            rw [Nat.zero_add] at hc hx
            have htk := wgtM_take m j hlt2
            have hle := wgtM_le m (j + 1)
            have hcall := ih.out m[j].2 b' (off' + j * 7 + 1) _ wr (by have := HV.out.2.2.1; omega) hx (by have := HV.out.2.2.2.1; omega)
            have hj1 : (j : Int) < (m.length : Int) := by omega
            have HX := Lib.hid (And.intro hk (And.intro hM (And.intro hQ (And.intro hc (And.intro hu (And.intro htk (And.intro hcall (And.intro hs hle))))))))
            clear hk hM hQ hc hu hx htk hle hcall hs
            go_wp2_with fail
            refine HX.out.2.2.2.2.2.2.1.mono ?_
            rintro e W2 ⟨rfl, hM2⟩
            obtain ⟨u', hu1, hu2⟩ := hM2.cell _ _ HX.out.2.2.2.1
            have hstr : ∃ s2 : ByteArray, u' = .string s2 ∧ s2.size ≤ s.size + (2 * wgt m[j].2 - 1) := by
              rcases hu2 with rfl | ⟨a, a', e', -⟩ | ⟨s1, s2, e', rfl, h3⟩
              · exact ⟨_, rfl, by omega⟩
              · cases e'
              · injection e' with e'
                subst e'
                exact ⟨_, rfl, h3⟩
            obtain ⟨s2, rfl, hs2⟩ := hstr
            have hs3 : s2.size + 1 ≤ 9000000 := by
              have h1 := HX.out.2.2.2.2.2.2.2.1
              have h2 := HX.out.2.2.2.2.2.2.2.2
              have h3 := HX.out.2.2.2.2.2.1
              have h6 := HV.out.2.2.2.1
              omega
            have d5' := hM2.slice d5
            have f0 : W2.frozen? ⟨b', off' + j * 7, none⟩ = false := (hM2.frz _).trans (HX.out.2.2.2.2.1 _)
            have HM2 := Lib.hid (And.intro hM2 hu1)
            clear hM2 hu2 d5 hs2
            go_wp2_with fail
            go_roundg (m.length - (j + 1))
            case rel =>
              obtain ⟨hk, hM, hQ, hc, hu, htk, -⟩ := HX.out
              refine ⟨j + 1, by omega, by go_num, ((hM.trans HM2.out.1).trans (Mod.put (n := 1) hQ HM2.out.2 (.inr (.inr ⟨_, _, rfl, rfl, ?_⟩)))).more ?_⟩
              · rw [ByteArray.size_append]; exact Nat.le_refl _
              · have := wgt_pos m[j].2
                omega
            case measure => have := HX.out.1; omega
          · have hjl : j = m.length := by omega
            subst hjl
            rw [List.take_length] at hM
            have HM2 := Lib.hid hM
            clear hM hk
            go_wp2_with fail
            exact bodyPost_end (v := .tuple #[]) (by simp [results, Tryd.results23]) rfl ⟨rfl, HM2.out.more (by omega)⟩
end Go.Proofs.YtdpohklklmkjbaaDoor

namespace Go.Proofs.YtdpohklklmkjbaaDoor
open Go.RowKit Go.Lib
set_option linter.unusedVariables false
set_option linter.unusedSimpArgs false

def V0 : V := .mk 0 false 0 ⟨#[]⟩ [] []
theorem val_zero (w : World) (Q : Nat → Prop) (M : Nat) : Val w Q M V0 zero6 := by
  rw [V0, Val]
  exact ⟨none, 0, none, 0, rfl, ⟨by simp, by simp, by simp [ByteArray.size], by simp, by simp, fun _ => rfl, fun _ => rfl⟩, by rw [ValL]; trivial, by rw [ValM]; trivial⟩
def orV : Option V → V
  | none => V0
  | some x => x
def orC : Option V → V
  | none => V0
  | some x => canon x
theorem same_or : ∀ r, same (orC r) (orV r) = true
  | none => same_refl _
  | some x => same_canon x
theorem wgtM_get {key : ByteArray} {x : V} : ∀ {m : List (ByteArray × V)}, getM key m = some x → wgt x ≤ wgtM m
  | [], h => by cases h
  | (s, v) :: r, h => by
    rw [getM] at h
    rw [wgtM]
    by_cases hs : s.toList == key.toList
    · rw [if_pos hs] at h; injection h with h; subst h; omega
    · rw [if_neg hs] at h; have := wgtM_get h; omega
theorem wgt_or (v : V) (key : ByteArray) : wgt (orC (getV v key)) ≤ wgt v := by
  cases hr : getV v key with
  | none =>
    have h1 := wgt_pos v
    have h2 : wgt (orC none) = 1 := by simp [orC, V0, wgt, wgtL, wgtM, ByteArray.size]
    omega
  | some x =>
    have h1 : wgt (orC (some x)) ≤ wgt x := wgt_canon x
    cases v with
    | mk k y n t l m =>
    rw [getV] at hr
    by_cases hk : (V.mk k y n t l m).kind = 5
    · rw [if_pos hk] at hr
      have h2 := wgtM_get hr
      rw [wgt]
      simp only [V.mp] at h2
      omega
    · rw [if_neg hk] at hr; cases hr
/-- What Get answers, whether the key is there or not. -/
def GetOr (r : Option V) (w : World) (e : Ending) (w' : World) : Prop :=
  ∃ o : C6, e = .returned (.tuple #[.agg o.arr, .bool r.isSome]) ∧ Below w.heap.size w w' ∧ Val w' (· < w'.heap.size) 1000000 (orC r) o.arr
theorem GetAns.or {r : Option V} {w : World} {e : Ending} {w' : World} (h : GetAns r w e w') : GetOr r w e w' := by
  obtain ⟨hb, ⟨rfl, rfl⟩ | ⟨x, o, rfl, rfl, hv⟩⟩ := h
  · exact ⟨⟨0, false, 0, ⟨#[]⟩, none, 0, 0, none, 0, 0⟩, rfl, hb, val_zero _ _ _⟩
  · exact ⟨o, rfl, hb, hv.keep (fun _ _ => rfl) (fun b hb => hb.2)⟩
def RGetOr (r : Option V) (B : Nat) (w : World) (e : Ending) (w' : World) : Prop :=
  ∃ o : C6, e = .returned (.tuple #[.agg o.arr, .bool r.isSome]) ∧ Below w.heap.size w w' ∧ Val w (· < B) 1000000 (orV r) o.arr
theorem RGetAns.or {r : Option V} {B : Nat} {w : World} {e : Ending} {w' : World} (h : RGetAns r B w e w') : RGetOr r B w e w' := by
  obtain ⟨hb, ⟨rfl, rfl⟩ | ⟨x, o, rfl, rfl, hv⟩⟩ := h
  · exact ⟨⟨0, false, 0, ⟨#[]⟩, none, 0, 0, none, 0, 0⟩, rfl, hb, val_zero _ _ _⟩
  · exact ⟨o, rfl, hb, hv⟩

/-- The five values that the law holds. -/
structure AskHold (W : World) (v : V) (r : Option V) (x g h c s : Array Value) : Prop where
  wx : wgt v ≤ 300
  wg : wgt (orC r) ≤ 300
  x : Val W (· < W.heap.size) 1000000 v x
  g : Val W (· < W.heap.size) 1000000 (orC r) g
  h : Val W (· < W.heap.size) 1000000 (orV r) h
  c : Val W (· < W.heap.size) 1000000 (canon v) c
  s : Val W (· < W.heap.size) 1000000 v s
theorem val_on {W W' : World} {v : V} {c : Array Value} (h : Val W (· < W.heap.size) 1000000 v c) (hb : Below W.heap.size W W') : Val W' (· < W'.heap.size) 1000000 v c :=
  h.keep (fun p hp => hb.cell hp) (fun b hp => Nat.lt_of_lt_of_le hp hb.size)
theorem AskHold.below {W W' : World} {v : V} {r : Option V} {x g h c s : Array Value} (H : AskHold W v r x g h c s) (hb : Below W.heap.size W W') : AskHold W' v r x g h c s :=
  ⟨H.wx, H.wg, val_on H.x hb, val_on H.g hb, val_on H.h hb, val_on H.c hb, val_on H.s hb⟩
variable {W : World} {v : V} {r : Option V} {x g h c s : Array Value}
theorem AskHold.depth (H : AskHold W v r x g h c s) : Calls Tryd.prog 18 #[.agg x] W fun e w' => e = .returned (.int .i64 (dep v : Nat)) ∧ Below W.heap.size W w' :=
  Depth_any v x W.heap.size W H.x (Nat.le_refl _) (by have := vsize_wgt v; have := H.wx; omega) (by have := dep_wgt v; have := H.wx; omega)
theorem AskHold.rdepth (H : AskHold W v r x g h c s) : Calls Tryd.prog 19 #[.agg s] W fun e w' => e = .returned (.int .i64 (dep v : Nat)) ∧ Below W.heap.size W w' :=
  depth_any 300 v s W.heap.size W H.wx (by omega) H.s (Nat.le_refl _)
theorem AskHold.size (H : AskHold W v r x g h c s) : Calls Tryd.prog 20 #[.agg x] W fun e w' => e = .returned (.int .i64 (vsize v : Nat)) ∧ Below W.heap.size W w' :=
  Size_any v x W.heap.size W H.x (Nat.le_refl _) (by have := vsize_wgt v; have := H.wx; omega)
theorem AskHold.rsize (H : AskHold W v r x g h c s) : Calls Tryd.prog 21 #[.agg s] W fun e w' => e = .returned (.int .i64 (vsize v : Nat)) ∧ Below W.heap.size W w' :=
  refsize_any (vsize v) v s W.heap.size W (Nat.le_refl _) (by have := vsize_wgt v; have := H.wx; omega) H.s (Nat.le_refl _)
theorem AskHold.isG (H : AskHold W v r x g h c s) : Calls Tryd.prog 22 #[.agg g, .agg h] W fun e w' => e = .returned (.bool true) ∧ Below W.heap.size W w' := by
  have := isLaw_any (orC r) (orV r) g h W.heap.size W (by have := H.wg; omega) H.g H.h (Nat.le_refl _)
  rw [same_or] at this
  exact this
theorem AskHold.isC (H : AskHold W v r x g h c s) : Calls Tryd.prog 22 #[.agg c, .agg s] W fun e w' => e = .returned (.bool true) ∧ Below W.heap.size W w' := by
  have := isLaw_any (canon v) v c s W.heap.size W (by have := H.wx; have := wgt_canon v; omega) H.c H.s (Nat.le_refl _)
  rw [same_canon] at this
  exact this
end Go.Proofs.YtdpohklklmkjbaaDoor

namespace Go.Proofs.YtdpohklklmkjbaaDoor
open Go.RowKit Go.Lib
set_option linter.unusedVariables false
set_option linter.unusedSimpArgs false

theorem noTwice_keys {a b : List (ByteArray × V)} (h : a.map (·.1) = b.map (·.1)) {n : Nat} (hn : NoTwice a n) : NoTwice b n := fun i hi h0 => by
  have hl : a.length = b.length := by have := congrArg List.length h; simpa using this
  have e : ∀ j (hj : j < b.length), (a[j]'(by omega)).1 = b[j].1 := fun j hj => by
    have h1 : (a.map (·.1))[j]? = (b.map (·.1))[j]? := by rw [h]
    rw [List.getElem?_map, List.getElem?_map, List.getElem?_eq_getElem (show j < a.length by omega), List.getElem?_eq_getElem hj] at h1
    simpa using h1
  have := hn i (by omega) h0
  rw [e i (by omega), e (i + 1) hi] at this
  exact this
theorem key_at {a b : List (ByteArray × V)} (h : a.map (·.1) = b.map (·.1)) {j : Nat} (ha : j < a.length) (hb : j < b.length) : a[j].1 = b[j].1 := by
  have h1 : (a.map (·.1))[j]? = (b.map (·.1))[j]? := by rw [h]
  rw [List.getElem?_map, List.getElem?_map, List.getElem?_eq_getElem ha, List.getElem?_eq_getElem hb] at h1
  simpa using h1
/-- Both answers, held against each other: what the program made, what the document has, and the error's code and path. -/
def Both (ms : List (ByteArray × V)) (w1 w2 : World) (e1 e2 : Ending) : Prop :=
  ∃ (o o' : C6) (ev : Value) (r : Res) (vx vy : V), e1 = .returned (.tuple #[.agg o.arr, ev]) ∧ e2 = .returned (.tuple #[.agg o'.arr, .agg #[.int .i64 (refCode r), .int .i64 (-1), .string (refPath r)]]) ∧
    Val w1 (· < w1.heap.size) 1000000 vx o.arr ∧ Val w2 (· < w2.heap.size) 1000000 vy o'.arr ∧ same vx vy = true ∧ (wgt vx ≤ wgtM ms + 1) ∧
    ((ev = .nilIface ∧ r = none ∧ ∃ dm, dm.Perm ms ∧ SortedM dm ∧ NoTwice dm dm.length ∧ vx = .mk 5 false 0 ⟨#[]⟩ [] (canonM dm)) ∨ (∃ key, r = some ([key], 6) ∧ Chain w1 [(-1, key)] 6 ev ∧ key.size ≤ 1000000))
theorem wgtM_perm {a b : List (ByteArray × V)} (h : a.Perm b) : wgtM a = wgtM b := by
  induction h with
  | nil => rfl
  | cons x _ ih => obtain ⟨s, v⟩ := x; rw [wgtM, wgtM, ih]
  | swap x y l => obtain ⟨s, v⟩ := x; obtain ⟨s', v'⟩ := y; simp only [wgtM]; omega
  | trans _ _ h1 h2 => exact h1.trans h2
theorem meet {ms : List (ByteArray × V)} {w w1 u w2 : World} {e1 e2 : Ending} (hkeys : ∀ p ∈ ms, p.1.size ≤ 1000000) (hm : MemAns w w1 ms e1) (hr : RMemAns u w2 ms e2) : Both ms w1 w2 e1 e2 := by
  obtain ⟨ms', hp', hs', hm⟩ := hm
  obtain ⟨dm, hp, hs, hr⟩ := hr
  obtain ⟨hk, hone⟩ := sorted_both hp' hs' hp hs
  have hl : ms'.length = dm.length := by have := congrArg List.length hk; simpa using this
  rcases hm with ⟨o, rfl, hno, hv⟩ | ⟨i, ev, hi, rfl, hno, heq, hch⟩
  · have hno' : NoTwice dm dm.length := by rw [← hl]; exact noTwice_keys hk hno
    rcases hr with ⟨o', rfl, -, hv'⟩ | ⟨i', hi', rfl, hno2, heq2⟩
    · refine ⟨o, o', .nilIface, none, _, _, rfl, rfl, hv.keep (fun _ _ => rfl) (fun b hb => hb.2), hv', ?_, ?_, .inl ⟨rfl, rfl, dm, hp, hs, hno', by rw [hone hno]⟩⟩
      · rw [hone hno]
        have := same_canon (.mk 5 false 0 ⟨#[]⟩ [] dm)
        rw [canon] at this
        simpa using this
      · rw [hone hno, wgt, wgtL]
        have h1 := wgtM_canon dm
        have h2 := wgtM_perm hp
        have : (⟨#[]⟩ : ByteArray).size = 0 := rfl
        omega
    · exact absurd heq2 (hno' i' hi' hi')
  · rcases hr with ⟨o', rfl, hno', hv'⟩ | ⟨i', hi', rfl, hno2, heq2⟩
    · have := noTwice_keys hk.symm (n := dm.length) hno' i hi (by omega)
      exact absurd heq this
    · have e : i = i' := by
        rcases Nat.lt_trichotomy i i' with h | h | h
        · have := noTwice_keys hk.symm hno2 i hi (by omega)
          exact absurd heq this
        · exact h
        · have := noTwice_keys hk hno i' hi' (by omega)
          exact absurd heq2 this
      subst e
      have hkk := key_at hk hi hi'
      rw [hkk] at hch
      have hsz : dm[i + 1].1.size ≤ 1000000 := hkeys _ (hp.mem_iff.1 (List.getElem_mem hi'))
      refine ⟨⟨0, false, 0, ⟨#[]⟩, none, 0, 0, none, 0, 0⟩, ⟨0, false, 0, ⟨#[]⟩, none, 0, 0, none, 0, 0⟩, ev, some ([dm[i + 1].1], 6), V0, V0, rfl, ?_, val_zero _ _ _, val_zero _ _ _, same_refl _, ?_, .inr ⟨_, rfl, hch, hsz⟩⟩
      · rw [errTwice]
        have : refPath (some ([dm[i + 1].1], 6)) = inPath dm[i + 1].1 6 ⟨#[]⟩ := by
          rw [inPath, if_neg (by decide)]
          rfl
        rw [this]
        rfl
      · have : wgt V0 = 1 := by simp [V0, wgt, wgtL, wgtM, ByteArray.size]
        omega

mutual
theorem chk_canon : ∀ (d : Nat) (v : V), chk d (canon v) = chk d v
  | 0, .mk k y n t l m => by
    rw [canon, chk, chk, chkHead, chkHead]
    by_cases k2 : k = 2
    · subst k2; simp
    by_cases k3 : k = 3
    · subst k3; simp
    simp [k2, k3]
  | d + 1, .mk k y n t l m => by
    rw [canon, chk, chk, chkHead, chkHead]
    by_cases k2 : k = 2
    · subst k2; simp
    by_cases k3 : k = 3
    · subst k3; simp
    by_cases k4 : k = 4
    · subst k4; simp [chkL_canon d l 0]
    by_cases k5 : k = 5
    · subst k5; simp [chkM_canon d m none]
    simp [k2, k3, k4, k5]
theorem chkL_canon : ∀ (d : Nat) (l : List V) (i : Nat), chkL (chk d) i (canonL l) = chkL (chk d) i l
  | d, [], i => by rw [canonL]
  | d, v :: r, i => by
    rw [canonL, chkL, chkL, chk_canon d v]
    cases chk d v with
    | none => exact chkL_canon d r (i + 1)
    | some pc => rfl
theorem chkM_canon : ∀ (d : Nat) (l : List (ByteArray × V)) (q : Option ByteArray), chkM (chk d) q (canonM l) = chkM (chk d) q l
  | d, [], q => by rw [canonM]
  | d, (s, v) :: r, q => by
    rw [canonM, chkM, chkM, chk_canon d v]
    cases chkKey s q with
    | some c => rfl
    | none =>
      cases chk d v with
      | none => exact chkM_canon d r (some s)
      | some pc => rfl
end
/-- All keys are UTF-8, and all values right. -/
def rightM : List (ByteArray × V) → Bool
  | [] => true
  | (s, v) :: r => (validB s && (refCode (chk 20 v) == 0)) && rightM r
theorem rightM_mem : ∀ {l : List (ByteArray × V)}, rightM l = true → ∀ p ∈ l, validB p.1 = true ∧ refCode (chk 20 p.2) = 0
  | (s, v) :: r, h, p, hp => by
    rw [rightM] at h
    simp only [Bool.and_eq_true, beq_iff_eq] at h
    rcases List.mem_cons.1 hp with rfl | hp
    · exact h.1
    · exact rightM_mem h.2 p hp
theorem rightM_snoc : ∀ (l : List (ByteArray × V)) (p : ByteArray × V), rightM (l ++ [p]) = (rightM l && (validB p.1 && (refCode (chk 20 p.2) == 0)))
  | [], (s, v) => by simp [rightM]
  | (s', v') :: r, p => by rw [List.cons_append, rightM, rightM, rightM_snoc r p]; simp only [Bool.and_assoc]
theorem chkM_right {d : Nat} : ∀ {l : List (ByteArray × V)} {q : Option ByteArray}, (∀ p ∈ l, validB p.1 = true ∧ (chk d p.2 = none ∨ ∃ x, chk d p.2 = some (x, 3))) → SortedM l → NoTwice l l.length → (∀ s v r k, l = (s, v) :: r → q = some k → s.toList ≠ k.toList ∧ bytesLt s k = false) → refCode (chkM (chk d) q l) = 0 ∨ refCode (chkM (chk d) q l) = 3
  | [], q, _, _, _, _ => by rw [chkM]; exact .inl rfl
  | (s, v) :: r, q, h, hs, hn, hq => by
    obtain ⟨hval, hv⟩ := h (s, v) (List.mem_cons_self ..)
    have hk : chkKey s q = none := by
      simp only at hval
      cases q with
      | none => simp [chkKey, hval]
      | some k =>
        obtain ⟨h1, h2⟩ := hq s v r k rfl rfl
        simp [chkKey, hval, h1, h2]
    rw [chkM, hk]
    dsimp only
    rcases hv with hv | ⟨x, hv⟩
    · dsimp only at hv
      rw [hv]
      dsimp only
      refine chkM_right (fun p hp => h p (List.mem_cons_of_mem _ hp)) (fun i j hi hj hij => ?_) (fun i hi h0 => ?_) (fun s2 v2 r2 k e1 e2 => ?_)
      · have := hs (i + 1) (j + 1) (by simpa using hi) (by simpa using hj) (by omega)
        simpa using this
      · have := hn (i + 1) (by simpa using hi) (by simp; omega)
        simpa using this
      · injection e2 with e2
        subst e1 e2
        constructor
        · have := hn 0 (by simp) (by simp)
          simp at this
          exact fun e => this (toList_inj e).symm
        · have := hs 0 1 (by simp) (by simp) (by omega)
          simp at this
          rw [bytesLt, Go.ByteArray.toList_eq, Go.ByteArray.toList_eq]
          exact this
    · dsimp only at hv
      rw [hv]
      exact .inr rfl
theorem code_ok {ms dm : List (ByteArray × V)} (hok : ∀ p ∈ ms, VOk 1000000 p.2) (hp : dm.Perm ms) (hs : SortedM dm) (hno : NoTwice dm dm.length) (hr : rightM ms = true) : refCode (chk 20 (.mk 5 false 0 ⟨#[]⟩ [] (canonM dm))) = 0 ∨ refCode (chk 20 (.mk 5 false 0 ⟨#[]⟩ [] (canonM dm))) = 3 := by
  rw [show (20 : Nat) = 19 + 1 from rfl, chk, chkHead_5, chkM_canon]
  refine chkM_right (fun p hm => ?_) hs hno (fun s v r k _ e => by cases e)
  have hm' := hp.mem_iff.1 hm
  obtain ⟨h1, h2⟩ := rightM_mem hr p hm'
  refine ⟨h1, ?_⟩
  have h3 : chk (19 + 1) p.2 = none := by
    cases hc : chk (19 + 1) p.2 with
    | none => rfl
    | some pc =>
      obtain ⟨x, c⟩ := pc
      have := (chk_good 20 p.2 (hok p hm') x c hc).1
      rw [show chk 20 p.2 = some (x, c) from hc] at h2
      exact absurd h2 this
  have h4 := chk_less 19 p.2 h3
  have h5 := chk_dep 20 p.2 h3
  rcases Nat.lt_or_ge 19 (dep p.2) with h | h
  · exact .inr (h4.2 (by omega))
  · exact .inl (h4.1 h)

theorem mem_form {w w' : World} {ms : List (ByteArray × V)} {e : Ending} (h : MemAns w w' ms e) : ∃ (o : C6) (ev : Value), e = .returned (.tuple #[.agg o.arr, ev]) ∧ ((∃ T x, ev = .iface T x) ∨ ev = .nilIface) := by
  obtain ⟨ms', -, -, ⟨o, rfl, -⟩ | ⟨i, ev, hi, rfl, -, -, hch⟩⟩ := h
  · exact ⟨o, _, rfl, .inr rfl⟩
  · obtain ⟨T, x, rfl⟩ := hch.held
    exact ⟨⟨0, false, 0, ⟨#[]⟩, none, 0, 0, none, 0, 0⟩, _, rfl, .inl ⟨T, x, rfl⟩⟩
/-- What the law has in hand behind both calls. -/
def Hand (ms : List (ByteArray × V)) (w1 w2 : World) (a : Array Value) (ev : Value) (e2 : Ending) : Prop :=
  ∃ (o' : C6) (r : Res) (vx vy : V), e2 = .returned (.tuple #[.agg o'.arr, .agg #[.int .i64 (refCode r), .int .i64 (-1), .string (refPath r)]]) ∧
    Val w1 (· < w1.heap.size) 1000000 vx a ∧ Val w2 (· < w2.heap.size) 1000000 vy o'.arr ∧ same vx vy = true ∧ wgt vx ≤ wgtM ms + 1 ∧
    (refCode r ≠ 0 ∨ rightM ms = false ∨ refCode (chk 20 vx) = 0 ∨ refCode (chk 20 vx) = 3) ∧
    ∀ W, Below w1.heap.size w1 W → Glob W → Calls Tryd.prog 11 #[ev] W (TellAns r W)
theorem hand_of {ms : List (ByteArray × V)} {w w1 u w2 : World} {o : C6} {ev : Value} {e2 : Ending} (hkeys : ∀ p ∈ ms, p.1.size ≤ 1000000) (hok : ∀ p ∈ ms, VOk 1000000 p.2) (hm : MemAns w w1 ms (.returned (.tuple #[.agg o.arr, ev]))) (hr : RMemAns u w2 ms e2) : Hand ms w1 w2 o.arr ev e2 := by
  obtain ⟨o1, o', ev1, r, vx, vy, e1, e2', hvx, hvy, hsm, hwx, hdis⟩ := meet hkeys hm hr
  injection e1 with e1
  injection e1 with e1
  have ea : o.arr = o1.arr ∧ ev = ev1 := by simpa using e1
  obtain ⟨ea, rfl⟩ := ea
  rw [← ea] at hvx
  refine ⟨o', r, vx, vy, e2', hvx, hvy, hsm, hwx, ?_, fun W hW hG => ?_⟩
  · rcases hdis with ⟨rfl, rfl, dm, hp, hs, hno, rfl⟩ | ⟨key, rfl, -⟩
    · cases hR : rightM ms with
      | false => exact .inr (.inl rfl)
      | true => exact .inr (.inr (code_ok hok hp hs hno hR))
    · exact .inl (by simp [refCode])
  · rcases hdis with ⟨rfl, rfl, -⟩ | ⟨key, rfl, hch, hsz⟩
    · exact tell_nil W
    · have h1 := tell_chain [(-1, key)] 6 ev W (hch.keep fun p hp => hW.cell hp) hG.1 (by
        have h2 := chainLen_pth [key]
        simp only [List.map_cons, List.map_nil] at h2
        rw [h2]
        simp [pth, ByteArray.size_append]
        have : (⟨#[]⟩ : ByteArray).size = 0 := rfl
        have : (⟨#[47]⟩ : ByteArray).size = 1 := rfl
        omega)
      have h3 := tell_pth [key] ⟨#[]⟩
      simp only [List.map_cons, List.map_nil] at h3
      rw [h3] at h1
      refine h1.mono fun e W' ⟨he, hb⟩ => ⟨?_, hb⟩
      rw [he]
      have : (⟨#[]⟩ : ByteArray) ++ pth [key] = pth [key] := by apply ByteArray.ext; simp
      simp only [refCode, refPath, this]
end Go.Proofs.YtdpohklklmkjbaaDoor

namespace Go.Proofs.YtdpohklklmkjbaaDoor
open Go.RowKit Go.Lib
set_option linter.unusedVariables false
set_option linter.unusedSimpArgs false

theorem newB_below {h0 : Nat} {w w' : World} {v : Value} (hb : Below w.heap.size w w') {d : V} {cs : Array Value} (h : Val w (NewB h0 w v) 1000000 d cs) : Val w' (NewB h0 w' v) 1000000 d cs :=
  h.keep (fun p hp => hb.cell hp.2.1) (fun b hb' => ⟨hb'.1, Nat.lt_of_lt_of_le hb'.2.1 hb.size, hb'.2.2.1, hb'.2.2.2.same (hb.block b hb'.2.1)⟩)
theorem grew_plain {h0 : Nat} {wr W W2 w3 : World} {v : Value} {g n cap : Nat} {o2 : Obj} (hW : Below wr.heap.size wr W) (hb2 : Below W.heap.size W W2) (hgrow : (W2.alloc o2).grownBy w3 v.ownBlock) (hat : v.ownBlock = some g ∨ g = W2.heap.size + 1) (hown : ∀ k, v.ownBlock = some k → k < wr.heap.size) :
    Grew h0 wr W2 w3 v (.slice (some ⟨g, 0, none⟩) n cap) W.heap.size where
  lo1 := hW.size
  lo2 := hb2.size
  sz := by have := hgrow.size; simp at this; omega
  old := fun b h1 h2 h3 => by
    rw [hgrow.block b (by have := hW.size; have := hb2.size; simp; omega) (fun e => h3 e.symm), Below.heap_alloc _ _ _ (by have := hW.size; have := hb2.size; omega), hb2.block b (by have := hW.size; omega), hW.block b h2]
  new := fun b h1 h2 => by
    have h3 := hW.size
    rw [hgrow.block b (by simp; omega) (fun e => by have := hown b e.symm; omega), Below.heap_alloc _ _ _ (by omega)]
  own := hown
  own' := fun k e => by
    rcases hat with h | h
    · left; rw [h]; simpa [Value.ownBlock] using e
    · right; simp [Value.ownBlock] at e; omega

/-- The first loop: the members so far, and whether all were right. -/
def LmRel (w : World) (ms : List (ByteArray × V)) (kk : Nat) (mem right i : Value) (wr : World) : Prop :=
  ∃ (j : Nat) (v : Value) (css : List C6), j + kk = ms.length ∧ i = .int .i64 j ∧ v = mem ∧ right = .bool (rightM (ms.take j)) ∧ css.length = j ∧
    wr.ownsRow w.heap.size 58 7 v j ((ms.zip css).flatMap fun p => mem7 p.1.1 p.2) ∧ (∀ i (h1 : i < ms.length) (h2 : i < css.length), ms[i].1.size ≤ 1000000 ∧ Val wr (NewB w.heap.size wr v) 1000000 ms[i].2 css[i].arr) ∧ Below w.heap.size w wr
theorem lm_step {w wr W W2 w3 w4 : World} {ms : List (ByteArray × V)} {j : Nat} {v : Value} {css : List C6} {g cap : Nat} {o : C6} {o2 : Obj} {i : Value} {R : Bool} (hlt : j < ms.length) (hi : i = .int .i64 ((j + 1 : Nat) : Int)) (hks : ms[j].1.size ≤ 1000000)
    (hX : css.length = j ∧ wr.ownsRow w.heap.size 58 7 v j ((ms.zip css).flatMap fun p => mem7 p.1.1 p.2) ∧ (∀ i (h1 : i < ms.length) (h2 : i < css.length), ms[i].1.size ≤ 1000000 ∧ Val wr (NewB w.heap.size wr v) 1000000 ms[i].2 css[i].arr) ∧ Below w.heap.size w wr)
    (hR : (rightM (ms.take j) && (validB ms[j].1 && (refCode (chk 20 ms[j].2) == 0))) = R)
    (hWb : Below wr.heap.size wr W) (hb2 : Below W.heap.size W W2) (ho : Val W2 (fun b => W.heap.size ≤ b ∧ b < W2.heap.size ∧ Unfrozen W2 b) 1000000 ms[j].2 o.arr)
    (hown3 : w3.ownsRow w.heap.size 58 7 (.slice (some ⟨g, 0, none⟩) (j + 1) cap) (j + 1) (((ms.zip css).flatMap fun p => mem7 p.1.1 p.2) ++ mem7 ms[j].1 o)) (hgrow : (W2.alloc o2).grownBy w3 v.ownBlock) (hat : v.ownBlock = some g ∨ g = W2.heap.size + 1) (hb4 : Below w3.heap.size w3 w4) :
    LmRel w ms (ms.length - (j + 1)) (.slice (some ⟨g, 0, none⟩) (j + 1) cap) (.bool R) i w4 := by
  obtain ⟨hcl, hown, hkids, hb⟩ := hX
  have s0 := hb.size
  have s1 := hWb.size
  have s2 := hb2.size
  have s3 := hgrow.size
  simp at s3
  have hG := grew_plain (h0 := w.heap.size) (n := j + 1) (cap := cap) hWb hb2 hgrow hat (fun k e => (hown.lt k e).2)
  subst hi
  refine ⟨j + 1, .slice (some ⟨g, 0, none⟩) (j + 1) cap, css ++ [o], by omega, rfl, rfl, ?_, by simp [hcl], ?_, ?_, ?_⟩
  · rw [List.take_succ_eq_append_getElem hlt, rightM_snoc, hR]
  · rw [zip_snoc hcl hlt, List.flatMap_append]
    simp only [List.flatMap_cons, List.flatMap_nil, List.append_nil]
    exact own_below hown3 hb4
  · refine kids_snocM (P := fun _ d c => d.1.size ≤ 1000000 ∧ Val _ (NewB _ _ _) 1000000 d.2 c.arr) hcl hlt (fun i h1 h2 => ⟨(hkids i h1 h2).1, newB_below hb4 (hG.val (hkids i h1 h2).2)⟩) ⟨hks, newB_below hb4 (hG.kid (by omega) ho)⟩
  · refine Below.trans ?_ (hb4.mono (by omega))
    exact Below.grown ((hb.trans ((hWb.trans (hb2.mono s1)).mono (by omega))).alloc (by omega) _) hgrow (by simp; omega) (fun j hj => by have := (hown.lt _ hj).1; omega)
end Go.Proofs.YtdpohklklmkjbaaDoor

namespace Go.Proofs.YtdpohklklmkjbaaDoor
open Go.RowKit Go.Lib
set_option linter.unusedVariables false
set_option linter.unusedSimpArgs false

/-- Check of a right value: nil. -/
theorem check_nil (v : V) (cs : Array Value) (B : Nat) (w : World) (hv : Val w (· < B) 1000000 v cs) (hB : B ≤ w.heap.size) (hG : Glob w) (h : chk 20 v = none) :
    Calls Tryd.prog 12 #[.agg cs] w fun e w' => e = .returned .nilIface ∧ Below w.heap.size w w' := by
  refine (Check_any v cs B w hv hB hG).mono ?_
  rintro e w' ⟨hb, ⟨hr, rfl⟩ | ⟨p, c, x, hr, rfl, hch⟩⟩
  · exact ⟨rfl, hb⟩
  · rw [h] at hr; cases hr
def RealNil (w : World) (e : Ending) (w' : World) : Prop :=
  ∃ o : C6, e = .returned (.agg o.arr) ∧ Below w.heap.size w w' ∧ ∀ W, Below w'.heap.size w' W → Calls Tryd.prog 12 #[.agg o.arr] W fun e W' => e = .returned .nilIface ∧ Below W.heap.size W W'
theorem realNil_any (v : V) (cs : Array Value) (B : Nat) (w : World) (hw : wgt v ≤ 300) (hv : Val w (· < B) 1000000 v cs) (hB : B ≤ w.heap.size) (hG : Glob w) (h : chk 20 v = none) :
    Calls Tryd.prog 13 #[.agg cs] w (RealNil w) := by
  refine (real_any 300 v cs B w hw (by omega) hv hB).mono ?_
  rintro e w' ⟨⟨o, rfl, ho⟩, hb⟩
  refine ⟨o, rfl, hb, fun W hW => ?_⟩
  exact check_nil v o.arr w'.heap.size W (ho.keep (fun p hp => hW.cell hp.2) (fun b hb => hb.2)) hW.size ((hG.below hb).below hW) h

/-- What a check answers, and what errors.Is says of it. -/
def OneAns (deep : Bool) (w : World) (e : Ending) (w' : World) : Prop :=
  Below w.heap.size w w' ∧ ((deep = false ∧ e = .returned .nilIface) ∨ ∃ T x, deep = true ∧ e = .returned (.iface T x) ∧ ∀ W, Below w'.heap.size w' W → Calls Tryd.prog 30 #[.iface T x, .iface 67 (.int .i64 3)] W fun e W' => e = .returned (.bool true) ∧ W' = W)
theorem checkOne_any (v : V) (cs : Array Value) (B : Nat) (w : World) (hv : Val w (· < B) 1000000 (oneV v) cs) (hB : B ≤ w.heap.size) (hG : Glob w) (h : chk 20 v = none) :
    Calls Tryd.prog 12 #[.agg cs] w (OneAns (decide (dep v = 20)) w) := by
  have h1 := chk_one v h
  refine (Check_any (oneV v) cs B w hv hB hG).mono ?_
  rintro e w' ⟨hb, ⟨hr, rfl⟩ | ⟨p, c, x, hr, rfl, hch⟩⟩
  · refine ⟨hb, .inl ⟨decide_eq_false fun hd => ?_, rfl⟩⟩
    obtain ⟨p, hp⟩ := h1.1 hd
    rw [hp] at hr; cases hr
  · by_cases hd : dep v = 20
    · obtain ⟨p', hp⟩ := h1.1 hd
      rw [hp] at hr
      injection hr with hr
      injection hr with e1 e2
      subst e2
      obtain ⟨T, y, rfl⟩ := hch.held
      exact ⟨hb, .inr ⟨T, y, decide_eq_true hd, rfl, fun W hW => (is_code _ 3 3 _ W (hch.below hW)).mono fun e W' ⟨he, hw⟩ => ⟨by rw [he]; rfl, hw⟩⟩⟩
    · rw [h1.2 hd] at hr; cases hr
/-- A list of one value, laid in a block of its own. -/
theorem one_val {v : V} {o : C6} {W : World} {B : Nat} (hv : Val W (· < B) 1000000 v o.arr) (hB : B ≤ W.heap.size) (T : TypeId) :
    Val (W.alloc (.cells o.arr T)) (· < W.heap.size + 1) 1000000 (oneV v) #[.int .i64 4, .bool false, .int .i64 0, .string ⟨#[]⟩, .slice (some ⟨W.heap.size, 0, none⟩) 1 1, .slice none 0 0] := by
  have hb : Below W.heap.size W (W.alloc (.cells o.arr T)) := (Below.refl _ _).alloc (Nat.le_refl _) _
  rw [oneV, Val]
  refine ⟨some ⟨W.heap.size, 0, none⟩, 1, none, 0, rfl, ⟨by simp, by simp, by simp [ByteArray.size], by simp, by simp, (fun h => by cases h), fun _ => rfl⟩, ?_, by rw [ValM]; trivial⟩
  refine ValL.mk_ fun j hj => ?_
  have hj0 : j = 0 := by simpa using hj
  subst hj0
  refine ⟨W.heap.size, 0, o.arr, rfl, Nat.lt_succ_self _, fun q hq => ?_, ?_⟩
  · have := (Whole.made W T o.arr).cell q
    rw [show 0 + (0 + 0) * 6 + q = q by omega]
    exact this
  · exact hv.keep (fun p hp => hb.cell (Nat.lt_of_lt_of_le hp hB)) (fun b hb => by omega)

theorem run_field (a b : Int) (s : ByteArray) (W : World) : Sem.run Tryd.prog (Instr.field 29 (.agg #[.int .i64 a, .int .i64 b, .string s]) 0) W = .ok (.int .i64 a) W := by kernel_rfl

def LPRel (W : World) (l : List V) (k : Nat) (i : Value) (wr : World) : Prop := ∃ j : Nat, j + k = l.length ∧ i = .int .i64 j ∧ Below W.heap.size W wr

set_option maxRecDepth 100000 in
set_option maxHeartbeats 4000000 in
theorem lawParts_any (v : V) (c : C6) (B M : Nat) (w : World) (hM : M ≤ 1000000000) (hw : wgt v ≤ 1000000000) (hv : Val w (· < B) M v c.arr) (hB : B ≤ w.heap.size) (hG : Glob w) :
    Calls Tryd.prog 7 #[.agg c.arr] w fun e w' => e = .returned (.bool true) ∧ Below w.heap.size w w' := by
  obtain ⟨jk, jy, jn, jt, ja, jla, jca, jb, jlb, jcb⟩ := c
  have HV := Lib.hid (And.intro hv hG)
  have HF := Lib.hid (fun W (hW : Below w.heap.size w W) => few_any M hM 300 (by omega) v _ B W hw (hv.keep (fun p hp => hW.cell (Nat.lt_of_lt_of_le hp hB)) (fun _ h => h)) (Nat.le_trans hB hW.size))
  obtain ⟨W0, hW0⟩ : ∃ W0, w.alloc (.cells #[.int .i64 jk, .bool jy, .int .i64 jn, .string jt, .slice ja jla jca, .slice jb jlb jcb] 25) = W0 := ⟨_, rfl⟩
  have hb0 : Below w.heap.size w W0 := hW0 ▸ (Below.refl _ _).alloc (Nat.le_refl _) _
  have hw6 : Whole W0 w.heap.size 25 #[.int .i64 jk, .bool jy, .int .i64 jn, .string jt, .slice ja jla jca, .slice jb jlb jcb] := hW0 ▸ Whole.made _ _ _
  have H0 := Lib.hid (And.intro hb0 (And.intro hw6 hW0))
  have hz0 : w.heap.size < W0.heap.size := hw6.lt
  clear hv hG hW0 hb0 hw6
  dsimp only [C6.arr] at HF HV ⊢
  by_cases h300 : wgt v ≤ 300
  · have hdec : decide (wgt v ≤ 300) = true := decide_eq_true h300
    rw [hdec] at HF
    have hsm := HV.out.1.small (K := 300) (by omega) h300
    have HC := Lib.hid (fun W (hW : Below w.heap.size w W) => RefCheck_any v _ B W (hsm.keep (fun p hp => hW.cell (Nat.lt_of_lt_of_le hp hB)) (fun _ h => h)) (Nat.le_trans hB hW.size))
    have hgood := chk_good 20 v hsm.ok
    cases hR : chk 20 v with
    | some pc =>
      obtain ⟨p, ec⟩ := pc
      have hec : (ec != 0) = true := by simpa using (hgood p ec hR).1
      have hfld := fun W => run_field ec (-1) (pth p) W
      rw [hR] at HC
      unfold RefAns at HC
      simp only [refCode, refPath] at HC
      clear hdec h300 hR hsm hgood
      go_enter Tryd.func7, Tryd.ntmps7
      go_wp2_with fail
      rw [H0.out.2.2]
      refine (awake_any W0 (HV.out.2.below H0.out.1)).mono ?_
      rintro e W1 ⟨rfl, hb1⟩
      obtain ⟨x0, x1, x2, x3, x4, x5⟩ := (H0.out.2.1.below hb1 hz0).six
      have HB1 := Lib.hid (H0.out.1.trans (hb1.mono H0.out.1.size))
      have hz1 : w.heap.size < W1.heap.size := lt_of_cell x0
      clear hb1
      go_wp2_with fail
      refine (HF.out W1 HB1.out).mono ?_
      rintro e W2 ⟨rfl, hb2⟩
      have y0 := (hb2.cell (p := ⟨w.heap.size, 0, none⟩) hz1).trans x0
      have y1 := (hb2.cell (p := ⟨w.heap.size, 1, none⟩) hz1).trans x1
      have y2 := (hb2.cell (p := ⟨w.heap.size, 2, none⟩) hz1).trans x2
      have y3 := (hb2.cell (p := ⟨w.heap.size, 3, none⟩) hz1).trans x3
      have y4 := (hb2.cell (p := ⟨w.heap.size, 4, none⟩) hz1).trans x4
      have y5 := (hb2.cell (p := ⟨w.heap.size, 5, none⟩) hz1).trans x5
      have HB2 := Lib.hid (HB1.out.trans (hb2.mono HB1.out.size))
      clear hb2 x0 x1 x2 x3 x4 x5
      go_wp2_with fail
      refine (HC.out W2 HB2.out).mono ?_
      rintro e W3 ⟨rfl, hb3⟩
      have HB3 := Lib.hid (HB2.out.trans (hb3.mono HB2.out.size))
      clear hb3 y0 y1 y2 y3 y4 y5
      go_wp2_with fail
      refine (awake_any W3 (HV.out.2.below HB3.out)).mono ?_
      rintro e W4 ⟨rfl, hb4⟩
      go_wp2_with fail
      go_ret
      exact ⟨rfl, HB3.out.trans (hb4.mono HB3.out.size)⟩
    | none =>
      rw [hR] at HC
      unfold RefAns at HC
      simp only [refCode, refPath] at HC
      have HN := Lib.hid hR
      have HP := Lib.hid (fun W (hW : Below w.heap.size w W) => parts_any v _ B W (hsm.keep (fun p hp => hW.cell (Nat.lt_of_lt_of_le hp hB)) (fun _ h => h)) (Nat.le_trans hB hW.size))
      have HD := Lib.hid (fun W (hW : Below w.heap.size w W) => depth_any 300 v _ B W h300 (by omega) (hsm.keep (fun p hp => hW.cell (Nat.lt_of_lt_of_le hp hB)) (fun _ h => h)) (Nat.le_trans hB hW.size))
      have HRl := Lib.hid (fun W (hW : Below w.heap.size w W) => real_any 300 v _ B W h300 (by omega) (hsm.keep (fun p hp => hW.cell (Nat.lt_of_lt_of_le hp hB)) (fun _ h => h)) (Nat.le_trans hB hW.size))
      have hfld := fun W => run_field 0 (-1) ⟨#[]⟩ W
      have hwp := wgt_parts v
      have hd20 := chk_dep 20 v hR
      clear hdec hR hsm hgood
      go_enter Tryd.func7, Tryd.ntmps7
      go_wp2_with fail
      rw [H0.out.2.2]
      refine (awake_any W0 (HV.out.2.below H0.out.1)).mono ?_
      rintro e W1 ⟨rfl, hb1⟩
      obtain ⟨x0, x1, x2, x3, x4, x5⟩ := (H0.out.2.1.below hb1 hz0).six
      have HB1 := Lib.hid (H0.out.1.trans (hb1.mono H0.out.1.size))
      have hz1 : w.heap.size < W1.heap.size := lt_of_cell x0
      clear hb1
      go_wp2_with fail
      refine (HF.out W1 HB1.out).mono ?_
      rintro e W2 ⟨rfl, hb2⟩
      have y0 := (hb2.cell (p := ⟨w.heap.size, 0, none⟩) hz1).trans x0
      have y1 := (hb2.cell (p := ⟨w.heap.size, 1, none⟩) hz1).trans x1
      have y2 := (hb2.cell (p := ⟨w.heap.size, 2, none⟩) hz1).trans x2
      have y3 := (hb2.cell (p := ⟨w.heap.size, 3, none⟩) hz1).trans x3
      have y4 := (hb2.cell (p := ⟨w.heap.size, 4, none⟩) hz1).trans x4
      have y5 := (hb2.cell (p := ⟨w.heap.size, 5, none⟩) hz1).trans x5
      have HB2 := Lib.hid (HB1.out.trans (hb2.mono HB1.out.size))
      have hz2 : w.heap.size < W2.heap.size := lt_of_cell y0
      clear hb2 x0 x1 x2 x3 x4 x5
      go_wp2_with fail
      refine (HC.out W2 HB2.out).mono ?_
      rintro e W3 ⟨rfl, hb3⟩
      have z0 := (hb3.cell (p := ⟨w.heap.size, 0, none⟩) hz2).trans y0
      have z1 := (hb3.cell (p := ⟨w.heap.size, 1, none⟩) hz2).trans y1
      have z2 := (hb3.cell (p := ⟨w.heap.size, 2, none⟩) hz2).trans y2
      have z3 := (hb3.cell (p := ⟨w.heap.size, 3, none⟩) hz2).trans y3
      have z4 := (hb3.cell (p := ⟨w.heap.size, 4, none⟩) hz2).trans y4
      have z5 := (hb3.cell (p := ⟨w.heap.size, 5, none⟩) hz2).trans y5
      have HB3 := Lib.hid (HB2.out.trans (hb3.mono HB2.out.size))
      have hz3 : w.heap.size < W3.heap.size := lt_of_cell z0
      clear hb3 y0 y1 y2 y3 y4 y5
      go_wp2_with fail
      refine (HP.out W3 HB3.out).mono ?_
      rintro e W4 ⟨⟨A, ca, rfl, hpc, hpl, hvl⟩, hb4⟩
      have q0 := (hb4.cell (p := ⟨w.heap.size, 0, none⟩) hz3).trans z0
      have q1 := (hb4.cell (p := ⟨w.heap.size, 1, none⟩) hz3).trans z1
      have q2 := (hb4.cell (p := ⟨w.heap.size, 2, none⟩) hz3).trans z2
      have q3 := (hb4.cell (p := ⟨w.heap.size, 3, none⟩) hz3).trans z3
      have q4 := (hb4.cell (p := ⟨w.heap.size, 4, none⟩) hz3).trans z4
      have q5 := (hb4.cell (p := ⟨w.heap.size, 5, none⟩) hz3).trans z5
      have hz4 : w.heap.size < W4.heap.size := lt_of_cell q0
      have hall := chk_part 19 v HN.out
      obtain ⟨l, hl⟩ : ∃ l, parts v = l := ⟨_, rfl⟩
      rw [hl] at hpc hpl hvl hwp hall ⊢
      have HX := Lib.hid (And.intro hvl (And.intro (HB3.out.trans (hb4.mono HB3.out.size)) (And.intro hwp hall)))
      clear hvl hb4 hl HP hwp hall z0 z1 z2 z3 z4 z5
      go_wp2_with fail
      go_loopg [23] l.length (LPRel W4 l)
      case atStart => exact ⟨0, by simp, rfl, Below.refl _ _⟩
      case round =>
        obtain ⟨j, hk, rfl, hb⟩ := hrel
        by_cases hlt : j < l.length
        · obtain ⟨b, off, cs, rfl, hbB, hc, hx⟩ := HX.out.1.get j hlt
          obtain ⟨cj, rfl⟩ := hx.c6
          have hcj : ∀ q, q < 6 → wr.cell? ⟨b, off + j * 6 + q, none⟩ = cj.arr[q]? := fun q hq => (hb.cell (p := ⟨b, off + j * 6 + q, none⟩) hbB).trans (by simpa using hc q hq)
          obtain ⟨x0, x1, x2, x3, x4, x5⟩ := cells6 hcj rfl
          have hwj : wgt l[j] ≤ 300 := by
            have h1 := HX.out.2.2.1
            have h2 := wgtL_le l (j + 1)
            rw [wgtL_take l j hlt] at h2
            omega
          have hcall := fun W (hW : Below W4.heap.size W4 W) => realNil_any l[j] cj.arr W4.heap.size W hwj (hx.keep (fun p hp => hW.cell hp) (fun _ h => h)) hW.size ((HV.out.2.below HX.out.2.1).below hW) (chk_mono 19 _ (HX.out.2.2.2 _ (List.getElem_mem hlt)))
          have HC2 := Lib.hid (And.intro hcall (And.intro hk hb))
          have hj1 : (j : Int) < (l.length : Int) := by omega
          have hzb := hb.size
          clear hcall hk hb hcj hc hx hwj
          obtain ⟨pk, py, pn, pt, pa, pla, pca, pb, plb, pcb⟩ := cj
          dsimp only [C6.arr] at x0 x1 x2 x3 x4 x5 HC2
          go_wp2_with fail
          refine (HC2.out.1 _ (HC2.out.2.2.alloc hzb _)).mono ?_
          rintro e W5 ⟨o, rfl, hb5, hck⟩
          have H5 := Lib.hid (And.intro hb5 hck)
          clear hb5 hck
          go_wp2_with fail
          refine (H5.out.2 _ (Below.refl _ _)).mono ?_
          rintro e W6 ⟨rfl, hb6⟩
          go_wp2_with fail
          go_roundg (l.length - (j + 1))
          case rel =>
            have hb := HC2.out.2.2
            have hb5 := (hb.alloc hzb (.cells #[.int .i64 pk, .bool py, .int .i64 pn, .string pt, .slice pa pla pca, .slice pb plb pcb] 25)).trans (H5.out.1.mono (by simp; omega))
            exact ⟨j + 1, by omega, by go_num, hb5.trans (hb6.mono hb5.size)⟩
          case measure => have := HC2.out.2.1; omega
        · have hzr := hb.size
          have r0 := (hb.cell (p := ⟨w.heap.size, 0, none⟩) hz4).trans q0
          have r1 := (hb.cell (p := ⟨w.heap.size, 1, none⟩) hz4).trans q1
          have r2 := (hb.cell (p := ⟨w.heap.size, 2, none⟩) hz4).trans q2
          have r3 := (hb.cell (p := ⟨w.heap.size, 3, none⟩) hz4).trans q3
          have r4 := (hb.cell (p := ⟨w.heap.size, 4, none⟩) hz4).trans q4
          have r5 := (hb.cell (p := ⟨w.heap.size, 5, none⟩) hz4).trans q5
          have hz5 : w.heap.size < wr.heap.size := lt_of_cell r0
          have HB5 := Lib.hid (HX.out.2.1.trans (hb.mono HX.out.2.1.size))
          clear hb hk q0 q1 q2 q3 q4 q5
          go_wp2_with fail
          refine (HRl.out wr HB5.out).mono ?_
          rintro e W6 ⟨⟨o, rfl, ho⟩, hb6⟩
          have s0 := (hb6.cell (p := ⟨w.heap.size, 0, none⟩) hz5).trans r0
          have s1 := (hb6.cell (p := ⟨w.heap.size, 1, none⟩) hz5).trans r1
          have s2 := (hb6.cell (p := ⟨w.heap.size, 2, none⟩) hz5).trans r2
          have s3 := (hb6.cell (p := ⟨w.heap.size, 3, none⟩) hz5).trans r3
          have s4 := (hb6.cell (p := ⟨w.heap.size, 4, none⟩) hz5).trans r4
          have s5 := (hb6.cell (p := ⟨w.heap.size, 5, none⟩) hz5).trans r5
          have hz6 : w.heap.size < W6.heap.size := lt_of_cell s0
          have H6 := Lib.hid (And.intro ho (HB5.out.trans (hb6.mono HB5.out.size)))
          have HCk := Lib.hid (checkOne_any v _ (W6.heap.size + 1) _ (one_val (ho.keep (fun _ _ => rfl) (fun b hb => hb.2)) (Nat.le_refl _) 38) (by simp) (HV.out.2.below ((HB5.out.trans (hb6.mono HB5.out.size)).alloc (by omega) _)) HN.out)
          clear ho hb6 r0 r1 r2 r3 r4 r5
          obtain ⟨ok, oy, on_, ot, oa, ola, oca, ob, olb, ocb⟩ := o
          dsimp only [C6.arr] at HCk ⊢
          go_wp2_with fail
          refine HCk.out.mono ?_
          rintro e W7 ⟨hb7, ⟨hd, rfl⟩ | ⟨T, x, hd, rfl, hIs⟩⟩
          · have hbb : Below W6.heap.size W6 W7 := ((Below.refl _ _).alloc (Nat.le_refl _) _).trans (hb7.mono (by simp))
            have t0 := (hbb.cell (p := ⟨w.heap.size, 0, none⟩) hz6).trans s0
            have t1 := (hbb.cell (p := ⟨w.heap.size, 1, none⟩) hz6).trans s1
            have t2 := (hbb.cell (p := ⟨w.heap.size, 2, none⟩) hz6).trans s2
            have t3 := (hbb.cell (p := ⟨w.heap.size, 3, none⟩) hz6).trans s3
            have t4 := (hbb.cell (p := ⟨w.heap.size, 4, none⟩) hz6).trans s4
            have t5 := (hbb.cell (p := ⟨w.heap.size, 5, none⟩) hz6).trans s5
            have H7 := Lib.hid (H6.out.2.trans (hbb.mono H6.out.2.size))
            have hdn : ((dep v : Int) == 20) = false := by rw [beq_eq_false_iff_ne]; have := of_decide_eq_false hd; omega
            clear hb7 hbb s0 s1 s2 s3 s4 s5 hd
            go_wp2_with fail
            refine (HD.out W7 H7.out).mono ?_
            rintro e W8 ⟨rfl, hb8⟩
            go_wp2_with fail
            go_ret
            exact ⟨rfl, H7.out.trans (hb8.mono H7.out.size)⟩
          · have hbb : Below W6.heap.size W6 W7 := ((Below.refl _ _).alloc (Nat.le_refl _) _).trans (hb7.mono (by simp))
            have t0 := (hbb.cell (p := ⟨w.heap.size, 0, none⟩) hz6).trans s0
            have t1 := (hbb.cell (p := ⟨w.heap.size, 1, none⟩) hz6).trans s1
            have t2 := (hbb.cell (p := ⟨w.heap.size, 2, none⟩) hz6).trans s2
            have t3 := (hbb.cell (p := ⟨w.heap.size, 3, none⟩) hz6).trans s3
            have t4 := (hbb.cell (p := ⟨w.heap.size, 4, none⟩) hz6).trans s4
            have t5 := (hbb.cell (p := ⟨w.heap.size, 5, none⟩) hz6).trans s5
            have H7 := Lib.hid (And.intro (H6.out.2.trans (hbb.mono H6.out.2.size)) hIs)
            have hdn : ((dep v : Int) == 20) = true := by rw [beq_iff_eq]; have := of_decide_eq_true hd; omega
            clear hb7 hbb s0 s1 s2 s3 s4 s5 hd hIs
            go_wp2_with fail
            refine (HD.out W7 H7.out.1).mono ?_
            rintro e W8 ⟨rfl, hb8⟩
            have H8 := Lib.hid (And.intro (H7.out.1.trans (hb8.mono H7.out.1.size)) (H7.out.2 W8 hb8))
            clear hb8
            go_wp2_with fail
            refine H8.out.2.mono ?_
            rintro e W9 ⟨rfl, rfl⟩
            go_wp2_with fail
            go_ret
            exact ⟨rfl, H8.out.1⟩
  · have hdec : decide (wgt v ≤ 300) = false := decide_eq_false h300
    rw [hdec] at HF
    clear hdec h300
    go_enter Tryd.func7, Tryd.ntmps7
    go_wp2_with fail
    rw [H0.out.2.2]
    refine (awake_any W0 (HV.out.2.below H0.out.1)).mono ?_
    rintro e W1 ⟨rfl, hb1⟩
    obtain ⟨x0, x1, x2, x3, x4, x5⟩ := (H0.out.2.1.below hb1 hz0).six
    have HB1 := Lib.hid (H0.out.1.trans (hb1.mono H0.out.1.size))
    have hz1 : w.heap.size < W1.heap.size := lt_of_cell x0
    clear hb1
    go_wp2_with fail
    refine (HF.out W1 HB1.out).mono ?_
    rintro e W2 ⟨rfl, hb2⟩
    have HB2 := Lib.hid (HB1.out.trans (hb2.mono HB1.out.size))
    clear hb2 x0 x1 x2 x3 x4 x5
    go_wp2_with fail
    refine (awake_any W2 (HV.out.2.below HB2.out)).mono ?_
    rintro e W3 ⟨rfl, hb3⟩
    go_wp2_with fail
    go_ret
    exact ⟨rfl, HB2.out.trans (hb3.mono HB2.out.size)⟩
end Go.Proofs.YtdpohklklmkjbaaDoor

namespace Go.Proofs.YtdpohklklmkjbaaDoor
open Go.RowKit Go.Lib
set_option linter.unusedVariables false
set_option linter.unusedSimpArgs false

def LkRel (W : World) (n : Nat) (k : Nat) (i : Value) (wr : World) : Prop := ∃ j : Nat, j + k = n ∧ i = .int .i64 j ∧ Below W.heap.size W wr

set_option maxRecDepth 100000 in
set_option maxHeartbeats 8000000 in
theorem lawMembers_any (ms : List (ByteArray × V)) (A : Option Addr) (c B M : Nat) (w : World) (hM : M ≤ 1000000000) (hw : wgtM ms ≤ 900000000) (hv : ValM w (· < B) M ms A 0) (hlM : ms.length ≤ M) (hc : ms.length ≤ c) (hA : A = none → c = 0) (hB : B ≤ w.heap.size) (hG : Glob w) :
    Calls Tryd.prog 6 #[.slice A ms.length c] w fun e w' => e = .returned (.bool true) ∧ Below w.heap.size w w' := by
  have hval : Val w (· < B) M (.mk 5 false 0 ⟨#[]⟩ [] ms) #[.int .i64 5, .bool false, .int .i64 0, .string ⟨#[]⟩, .slice none 0 0, .slice A ms.length c] := by
    rw [Val]
    exact ⟨none, 0, A, c, by simp, ⟨by simp, hc, by simp [ByteArray.size], by simp, hlM, fun _ => rfl, hA⟩, by rw [ValL]; trivial, hv⟩
  have hwv : wgt (.mk 5 false 0 ⟨#[]⟩ [] ms) = 1 + wgtM ms := by
    rw [wgt, wgtL]
    have : (⟨#[]⟩ : ByteArray).size = 0 := rfl
    omega
  have HF := Lib.hid (fun W (hW : Below w.heap.size w W) => few_any M hM 300 (by omega) _ _ B W (by omega : wgt (.mk 5 false 0 ⟨#[]⟩ [] ms) ≤ 1000000000) (hval.keep (fun p hp => hW.cell (Nat.lt_of_lt_of_le hp hB)) (fun _ h => h)) (Nat.le_trans hB hW.size))
  have HV := Lib.hid (And.intro hv (And.intro hA hG))
  rw [hwv] at HF
  clear hval hv hwv hA hG
  by_cases h300 : 1 + wgtM ms ≤ 300
  · have hdec : decide (1 + wgtM ms ≤ 300) = true := decide_eq_true h300
    rw [hdec] at HF
    have hsm := (HV.out.1.small (K := 300) (by omega) (by omega)).1
    have hl300 : ms.length ≤ 300 := by have := wgtM_len ms; omega
    have HS := Lib.hid hsm
    obtain ⟨i1, hi1, hy0, hy1, hy2⟩ := info_parts info_Member
    clear hdec hsm
    go_enter Tryd.func6, Tryd.ntmps6
    go_wp2_with fail
    refine (awake_any w HV.out.2.2).mono ?_
    rintro e W1 ⟨rfl, hb1⟩
    have HB1 := Lib.hid hb1
    clear hb1
    go_wp2_with fail
    refine (HF.out W1 HB1.out).mono ?_
    rintro e W2 ⟨rfl, hb2⟩
    have HB2 := Lib.hid (HB1.out.trans (hb2.mono HB1.out.size))
    clear hb2
    go_wp2_with fail
    go_loopg [3, 4, 25] ms.length (LmRel w ms)
    case atStart => exact ⟨0, .slice none 0 0, [], by simp, rfl, rfl, by simp [rightM], rfl, by simpa using World.ownsRow_nil _ _ _ _, fun i h1 h2 => by simp at h2, HB2.out⟩
    case round =>
      obtain ⟨j, v, css, hk, rfl, rfl, rfl, hcl, hown, hkids, hb⟩ := hrel
      obtain ⟨R, hR⟩ : ∃ R, rightM (ms.take j) = R := ⟨_, rfl⟩
      rw [hR]
      by_cases hlt : j < ms.length
      · obtain ⟨b, off, cs, rfl, hbB, hsM, hkc, hc', hx⟩ := HS.out.get j hlt
        obtain ⟨cj, rfl⟩ := hx.c6
        obtain ⟨ks, hks⟩ : ∃ ks, ms[j].1 = ks := ⟨_, rfl⟩
        rw [hks] at hkc hsM
        have hck : wr.cell? ⟨b, off + j * 7, none⟩ = some (.string ks) := by
          rw [hb.cell (p := ⟨b, off + j * 7, none⟩) (show b < w.heap.size by omega)]
          simpa using hkc
        have hcj : ∀ q, q < 6 → wr.cell? ⟨b, off + j * 7 + (1 + q), none⟩ = cj.arr[q]? := fun q hq => by
          rw [hb.cell (p := ⟨b, off + j * 7 + (1 + q), none⟩) (show b < w.heap.size by omega)]
          simpa using hc' q hq
        obtain ⟨xk, x0, x1, x2, x3, x4, x5⟩ := cells7 hck hcj rfl
        have hwj : wgt ms[j].2 ≤ 300 := by
          have h2 := wgtM_le ms (j + 1)
          rw [wgtM_take ms j hlt] at h2
          omega
        have hcall := fun W (hW : Below w.heap.size w W) => real_strong 300 ms[j].2 cj.arr B W hwj (by omega) (hx.keep (fun p hp => hW.cell (Nat.lt_of_lt_of_le hp hB)) (fun _ h => h)) (Nat.le_trans hB hW.size)
        have hcheck := fun W (hW : Below w.heap.size w W) => RefCheck_any ms[j].2 cj.arr B W (hx.keep (fun p hp => hW.cell (Nat.lt_of_lt_of_le hp hB)) (fun _ h => h)) (Nat.le_trans hB hW.size)
        unfold RealAnsU at hcall
        have HC := Lib.hid hcall
        have HK := Lib.hid hcheck
        have nb1 : v.ownBlock ≠ some wr.heap.size := fun e => by have := (hown.lt _ e).2; omega
        have HX := Lib.hid (And.intro hk (And.intro hcl (And.intro hown (And.intro hkids (And.intro hb (And.intro hks hR))))))
        clear hk hcl hown hkids hb hks hR hck hcj hc' hkc hx hcall hcheck hwj
        obtain ⟨jk, jy, jn, jt, ja, jla, jca, jb, jlb, jcb⟩ := cj
        dsimp only [C6.arr] at x0 x1 x2 x3 x4 x5 HC HK
        go_wp2_with fail
        obtain ⟨W, hWd⟩ : ∃ W, wr.alloc (.cells #[.string ks, .int .i64 jk, .bool jy, .int .i64 jn, .string jt, .slice ja jla jca, .slice jb jlb jcb] 56) = W := ⟨_, rfl⟩
        rw [hWd]
        have hWb : Below wr.heap.size wr W := hWd ▸ (Below.refl _ _).alloc (Nat.le_refl _) _
        have hW7 : Whole W wr.heap.size 56 #[.string ks, .int .i64 jk, .bool jy, .int .i64 jn, .string jt, .slice ja jla jca, .slice jb jlb jcb] := hWd ▸ Whole.made _ _ _
        have yk : W.cell? ⟨wr.heap.size, 0, none⟩ = some (.string ks) := hW7.cell 0
        have y0 : W.cell? ⟨wr.heap.size, 1, none⟩ = some (.int .i64 jk) := hW7.cell 1
        have y1 : W.cell? ⟨wr.heap.size, 2, none⟩ = some (.bool jy) := hW7.cell 2
        have y2 : W.cell? ⟨wr.heap.size, 3, none⟩ = some (.int .i64 jn) := hW7.cell 3
        have y3 : W.cell? ⟨wr.heap.size, 4, none⟩ = some (.string jt) := hW7.cell 4
        have y4 : W.cell? ⟨wr.heap.size, 5, none⟩ = some (.slice ja jla jca) := hW7.cell 5
        have y5 : W.cell? ⟨wr.heap.size, 6, none⟩ = some (.slice jb jlb jcb) := hW7.cell 6
        have hzW : wr.heap.size < W.heap.size := hW7.lt
        have HW := Lib.hid (And.intro hWb (And.intro (HX.out.2.2.2.2.1.trans (hWb.mono HX.out.2.2.2.2.1.size)) hW7))
        have hwz : w.heap.size ≤ wr.heap.size := HX.out.2.2.2.2.1.size
        clear hWd hWb hW7 xk x0 x1 x2 x3 x4 x5
        go_region_held3 (fun w' => w'.cell? ⟨wr.heap.size, 0, none⟩ = some (.string ks) ∧ w'.cell? ⟨wr.heap.size, 1, none⟩ = some (.int .i64 jk) ∧ w'.cell? ⟨wr.heap.size, 2, none⟩ = some (.bool jy) ∧ w'.cell? ⟨wr.heap.size, 3, none⟩ = some (.int .i64 jn) ∧ w'.cell? ⟨wr.heap.size, 4, none⟩ = some (.string jt) ∧ w'.cell? ⟨wr.heap.size, 5, none⟩ = some (.slice ja jla jca) ∧ w'.cell? ⟨wr.heap.size, 6, none⟩ = some (.slice jb jlb jcb))
          (first | (exact ⟨pk, p0, p1, p2, p3, p4, p5⟩) | (exact ⟨zk, z0, z1, z2, z3, z4, z5⟩) | (go_keep; done))
          (first
            | (go_at_call 13; refine (HC.out _ ?_).mono ?_; (first | exact HW.out.2.1 | exact HW.out.2.1.drew); rintro e W2 ⟨⟨o, rfl, ho⟩, hb2⟩
               have hb2' : Below W.heap.size W W2 := by first | exact hb2 | exact ((Below.refl W.heap.size W).drew).trans hb2
               have zk := (hb2'.cell (p := ⟨wr.heap.size, 0, none⟩) hzW).trans yk
               have z0 := (hb2'.cell (p := ⟨wr.heap.size, 1, none⟩) hzW).trans y0
               have z1 := (hb2'.cell (p := ⟨wr.heap.size, 2, none⟩) hzW).trans y1
               have z2 := (hb2'.cell (p := ⟨wr.heap.size, 3, none⟩) hzW).trans y2
               have z3 := (hb2'.cell (p := ⟨wr.heap.size, 4, none⟩) hzW).trans y3
               have z4 := (hb2'.cell (p := ⟨wr.heap.size, 5, none⟩) hzW).trans y4
               have z5 := (hb2'.cell (p := ⟨wr.heap.size, 6, none⟩) hzW).trans y5
               have hzz : W.heap.size ≤ W2.heap.size := hb2'.size
               have hzW2 : wr.heap.size < W2.heap.size := Nat.lt_of_lt_of_le hzW hzz
               have hwz2 : w.heap.size ≤ W2.heap.size := by omega
               have HO := Lib.hid (And.intro ho (And.intro hb2' (own_below (own_below HX.out.2.2.1 HW.out.1) hb2')))
               clear ho hb2 hb2'
               obtain ⟨ok, oy, on_, ot, oa, ola, oca, ob, olb, ocb⟩ := o
               dsimp only [C6.arr] at HO ⊢)
            | (refine step_append_lies _ (by rfl) _ _ _ (by rfl) w.heap.size 58 i1 (.agg #[.string ⟨#[]⟩, .int .i64 0, .bool false, .int .i64 0, .string ⟨#[]⟩, .slice none 0 0, .slice none 0 0]) 7 104 Tryd.underlying36 hi1 hy0 hy1 hy2 rfl (by decide) v j ((ms.zip css).flatMap fun p => mem7 p.1.1 p.2) (by rfl) (HO.out.2.2.alloc _)
                 ⟨W2.heap.size, 0, none⟩ 1 1 [.string ks, .int .i64 ok, .bool oy, .int .i64 on_, .string ot, .slice oa ola oca, .slice ob olb ocb] (by rfl) (by rfl) (World.news_of_block (cs := #[.string ks, .int .i64 ok, .bool oy, .int .i64 on_, .string ot, .slice oa ola oca, .slice ob olb ocb]) (t := 58) (fr := (0, 0)) (heap_alloc_new W2 _)) (by simp [Value.oneCell'])
                 (by omega) (by unfold maxLen; omega) (by omega) (by simp; omega) (W2.heap.size + 1) (by simp) ?_; intro g cap w3 hown3 hgrow hat hlt3
               have pk := grown_cell hgrow (p := ⟨wr.heap.size, 0, none⟩) hzW2 nb1 zk
               have p0 := grown_cell hgrow (p := ⟨wr.heap.size, 1, none⟩) hzW2 nb1 z0
               have p1 := grown_cell hgrow (p := ⟨wr.heap.size, 2, none⟩) hzW2 nb1 z1
               have p2 := grown_cell hgrow (p := ⟨wr.heap.size, 3, none⟩) hzW2 nb1 z2
               have p3 := grown_cell hgrow (p := ⟨wr.heap.size, 4, none⟩) hzW2 nb1 z3
               have p4 := grown_cell hgrow (p := ⟨wr.heap.size, 5, none⟩) hzW2 nb1 z4
               have p5 := grown_cell hgrow (p := ⟨wr.heap.size, 6, none⟩) hzW2 nb1 z5
               have HGr := Lib.hid (And.intro hown3 (And.intro hgrow (And.intro hat hlt3)))
               clear hown3 hgrow hat))
        have hb3 : Below w.heap.size w w3 := by
          obtain ⟨-, hgrow, -⟩ := HGr.out
          have hbW := HW.out.2.1
          have hbO := HO.out.2.1
          exact Below.grown ((hbW.trans (hbO.mono hbW.size)).alloc hwz2 _) hgrow (by simp; omega) (fun j hj => (HX.out.2.2.1.lt _ hj).1)
        have hz3 : wr.heap.size < w3.heap.size := lt_of_cell pk
        have HB3 := Lib.hid hb3
        have fin : ∀ (R' : Bool) (i : Value) (w4 : World), i = .int .i64 ((j + 1 : Nat) : Int) → (R && (validB ks && (refCode (chk 20 ms[j].2) == 0))) = R' → Below w3.heap.size w3 w4 → LmRel w ms (ms.length - (j + 1)) (.slice (some ⟨g, 0, none⟩) (j + 1) cap) (.bool R') i w4 := fun R' i w4 hi hR' hb4 => by
          obtain ⟨hk, hcl, hown, hkids, hb, rfl, rfl⟩ := HX.out
          obtain ⟨hown3, hgrow, hat, hlt3⟩ := HGr.out
          exact lm_step (o := ⟨ok, oy, on_, ot, oa, ola, oca, ob, olb, ocb⟩) hlt hi hsM ⟨hcl, hown, hkids, hb⟩ hR' HW.out.1 HO.out.2.1 HO.out.1 hown3 hgrow hat hb4
        have FIN := Lib.hid fin
        clear hb3 fin zk z0 z1 z2 z3 z4 z5 yk y0 y1 y2 y3 y4 y5
        have hkk := HX.out.1
        cases R with
        | false =>
          go_wp2_with fail
          go_roundg (ms.length - (j + 1))
          case rel => exact FIN.out _ _ _ (by go_num) rfl (Below.refl _ _)
          case measure => omega
        | true =>
          have HU := Lib.hid (utf8_any ks)
          obtain ⟨U, hU⟩ : ∃ U, validB ks = U := ⟨_, rfl⟩
          rw [hU] at HU FIN
          clear hU
          cases U with
          | false =>
            go_wp2_with fail
            refine (HU.out w3 (by omega)).mono ?_
            rintro e w4 ⟨rfl, rfl⟩
            go_wp2_with fail
            go_roundg (ms.length - (j + 1))
            case rel => exact FIN.out _ _ _ (by go_num) rfl (Below.refl _ _)
            case measure => omega
          | true =>
            unfold RefAns at HK
            obtain ⟨r, hr⟩ : ∃ r, chk 20 ms[j].2 = r := ⟨_, rfl⟩
            rw [hr] at HK FIN
            obtain ⟨ec, hec⟩ : ∃ ec, refCode r = ec := ⟨_, rfl⟩
            obtain ⟨ep, hep⟩ : ∃ ep, refPath r = ep := ⟨_, rfl⟩
            rw [hec, hep] at HK
            rw [hec] at FIN
            have hfld := fun W => run_field ec (-1) ep W
            clear hr hec hep
            go_wp2_with fail
            refine (HU.out w3 (by omega)).mono ?_
            rintro e w4 ⟨rfl, rfl⟩
            go_wp2_with fail
            refine (HK.out w3 HB3.out).mono ?_
            rintro e w4 ⟨rfl, hb4⟩
            have HB4 := Lib.hid hb4
            clear hb4
            cases hz : (ec == 0) with
            | true =>
              rw [hz] at FIN
              go_wp2_with fail
              go_roundg (ms.length - (j + 1))
              case rel => exact FIN.out _ _ _ (by go_num) rfl HB4.out
              case measure => omega
            | false =>
              rw [hz] at FIN
              go_wp2_with fail
              go_roundg (ms.length - (j + 1))
              case rel => exact FIN.out _ _ _ (by go_num) rfl HB4.out
              case measure => omega
      · obtain rfl : j = ms.length := by omega
        rw [List.take_length] at hR
        obtain ⟨A', c', rfl, hlc', hA', hvm⟩ := rowM hown hcl hkids
        have hMem := Members_any ms A' c' wr.heap.size wr (hvm.keep (fun _ _ => rfl) (fun b hb => hb.2.1)) (Nat.le_refl _) (by omega) hlc' hA' (by have := vsizeM_wgt ms; omega)
        have hkeys : ∀ p ∈ ms, p.1.size ≤ 1000000 := fun p hp => by
          obtain ⟨i, hi, rfl⟩ := List.getElem_of_mem hp
          exact (hkids i hi (by omega)).1
        have hok : ∀ p ∈ ms, VOk 1000000 p.2 := fun p hp => by
          obtain ⟨i, hi, rfl⟩ := List.getElem_of_mem hp
          exact (hkids i hi (by omega)).2.ok
        have HX := Lib.hid (And.intro hMem (And.intro hkeys (And.intro hok (And.intro hvm (And.intro hb hR)))))
        clear hMem hkeys hok hvm hb hR hk hcl hown hkids hA' hlt
        go_wp2_with fail
        refine HX.out.1.mono ?_
        rintro e W3 ⟨hans, hb3⟩
        obtain ⟨o, ev, rfl, -⟩ := mem_form hans
        have hbw3 : Below w.heap.size w W3 := HX.out.2.2.2.2.1.trans (hb3.mono HX.out.2.2.2.2.1.size)
        have HM := Lib.hid hans
        have HB3 := Lib.hid (And.intro hb3 hbw3)
        clear hans hb3 hbw3
        obtain ⟨ok, oy, on, ot, oa, ola, oca, ob, olb, ocb⟩ := o
        dsimp only [C6.arr] at HM ⊢
        go_wp2_with fail
        obtain ⟨W4, hW4⟩ : ∃ W, W3.alloc (.cells #[.int .i64 ok, .bool oy, .int .i64 on, .string ot, .slice oa ola oca, .slice ob olb ocb] 38) = W := ⟨_, rfl⟩
        rw [hW4]
        have hwx : Whole W4 W3.heap.size 38 #[.int .i64 ok, .bool oy, .int .i64 on, .string ot, .slice oa ola oca, .slice ob olb ocb] := hW4 ▸ Whole.made _ _ _
        have hb4 : Below W3.heap.size W3 W4 := hW4 ▸ (Below.refl _ _).alloc (Nat.le_refl _) _
        have hbw4 : Below w.heap.size w W4 := HB3.out.2.trans (hb4.mono HB3.out.2.size)
        have HB4 := Lib.hid (And.intro hb4 (And.intro hbw4 hwx))
        clear hW4 hb4 hwx
        refine (refmembers_any ms A c B W4 (HS.out.keep (fun p hp => hbw4.cell (Nat.lt_of_lt_of_le hp hB)) (fun _ h => h)) (Nat.le_trans hB hbw4.size) (by omega) hc).mono ?_
        clear hbw4
        rintro e W5 ⟨hr, hb5⟩
        obtain ⟨o', r, vx, vy, rfl, hvx, hvy, hsame, hwx, hcode, htell⟩ := hand_of HX.out.2.1 HX.out.2.2.1 (o := ⟨ok, oy, on, ot, oa, ola, oca, ob, olb, ocb⟩) HM.out hr
        obtain ⟨pk, py, pn, pt, pa, pla, pca, pb, plb, pcb⟩ := o'
        dsimp only [C6.arr] at hvx hvy ⊢
        obtain ⟨ec, hec⟩ : ∃ ec, refCode r = ec := ⟨_, rfl⟩
        obtain ⟨ep, hep⟩ : ∃ ep, refPath r = ep := ⟨_, rfl⟩
        rw [hec, hep]
        have HH := Lib.hid (And.intro hvx (And.intro hvy (And.intro hsame (And.intro hwx (And.intro hcode (And.intro htell (And.intro hb5 (And.intro hec hep))))))))
        clear hr hvx hvy hsame hwx hcode htell hb5 hec hep
        go_wp2_with fail
        obtain ⟨W6, hW6⟩ : ∃ W, (W5.alloc (.cells #[.int .i64 pk, .bool py, .int .i64 pn, .string pt, .slice pa pla pca, .slice pb plb pcb] 25)).alloc (.cells #[.int .i64 ec, .int .i64 (-1), .string ep] 29) = W := ⟨_, rfl⟩
        rw [hW6]
        have hwb : Whole W6 W5.heap.size 25 #[.int .i64 pk, .bool py, .int .i64 pn, .string pt, .slice pa pla pca, .slice pb plb pcb] := hW6 ▸ (Whole.made W5 _ _).alloc _
        have hwc : Whole W6 (W5.heap.size + 1) 29 #[.int .i64 ec, .int .i64 (-1), .string ep] := by
          have := Whole.made (W5.alloc (.cells #[.int .i64 pk, .bool py, .int .i64 pn, .string pt, .slice pa pla pca, .slice pb plb pcb] 25)) 29 #[.int .i64 ec, .int .i64 (-1), .string ep]
          rw [hW6] at this
          simpa using this
        have hb56 : Below W5.heap.size W5 W6 := hW6 ▸ ((Below.refl _ _).alloc (Nat.le_refl _) _).alloc (by simp) _
        have hb46 : Below W4.heap.size W4 W6 := HH.out.2.2.2.2.2.2.1.trans (hb56.mono HH.out.2.2.2.2.2.2.1.size)
        have hb36 : Below W3.heap.size W3 W6 := HB4.out.1.trans (hb46.mono HB4.out.1.size)
        have hbw6 : Below w.heap.size w W6 := HB4.out.2.1.trans (hb46.mono HB4.out.2.1.size)
        have hbr6 : Below wr.heap.size wr W6 := HB3.out.1.trans (hb36.mono HB3.out.1.size)
        have hwa : Whole W6 W3.heap.size 38 #[.int .i64 ok, .bool oy, .int .i64 on, .string ot, .slice oa ola oca, .slice ob olb ocb] := HB4.out.2.2.below hb46 HB4.out.2.2.lt
        obtain ⟨a0, a1, a2, a3, a4, a5⟩ := hwa.six
        obtain ⟨b0, b1, b2, b3, b4, b5⟩ := hwb.six
        obtain ⟨c0, c1, c2⟩ := hwc.three
        have hzA : W3.heap.size < W6.heap.size := hwa.lt
        have hzB : W5.heap.size < W6.heap.size := hwb.lt
        have hzC : W5.heap.size + 1 < W6.heap.size := hwc.lt
        have hvx6 : Val W6 (· < W6.heap.size) 1000000 vx #[.int .i64 ok, .bool oy, .int .i64 on, .string ot, .slice oa ola oca, .slice ob olb ocb] := HH.out.1.keep (fun p hp => hb36.cell hp) (fun b hb => Nat.lt_of_lt_of_le hb hb36.size)
        have hvy6 : Val W6 (· < W6.heap.size) 1000000 vy #[.int .i64 pk, .bool py, .int .i64 pn, .string pt, .slice pa pla pca, .slice pb plb pcb] := HH.out.2.1.keep (fun p hp => hb56.cell hp) (fun b hb => Nat.lt_of_lt_of_le hb hb56.size)
        have HT := Lib.hid (fun W (hW : Below W6.heap.size W6 W) => HH.out.2.2.2.2.2.1 W (hb36.trans (hW.mono hb36.size)) (HV.out.2.2.below (hbw6.trans (hW.mono hbw6.size))))
        unfold TellAns at HT
        rw [HH.out.2.2.2.2.2.2.2.1, HH.out.2.2.2.2.2.2.2.2] at HT
        have hwx := HH.out.2.2.2.1
        have HI := Lib.hid (fun W (hW : Below W6.heap.size W6 W) => isLaw_any vx vy _ _ W.heap.size W (by omega) (val_on hvx6 hW) (val_on hvy6 hW) (Nat.le_refl _))
        rw [HH.out.2.2.1] at HI
        have HCk := Lib.hid (fun W (hW : Below W6.heap.size W6 W) => checkTell_any vx _ W.heap.size W (val_on hvx6 hW) (Nat.le_refl _) (HV.out.2.2.below (hbw6.trans (hW.mono hbw6.size))))
        have hmm : ValM W6 (· < W6.heap.size) 1000000 ms A' 0 := HX.out.2.2.2.1.keep (fun p hp => hbr6.cell hp.2.1) (fun b hb => Nat.lt_of_lt_of_le hb.2.1 hbr6.size)
        have hml : ValM W6 (· < W6.heap.size) 1000000 ms A 0 := HS.out.keep (fun p hp => hbw6.cell (Nat.lt_of_lt_of_le hp hB)) (fun b hb => Nat.lt_of_lt_of_le (Nat.lt_of_lt_of_le hb hB) hbw6.size)
        have hcode := HH.out.2.2.2.2.1
        rw [HH.out.2.2.2.2.2.2.2.1, HX.out.2.2.2.2.2] at hcode
        have H6 := Lib.hid (And.intro hwa (And.intro hwc (And.intro hbw6 (And.intro hmm (And.intro hml hcode)))))
        clear hW6 hwb hwc hwa hb56 hb46 hb36 hbw6 hbr6 hvx6 hvy6 hwx hmm hml hcode HX HM HB3 HB4 HH
        go_region_held3 (fun w' => w'.cell? ⟨W3.heap.size, 0, none⟩ = some (.int .i64 ok) ∧ w'.cell? ⟨W3.heap.size, 1, none⟩ = some (.bool oy) ∧ w'.cell? ⟨W3.heap.size, 2, none⟩ = some (.int .i64 on) ∧ w'.cell? ⟨W3.heap.size, 3, none⟩ = some (.string ot) ∧ w'.cell? ⟨W3.heap.size, 4, none⟩ = some (.slice oa ola oca) ∧ w'.cell? ⟨W3.heap.size, 5, none⟩ = some (.slice ob olb ocb) ∧ w'.cell? ⟨W5.heap.size, 0, none⟩ = some (.int .i64 pk) ∧ w'.cell? ⟨W5.heap.size, 1, none⟩ = some (.bool py) ∧ w'.cell? ⟨W5.heap.size, 2, none⟩ = some (.int .i64 pn) ∧ w'.cell? ⟨W5.heap.size, 3, none⟩ = some (.string pt) ∧ w'.cell? ⟨W5.heap.size, 4, none⟩ = some (.slice pa pla pca) ∧ w'.cell? ⟨W5.heap.size, 5, none⟩ = some (.slice pb plb pcb) ∧ w'.cell? ⟨W5.heap.size + 1, 0, none⟩ = some (.int .i64 ec) ∧ w'.cell? ⟨W5.heap.size + 1, 1, none⟩ = some (.int .i64 (-1)) ∧ w'.cell? ⟨W5.heap.size + 1, 2, none⟩ = some (.string ep))
          (first | (exact ⟨(K8.out.cell hzA).trans a0, (K8.out.cell hzA).trans a1, (K8.out.cell hzA).trans a2, (K8.out.cell hzA).trans a3, (K8.out.cell hzA).trans a4, (K8.out.cell hzA).trans a5, (K8.out.cell hzB).trans b0, (K8.out.cell hzB).trans b1, (K8.out.cell hzB).trans b2, (K8.out.cell hzB).trans b3, (K8.out.cell hzB).trans b4, (K8.out.cell hzB).trans b5, (K8.out.cell hzC).trans c0, (K8.out.cell hzC).trans c1, (K8.out.cell hzC).trans c2⟩) | (exact ⟨(K7.out.cell hzA).trans a0, (K7.out.cell hzA).trans a1, (K7.out.cell hzA).trans a2, (K7.out.cell hzA).trans a3, (K7.out.cell hzA).trans a4, (K7.out.cell hzA).trans a5, (K7.out.cell hzB).trans b0, (K7.out.cell hzB).trans b1, (K7.out.cell hzB).trans b2, (K7.out.cell hzB).trans b3, (K7.out.cell hzB).trans b4, (K7.out.cell hzB).trans b5, (K7.out.cell hzC).trans c0, (K7.out.cell hzC).trans c1, (K7.out.cell hzC).trans c2⟩) | (go_keep; done))
          (first
            | (go_at_call 11; refine (HT.out _ ?_).mono ?_; (first | exact Below.refl _ _ | exact (Below.refl _ _).drew); rintro e W7 ⟨rfl, hb⟩
               have k7 : Below W6.heap.size W6 W7 := by first | exact hb | exact ((Below.refl W6.heap.size W6).drew).trans hb
               have K7 := Lib.hid k7
               clear hb k7)
            | (go_at_call 22; refine (HI.out _ K7.out).mono ?_; rintro e W8 ⟨rfl, hb⟩
               have K8 := Lib.hid (K7.out.trans (hb.mono K7.out.size))
               clear hb))
        clear a0 a1 a2 a3 a4 a5 b0 b1 b2 b3 b4 b5 c0 c1 c2 HT HI
        go_wp2_with fail
        go_loopg [74] ms.length (LkRel W8 ms.length)
        case atStart => exact ⟨0, by simp, rfl, Below.refl _ _⟩
        case round =>
          obtain ⟨j, hk, rfl, hb⟩ := hrel
          have hbr : Below W6.heap.size W6 wr := K8.out.trans (hb.mono K8.out.size)
          by_cases hlt : j < ms.length
          · obtain ⟨b, off, cs, rfl, hbB, hsM, hkc, hc', hx⟩ := H6.out.2.2.2.2.1.get j hlt
            obtain ⟨b', off', cs', rfl, hbB', hsM', hkc', hc'', hx'⟩ := H6.out.2.2.2.1.get j hlt
            obtain ⟨cj, rfl⟩ := hx.c6
            obtain ⟨ks, hks⟩ : ∃ ks, ms[j].1 = ks := ⟨_, rfl⟩
            rw [hks] at hkc hkc'
            have hck : wr.cell? ⟨b, off + j * 7, none⟩ = some (.string ks) := by
              rw [hbr.cell (p := ⟨b, off + j * 7, none⟩) hbB]
              simpa using hkc
            have hck' : wr.cell? ⟨b', off' + j * 7, none⟩ = some (.string ks) := by
              rw [hbr.cell (p := ⟨b', off' + j * 7, none⟩) hbB']
              simpa using hkc'
            have hcj : ∀ q, q < 6 → wr.cell? ⟨b, off + j * 7 + (1 + q), none⟩ = cj.arr[q]? := fun q hq => by
              rw [hbr.cell (p := ⟨b, off + j * 7 + (1 + q), none⟩) hbB]
              simpa using hc' q hq
            obtain ⟨xk, x0, x1, x2, x3, x4, x5⟩ := cells7 hck hcj rfl
            have hb'r : b' < wr.heap.size := Nat.lt_of_lt_of_le hbB' hbr.size
            have hb'n : b' ≠ wr.heap.size := by omega
            have hjl : (j : Int) < (ms.length : Int) := by omega
            have hnk : (ks.toList == ks.toList) = true := by simp
            have HZ := Lib.hid hb
            clear hb hbr hks hkc hkc' hc' hc'' hx hx' hck hcj
            obtain ⟨jk, jy, jn, jt, ja, jla, jca, jb, jlb, jcb⟩ := cj
            dsimp only at x0 x1 x2 x3 x4 x5
            go_wp2_with fail
            obtain ⟨W, hWd⟩ : ∃ W, wr.alloc (.cells #[.string ks, .int .i64 jk, .bool jy, .int .i64 jn, .string jt, .slice ja jla jca, .slice jb jlb jcb] 56) = W := ⟨_, rfl⟩
            rw [hWd]
            have hWb : Below wr.heap.size wr W := hWd ▸ (Below.refl _ _).alloc (Nat.le_refl _) _
            have zk : W.cell? ⟨wr.heap.size, 0, none⟩ = some (.string ks) := by rw [← hWd]; simp
            have zp := (hWb.cell (p := ⟨b', off' + j * 7, none⟩) hb'r).trans hck'
            have HW := Lib.hid hWb
            clear hWd hWb xk x0 x1 x2 x3 x4 x5 hck'
            go_quiet (fail)
            go_wp2_with fail
            go_roundg (ms.length - (j + 1))
            case rel => exact ⟨j + 1, by omega, by go_num, below_drewN (HZ.out.trans (HW.out.mono HZ.out.size)) _⟩
            case measure => omega
          · have HZ := Lib.hid (And.intro hb hbr)
            obtain ⟨a0, a1, a2, a3, a4, a5⟩ := (H6.out.1.below hbr H6.out.1.lt).six
            clear hb hbr
            have hcode := H6.out.2.2.2.2.2
            obtain ⟨r2, hr2⟩ : ∃ r2, chk 20 vx = r2 := ⟨_, rfl⟩
            rw [hr2] at HCk hcode
            obtain ⟨cd, hcd⟩ : ∃ cd, refCode r2 = cd := ⟨_, rfl⟩
            obtain ⟨cp, hcp⟩ : ∃ cp, refPath r2 = cp := ⟨_, rfl⟩
            rw [hcd] at hcode
            have hfld := fun W => run_field cd (-1) cp W
            have HCo := Lib.hid hcode
            have HCd := Lib.hid (And.intro hcd hcp)
            clear hcode hr2 hcd hcp
            unfold CheckTell TellAns at HCk
            rw [HCd.out.1, HCd.out.2] at HCk
            go_wp2_with fail
            refine (HCk.out wr HZ.out.2).mono ?_
            rintro e W9 ⟨x, rfl, hb9, htl⟩
            have HT9 := Lib.hid htl
            have K9 := Lib.hid (HZ.out.2.trans (hb9.mono HZ.out.2.size))
            clear hb9 htl
            go_wp2_with fail
            refine (HT9.out W9 (Below.refl _ _)).mono ?_
            rintro e W10 ⟨rfl, hb10⟩
            have K10 := Lib.hid (K9.out.trans (hb10.mono K9.out.size))
            obtain ⟨c0, c1, c2⟩ := (H6.out.2.1.below K10.out H6.out.2.1.lt).three
            have hzE : W5.heap.size + 1 < W10.heap.size := lt_of_cell c0
            clear hb10 a0 a1 a2 a3 a4 a5
            have hend : Below w.heap.size w W10 := H6.out.2.2.1.trans (K10.out.mono H6.out.2.2.1.size)
            have HE := Lib.hid hend
            clear hend
            by_cases e0 : ec = 0
            · subst e0
              have e0' : ((0 : Int) != 0) = false := rfl
              cases R with
              | false =>
                go_wp2_with fail
                go_ret
                exact ⟨rfl, HE.out⟩
              | true =>
                by_cases d0 : cd = 0
                · subst d0
                  have d0' : ((0 : Int) == 0) = true := rfl
                  go_wp2_with fail
                  go_ret
                  exact ⟨rfl, HE.out⟩
                · have d0' : (cd == 0) = false := beq_eq_false_iff_ne.2 d0
                  have d3 : cd = 3 := by
                    rcases HCo.out with h | h | h | h
                    · exact absurd rfl h
                    · cases h
                    · exact absurd h d0
                    · exact h
                  subst d3
                  have d3' : ((3 : Int) == 3) = true := rfl
                  go_wp2_with fail
                  go_ret
                  exact ⟨rfl, HE.out⟩
            · have e0' : (ec != 0) = true := by simpa using e0
              go_wp2_with fail
              go_ret
              exact ⟨rfl, HE.out⟩
  · have hdec : decide (1 + wgtM ms ≤ 300) = false := decide_eq_false h300
    rw [hdec] at HF
    clear hdec h300
    go_enter Tryd.func6, Tryd.ntmps6
    go_wp2_with fail
    refine (awake_any w HV.out.2.2).mono ?_
    rintro e W1 ⟨rfl, hb1⟩
    have HB1 := Lib.hid hb1
    clear hb1
    go_wp2_with fail
    refine (HF.out W1 HB1.out).mono ?_
    rintro e W2 ⟨rfl, hb2⟩
    have HB2 := Lib.hid (HB1.out.trans (hb2.mono HB1.out.size))
    clear hb2
    go_wp2_with fail
    refine (awake_any W2 (HV.out.2.2.below HB2.out)).mono ?_
    rintro e W3 ⟨rfl, hb3⟩
    go_wp2_with fail
    go_ret
    exact ⟨rfl, HB2.out.trans (hb3.mono HB2.out.size)⟩
end Go.Proofs.YtdpohklklmkjbaaDoor

namespace Go.Proofs.YtdpohklklmkjbaaDoor.valueMembers
open Go.ChangeShapes Go.WideShapes Go.ChangeAt Go.RowKit Go.Lib
set_option linter.unusedVariables false
set_option linter.unusedSimpArgs false

set_option maxRecDepth 100000 in
/-- What the form's reading of a row of members gives. -/
theorem open_Ms {H : Type} {enc : TypeId × Value → H} {W : World} {M K n : Nat} {v5 : Value} {x5 : DataW H × List MemPlace} (g5 : DataW.trod enc Tryd.prog W 0 (fun _ => true) true n 23 [v5] = some x5) (hk5 : Rows.uptoBulk x5.1 ≤ K) (hKM : K ≤ M) :
    ∃ (A : Option Addr) (l : List (ByteArray × V)) (c : Nat), v5 = .slice A l.length c ∧ l.length ≤ c ∧ (A = none → c = 0) ∧ ValM W (· < W.heap.size) M l A 0 ∧ l.length ≤ M ∧ wgtM l + 1 ≤ Rows.uptoBulk x5.1 := by
  rcases Go.Deep.open_slice Tryd.underlying23 g5 with ⟨e, rfl⟩ | ⟨a, len, cap, mm, n', D, Pl, e, -, hl, hc, hmm, rfl, hx⟩
  · simp only [List.cons.injEq, and_true] at e
    exact ⟨none, [], 0, e, by simp, fun _ => rfl, by rw [ValM]; trivial, by simp, by simp [wgtM, Rows.uptoBulk]⟩
  · simp only [List.cons.injEq, and_true] at e
    simp only [if_true] at hmm
    obtain rfl : mm = cap := hmm
    simp only [Rows.uptoBulk] at hk5 ⊢
    have hlen := bulkAll_len ((List.range len).map D)
    simp only [List.length_map, List.length_range] at hlen
    obtain ⟨b, off, spot⟩ := a
    by_cases h0 : len = 0
    · subst h0
      exact ⟨some ⟨b, off, spot⟩, [], mm, e, by simp, (fun h => by cases h), by rw [ValM]; trivial, by simp, by simp [wgtM, Rows.uptoBulkAll]⟩
    · have hspot : spot = none := by
        obtain ⟨cs', h1, -⟩ := hx 0 (by omega)
        rw [cM] at h1
        have := (World.cells?_some h1).2.2 0 (by omega)
        have hl6 := (World.cells?_some h1).2.1
        rw [List.getElem?_eq_getElem (by omega)] at this
        simpa [Addr.add] using World.cell?_spot this
      subst hspot
      obtain ⟨l, hll, hvl, hwl⟩ := map_of (W := W) (M := M) (b := b) (off := off) D len 0 (fun i _ hi => by
        obtain ⟨cs', h1, h2⟩ := hx i (by omega)
        rw [cM] at h1
        obtain ⟨-, hl7, hcell⟩ := World.cells?_some h1
        have hmem : D i ∈ (List.range len).map D := List.mem_map.2 ⟨i, List.mem_range.2 (by omega), rfl⟩
        have hbd := bulkAll_mem hmem
        obtain ⟨zs, n2, -, hz, hzl, hzn, hzf⟩ := DataW.trod_struct Tryd.underlying56 h2
        match zs, hzn, cs', hl7 with
        | [z0, z1], _, [u0, u1, u2, u3, u4, u5, u6], _ =>
        have q0 : DataW.trod enc Tryd.prog W 0 (fun _ => true) true n2 9 (([u0, u1, u2, u3, u4, u5, u6].drop 0).take (Tryd.prog.cellsOf 9)) = some z0 := hzf 0 _ rfl
        have q1 : DataW.trod enc Tryd.prog W 0 (fun _ => true) true n2 25 (([u0, u1, u2, u3, u4, u5, u6].drop 1).take (Tryd.prog.cellsOf 25)) = some z1 := hzf 1 _ rfl
        simp only [cStr, cV, List.drop_zero, List.drop_succ_cons, List.take_succ_cons, List.take_zero] at q0 q1
        obtain ⟨s, es, rfl, -⟩ := DataW.trod_string Tryd.underlying9 q0
        simp only [List.cons.injEq, and_true] at es
        subst es
        simp only [List.map_cons, List.map_nil, Prod.mk.injEq] at hz
        rw [hz.1] at hbd ⊢
        simp only [Rows.uptoBulk, Rows.uptoBulkAll] at hbd ⊢
        have hsl : s.data.toList.length = s.size := by rw [Array.length_toList]; rfl
        rw [hsl] at hbd ⊢
        obtain ⟨v, c, hcs, hv, hw⟩ := open_V (M := M) K n2 _ z1 q1 (by omega) hKM
        refine ⟨s, v, c, ?_, by omega, ?_, fun j hj => ?_, hv, by omega⟩
        · have := hcell 0 (by omega)
          have := World.block_lt_of_cell? W _ this
          simpa [block_add] using this
        · have := hcell 0 (by omega)
          rw [add_plain, add_plain] at this
          simpa using this
        · have := hcell (1 + j) (by omega)
          rw [add_plain, add_plain] at this
          rw [this, C6.arr_get, ← hcs, Nat.add_comm 1 j]
          rfl)
      have ez : (fun i => D (0 + i)) = D := funext fun i => by rw [Nat.zero_add]
      rw [ez] at hwl
      exact ⟨some ⟨b, off, none⟩, l, mm, by rw [hll]; exact e, by omega, (fun h => by cases h), hvl, by omega, by omega⟩

theorem laidOut : laidOutB Tryd.prog = true := by kernel_rfl

set_option maxRecDepth 100000 in
/-- What the walk gives, for every argument of that bulk and every world that holds the variables. -/
theorem contract (H : Type) (enc : TypeId × Value → H) (W : World) (base : Nat) (args : Array Value) (ds gs : List (DataW H)) (before : List MemPlace)
    (hval : ∀ (j : Nat) t v, Tryd.f6.params[j]? = some t → args[j]? = some v → Value.okWide Tryd.prog W .any base t v)
    (hW : DataW.Whole enc Tryd.prog Tryd.f6.params.toList Rows.valueMembersSpec.vars false W args.toList ds gs before) (hL : laidMetH Tryd.prog Rows.valueMembersRow.laid W) (hk : Rows.uptoBulkAll (ds ++ gs) ≤ 1048576) :
    Calls Tryd.prog 6 args W fun e W' => ∃ v, e = .returned v ∧ Rows.valueMembersSpec.post enc Tryd.prog Tryd.f6 false true false false W args v W' := by
  have hG : Glob W := glob_of_laid hL
  have hW' := hW
  obtain ⟨p, q, hA0, hV, rfl, hfz, hnd⟩ := hW
  have hA : DataW.TrodAll enc Tryd.prog W 0 (fun _ => true) true Tryd.f6.params.toList args.toList ds p := hA0
  rw [Tryd.params6] at hA hval
  obtain ⟨v0, d0, rfl, rfl, h0⟩ := trodAll_one hA
  obtain ⟨rfl, rfl⟩ := trodVars_none hV
  obtain ⟨A0, len0, cap0, rfl⟩ := okWide_slice Tryd.underlying23 (hval 0 23 v0 rfl rfl)
  have h0k := h0
  obtain ⟨fuel, hf⟩ := h0
  clear hA0
  simp only [List.append_nil] at hW' hk
  have hk1 : Rows.uptoBulk d0 ≤ 1048576 := by simpa [Rows.uptoBulkAll] using hk
  obtain ⟨A, ms, c, hc, hlc, hAc, hv, hlM, hw⟩ := open_Ms (M := 1048576) (K := 1048576) hf hk1 (Nat.le_refl _)
  injection hc with e1 e2 e3
  subst e1 e2 e3
  have hlt : ∀ x ∈ p, x.block < W.heap.size := fun x hx => by simpa using hW'.lt x hx
  have e1 : Rows.valueMembersSpec.fn H ([d0] ++ []) = { results := [.lit (.bool true)], args := [d0] } := rfl
  have fin : ∀ (W' : World), Below W.heap.size W W' → Rows.valueMembersSpec.post enc Tryd.prog Tryd.f6 false true false false W #[.slice A0 ms.length cap0] (.bool true) W' := by
    intro W' hnx
    refine ⟨_, _, _, [], p, [], hW', ?_, ?_, by rw [e1]; rfl, hnx.frame _, fun h => by cases h⟩
    · rw [e1]; exact trodAll_mk1 (shut_bool Tryd.underlying4 true)
    · rw [e1]; exact trodAll_mk1 (Below.trod laidOut (by kernel_rfl) (of_decide_eq_true (by kernel_rfl)) h0k hnx hlt)
  refine (lawMembers_any ms A0 cap0 W.heap.size 1048576 W (by omega) (by have : Rows.uptoBulk (d0, p).1 = Rows.uptoBulk d0 := rfl; omega) hv hlM hlc hAc (Nat.le_refl _) hG).mono fun e W' ⟨he, hb⟩ => ?_
  subst he
  exact ⟨_, rfl, fin W' hb⟩

theorem reads (os : Os) {H : Type} (enc : TypeId × Value → H) : ∃ places, DataW.whole enc Tryd.prog ((laidWorld os).forCall (fun _ _ => 0) ⟨#[], #[.slice none 0 0], []⟩).memory Tryd.f6.params.toList Rows.valueMembersSpec.vars false #[Value.slice none 0 0].toList 8 = some ([.nil], [], places) :=
  ⟨[], by kernel_rfl⟩

set_option maxRecDepth 100000 in
theorem lifted (os : Os) (started : os.Started) (H : Type) (enc : TypeId × Value → H) (F : Stop.Interp) :
    ReturnsInHanded {} Tryd.checked os 6 .any ((Rows.OpenSpec.upto Rows.valueMembersSpec).preRow enc Tryd.prog Tryd.f6 Rows.valueMembersUptoRow.domain false Rows.valueMembersUptoRow.laid) (((Rows.OpenSpec.upto Rows.valueMembersSpec).at F).post enc Tryd.prog Tryd.f6 false true false false) := by
  obtain ⟨places, hx⟩ := reads os enc
  refine returnsInHanded_of_row (C := Tryd.checked) (s := Rows.OpenSpec.upto Rows.valueMembersSpec) own started (by kernel_rfl) Tryd.func6
    (witness_row_at (enc := enc) (C := Tryd.checked) false (laidWorld os) #[.slice none 0 0] rfl (by kernel_rfl) (by kernel_rfl) (by kernel_rfl)
      (OpenSpec.preRow_of_cond 8 hx (by kernel_rfl) (fun k hk => by cases hk; kernel_rfl) (by kernel_rfl) (laid_met os _))) ?_
  intro W base args ds gs before hval hW _ hcond _ hL _ _
  refine contract H enc W base args ds gs before hval hW hL ?_
  have h := of_decide_eq_true (hcond _ rfl)
  exact h

theorem said : Rows.ValueMembersUptoSaid :=
  OpenClaim.holds_of_cond 6 Tryd.f6 rfl rfl rfl rfl rfl rfl rfl ⟨rfl, rfl, rfl, rfl, rfl⟩ rfl rfl rfl rfl rfl (by kernel_rfl) Tryd.func6 (by kernel_rfl)
    (of_decide_eq_true (by kernel_rfl)) (by unfold Func.isWrapper; first | (rw [if_pos (by decide +kernel)]; kernel_rfl) | (rw [if_neg (by decide +kernel)]; exact ⟨rfl, rfl⟩))
    (fun os started H enc _ F => by rw [OpenClaim.pre_eq_preRow]; exact lifted os started H enc F)

theorem plain (f : FuncId) (fn : Func) (hf : Tryd.pinned.checked.prog.funcNamed "enfilade/enfiladelaw01.ValueMembers" = some f) (hfn : Tryd.pinned.checked.prog.funcs[f]? = some fn) :
    true = Tryd.pinned.checked.prog.looks [] ∧ ∀ (j : Nat) t, fn.params[j]? = some t → Tryd.pinned.checked.prog.wantsStandIn t = false := by
  obtain rfl : f = 6 := Option.some.inj ((show Tryd.prog.funcNamed "enfilade/enfiladelaw01.ValueMembers" = some 6 by kernel_rfl).symm.trans hf) |>.symm
  obtain rfl : fn = Tryd.f6 := (Option.some.inj (Tryd.func6.symm.trans hfn)).symm
  refine ⟨by kernel_rfl, fun j t ht => ?_⟩
  rw [Tryd.params6] at ht
  obtain rfl : t = 23 := by simpa using Array.mem_of_getElem? ht
  exact (show Tryd.prog.wantsStandIn 23 = false by kernel_rfl)

theorem card : Rows.ValueMembersUptoCardSaid :=
  Claim7.holds_tied_plain_at .later [] _ _ _ _ said (fun _ h => by cases h) (by kernel_rfl) (fun _ h => by cases h) valueMembersUpto_row_tie rfl ⟨rfl, rfl⟩ (by kernel_rfl) rfl plain (by kernel_rfl)
end Go.Proofs.YtdpohklklmkjbaaDoor.valueMembers
namespace Go.Proofs.YtdpohklklmkjbaaDoor
theorem valueMembers_card : Rows.ValueMembersUptoCardSaid := valueMembers.card
end Go.Proofs.YtdpohklklmkjbaaDoor
