/-
  Proved: the statement of the law ValueAsks (of any value how deep and how many it is, a key's value and a copy are the document's, and a copy's memory is its own), in its second form. Conditions: those of the given row alone (the arguments are of bulk at most 1048576; the listed package variables hold what their initialisers lay).
-/
import Derived.Test.YtbjgelkckmfjeaaDoorEach2
import Derived.Test.YtbjgelkckmfjeaaDoorEachD
import Derived.Test.YtbjgelkckmfjeaaDoorReal2
import Derived.Test.YtbjgelkckmfjeaaDoorReal3
import Derived.Test.YtbjgelkckmfjeaaDoorOpen1
import Derived.Carry
import Derived.Deep.DeepWitnessRowRef
import Derived.SizedLaws
import Derived.ChangeMaps5
namespace Go.Proofs.YtbjgelkckmfjeaaDoor
open Go.RowKit Go.Lib
set_option linter.unusedVariables false
set_option linter.unusedSimpArgs false

set_option maxRecDepth 100000 in
set_option maxHeartbeats 4000000 in
theorem eachS_any (step : Int → Nat → Nat → Nat) (tot : Nat → List (V × Nat) → Nat) (hT : Tot step tot) (g : Nat) (hL : Looks 44 g step) (v : V) (cs : Array Value) (B : Nat) (w : World) (hv : Val w (· < B) 1000000 v cs) (hB : B ≤ g) (hg : g < w.heap.size) (hsz : vsize v ≤ 1000000) (hc : w.cell? ⟨g, 0, none⟩ = some (.int .i64 (0 : Nat))) (hf : w.frozen? ⟨g, 0, none⟩ = false) (htot : tot 0 [(v, 0)] ≤ 1000000) :
    Calls Tryd.prog 42 #[.agg cs, .func (Fn.func 44) #[] #[.pointer (some ⟨g, 0, none⟩)]] w fun e w' => e = .returned (.tuple #[]) ∧ w'.cell? ⟨g, 0, none⟩ = some (.int .i64 (tot 0 [(v, 0)] : Nat)) ∧ w'.frozen? ⟨g, 0, none⟩ = false ∧ Only g w w' := by
  obtain ⟨c, rfl⟩ := hv.c6
  obtain ⟨i0, hi, hz0, hz1, hz2⟩ := info_parts info_Nested
  obtain ⟨T, hTT⟩ : ∃ T, tot 0 [(v, 0)] = T := ⟨_, rfl⟩
  rw [hTT] at htot ⊢
  have HT := Lib.hid (And.intro hT (And.intro hTT (And.intro hv (And.intro hc hf))))
  have HL := Lib.hid hL
  clear hT hL hTT hv hc hf
  obtain ⟨jk, jy, jn, jt, ja, jla, jca, jb, jlb, jcb⟩ := c
  dsimp only [C6.arr]
  go_enter Tryd.func42, Tryd.ntmps42
  go_wp2_with fail
  go_loopg [4] (vsize v) (EachRel w B g tot T)
  case atStart =>
    obtain ⟨hT, hTT, hv, hc, hf⟩ := HT.out
    have hb : Below w.heap.size w ((w.alloc (.cells #[.int .i64 jk, .bool jy, .int .i64 jn, .string jt, .slice ja jla jca, .slice jb jlb jcb] 38)).alloc (.cells #[.int .i64 jk, .bool jy, .int .i64 jn, .string jt, .slice ja jla jca, .slice jb jlb jcb, .int .i64 0] 117)) := ((Below.refl _ _).alloc (Nat.le_refl _) _).alloc (by simp) _
    refine ⟨[((v, ⟨jk, jy, jn, jt, ja, jla, jca, jb, jlb, jcb⟩), 0)], 0, ⟨?_, fun p hp => by obtain rfl := List.mem_singleton.1 hp; exact hv, fun p hp => by obtain rfl := List.mem_singleton.1 hp; simpa using hsz, (hb.cell hg).trans hc, (hb.frozen hg).trans hf, (Only.refl g w).step hb⟩, hTT, by simp [nSize, nodeV], hsz⟩
    have := World.ownsRow_lit (base := w.heap.size + 1) (e := 117) (size := 7) (w.alloc (.cells #[.int .i64 jk, .bool jy, .int .i64 jn, .string jt, .slice ja jla jca, .slice jb jlb jcb] 38)) #[.int .i64 jk, .bool jy, .int .i64 jn, .string jt, .slice ja jla jca, .slice jb jlb jcb, .int .i64 0] 1 (by simp) (by unfold maxLen; omega) rfl
    simpa [node7, C6.cells] using this
  case round =>
    obtain ⟨st, acc, hW, htt, hk, hk1⟩ := hrel
    rcases nil_or_snoc st with rfl | ⟨st', ⟨⟨x, oc⟩, a⟩, rfl⟩
    · have hv0 : ∃ aa c', u4 = .slice aa 0 c' := by
        rcases Go.Joins.ownsRow_forms hW.own with ⟨rfl, _⟩ | ⟨g', cap, rfl⟩ <;> exact ⟨_, _, rfl⟩
      have HX := Lib.hid (And.intro hW htt)
      clear hW htt hk
      obtain ⟨aa, c', rfl⟩ := hv0
      go_wp2_with fail
      obtain ⟨hW, htt⟩ := HX.out
      have hacc : acc = T := by rw [← htt]; exact (HT.out.1.base acc).symm
      refine bodyPost_end (v := .tuple #[]) (by simp [results, Tryd.results42]) rfl ⟨rfl, ?_, hW.frz, hW.only⟩
      rw [← hacc]; exact hW.cell
    · obtain ⟨gO, cap, rfl, hgO, hgOl⟩ := hW.own.form (by simp)
      have hlen : (st' ++ [((x, oc), a)]).length = st'.length + 1 := by simp
      have hcap : st'.length + 1 ≤ cap := by
        rcases hW.own.2 with ⟨e, _⟩ | ⟨g', cap', cur, e, _, _, hnc, _⟩
        · cases e
        · injection e with e1 e2 e3; rw [e3]; simpa using hnc
      have hcell : ∀ q, q < 7 → wr.cell? ⟨gO, st'.length * 7 + q, none⟩ = (node7 ((x, oc), a))[q]? := fun q hq => by
        rw [hW.own.cellAt (st'.length * 7 + q) (by simp; omega), flat_get node7 7 node7_len _ _ _ (by simp) hq]
        simp
      have hstl := nSize_len ((st' ++ [((x, oc), a)]).map nodeV)
      rw [hk, List.length_map] at hstl
      have hvx := hW.vals ((x, oc), a) (by simp)
      have hax := hW.abt ((x, oc), a) (by simp)
      have hle := HT.out.1.le acc ((st' ++ [((x, oc), a)]).map nodeV)
      rw [htt] at hle
      rw [hlen] at hW hstl ⊢
      have hk2 : nSize (st'.map nodeV) + vsize x = gk := by rw [← hk, List.map_append, nSize_append]; simp [nSize, nodeV]
      have htt2 : tot acc (st'.map nodeV ++ [(x, a)]) = T := by rw [← htt, List.map_append]; rfl
      have hokk : oc.k = x.kind := by
        cases x with
        | mk k y m t l mp =>
        dsimp only at hvx
        rw [Val] at hvx
        obtain ⟨A, c1, A', c2, e, -⟩ := hvx
        have := congrArg (fun a => a[0]?) e
        simp [C6.arr] at this
        exact this
      obtain ⟨pk, py, pn, pt, pa, pla, pca, pb, plb, pcb⟩ := oc
      have c0 : wr.cell? ⟨gO, st'.length * 7, none⟩ = some (.int .i64 pk) := hcell 0 (by omega)
      have c1 : wr.cell? ⟨gO, st'.length * 7 + 1, none⟩ = some (.bool py) := hcell 1 (by omega)
      have c2 : wr.cell? ⟨gO, st'.length * 7 + 2, none⟩ = some (.int .i64 pn) := hcell 2 (by omega)
      have c3 : wr.cell? ⟨gO, st'.length * 7 + 3, none⟩ = some (.string pt) := hcell 3 (by omega)
      have c4 : wr.cell? ⟨gO, st'.length * 7 + 4, none⟩ = some (.slice pa pla pca) := hcell 4 (by omega)
      have c5 : wr.cell? ⟨gO, st'.length * 7 + 5, none⟩ = some (.slice pb plb pcb) := hcell 5 (by omega)
      have c6 : wr.cell? ⟨gO, st'.length * 7 + 6, none⟩ = some (.int .i64 a) := hcell 6 (by omega)
      dsimp only at hvx hax hokk
      have hgr : g < wr.heap.size := lt_of_cell hW.cell
      have hcall := HL.out ⟨pk, py, pn, pt, pa, pla, pca, pb, plb, pcb⟩ a acc (wr.alloc (.cells #[.int .i64 pk, .bool py, .int .i64 pn, .string pt, .slice pa pla pca, .slice pb plb pcb, .int .i64 a] 117)) ((World.cell?_alloc_lt _ _ _ hgr).trans hW.cell) ((World.frozen?_alloc_old _ _ _ (Nat.ne_of_lt hgr)).trans hW.frz) (by omega) (by omega)
      dsimp only [C6.arr] at hcall
      have HX := Lib.hid (And.intro hW (And.intro hvx (And.intro hk2 (And.intro htt2 (And.intro hcall hokk)))))
      clear hW hvx hk2 htt2 hcall hcell hlen hk htt hokk hle
      go_wp2_with fail
      refine HX.out.2.2.2.2.1.mono ?_
      rintro e W2 ⟨rfl, hc2, hf2, ho2⟩
      have hW2 : Wait w B g st' (.slice (some ⟨gO, 0, none⟩) st'.length cap) (step pk a acc) W2 := (HX.out.1.pop hg _).shown hg ho2 hc2 hf2
      have hN2 : Whole W2 wr.heap.size 117 #[.int .i64 pk, .bool py, .int .i64 pn, .string pt, .slice pa pla pca, .slice pb plb pcb, .int .i64 a] := (ho2.2.1 wr.heap.size (by simp) (by omega)).trans (Whole.made wr _ _)
      cases x with
      | mk k y m t l mp =>
      have hokk := HX.out.2.2.2.2.2
      simp only [V.kind] at hokk
      subst hokk
      have hvx := HX.out.2.1
      rw [Val] at hvx
      obtain ⟨A1, c1', A2, c2', e6, ⟨h1c, h2c, ht, hl, hm, -, -⟩, hvl, hvm⟩ := hvx
      simp only [C6.arr, Array.mk.injEq, List.cons.injEq, Value.int.injEq, Value.bool.injEq, Value.string.injEq, Value.slice.injEq, true_and, and_true] at e6
      obtain ⟨rfl, rfl, rfl, ⟨rfl, rfl, rfl⟩, rfl, rfl, rfl⟩ := e6
      by_cases k4 : pk = 4
      · subst k4
        have HV := Lib.hid hvl
        have hpx : parts (.mk 4 py pn pt l mp) = l := by simp [parts]
        have d0 := hN2.cell 0
        have d4 := hN2.cell 4
        simp at d0 d4
        have HY := Lib.hid (And.intro hW2 (And.intro hN2 hpx))
        have hzN : wr.heap.size < W2.heap.size := hN2.lt
        have hax2 : a + 1 + vsizeL l ≤ 1000000 := by rw [vsize_parts, hpx] at hax; omega
        have hgk : st'.length + vsizeL l + 1 ≤ 1000000 := by
          have h1 := HX.out.2.2.1
          have h2 := nSize_len (st'.map nodeV)
          rw [vsize_parts, hpx] at h1
          rw [List.length_map] at h2
          omega
        clear hW2 hN2 hc2 hf2 ho2 hpx hvl hvm c0 c1 c2 c3 c4 c5 c6 hax hstl
        go_wp2_with fail
        obtain ⟨wo, rfl⟩ : ∃ wo : World, wo = wr := ⟨_, rfl⟩
        go_loopg [4, 42] l.length (InE w B g wo.heap.size st' l a (step 4 a acc) #[.int .i64 4, .bool py, .int .i64 pn, .string pt, .slice pa l.length pca, .slice pb mp.length pcb, .int .i64 a])
        case atStart => exact ⟨0, _, [], by simp, rfl, rfl, rfl, HY.out.2.1, by simp [Value.ownBlock]; omega, by simpa using HY.out.1⟩
        case round =>
          clear d0 d4
          obtain ⟨j, ov2, ns, hk, rfl, rfl, hns, hN, hng, hWj⟩ := hrel
          
          have d6 := hN.cell 6
          simp at d6
          have hzN2 : wo.heap.size < wr.heap.size := hN.lt
          have hv0 : ∃ aa n' c', ov2 = .slice aa n' c' := by
            rcases Go.Joins.ownsRow_forms hWj.own with ⟨e, _⟩ | ⟨g', cap', e⟩ <;> exact ⟨_, _, _, e⟩
          by_cases hlt : j < l.length
          · have hltP : j < (l).length := by simpa using hlt
            have hnl : ns.length = j := by
              have := congrArg List.length hns
              rw [List.length_map, List.length_map, List.length_take, Nat.min_eq_left (Nat.le_of_lt hltP)] at this
              exact this
            have hpj : l[j]'hltP = (l[j]'hlt) := rfl
            have hvj := vsizeL_mem (List.getElem_mem hltP)
            have hvl2 := vsizeL_len l
            rw [hpj] at hvj
            obtain ⟨b, off, cs, rfl, hbB, hcc, hx⟩ := HV.out.get j hlt
            obtain ⟨cj, rfl⟩ := hx.c6
            have hcj : ∀ q, q < 6 → wr.cell? ⟨b, off + j * 6 + q, none⟩ = cj.arr[q]? := fun q hq => (hWj.only.cell (p := ⟨b, off + j * 6 + q, none⟩) (show b < w.heap.size by omega) (show b ≠ g by omega)).trans (by simpa using hcc q hq)
            obtain ⟨x0, x1, x2, x3, x4, x5⟩ := cells6 hcj rfl
            have hj1 : (j : Int) < (l.length : Int) := by omega
            have haj : a + 1 + vsize (l[j]'hlt) ≤ 1000000 := by omega
            have hlb : (st' ++ ns).length + 1 ≤ 1000000 := by rw [List.length_append, hnl]; omega
            have hzw : w.heap.size ≤ wr.heap.size := hWj.only.1
            have HZ := Lib.hid (And.intro hk (And.intro hns (And.intro hN (And.intro hng (And.intro hWj (And.intro hx haj))))))
            clear hk hns hN hng hWj hx hcj hcc hvj hvl2 hnl hpj haj hltP
            obtain ⟨qk, qy, qn, qt, qa, qla, qca, qb, qlb, qcb⟩ := cj
            dsimp only [C6.arr] at x0 x1 x2 x3 x4 x5
            obtain ⟨aa, n', c', rfl⟩ := hv0
            go_wp2_with (first
              | (at_builtin; refine wpList_append_lies _ rfl _ _ 118 rfl (w.heap.size + 1) 117 i0 (.agg #[.int .i64 0, .bool false, .int .i64 0, .string ⟨#[]⟩, .slice none 0 0, .slice none 0 0, .int .i64 0]) 7 96 Tryd.underlying118 hi hz0 hz1 hz2 rfl (by decide) _ _ _ rfl ((HZ.out.2.2.2.2.1.own.alloc _).alloc _) ⟨wr.heap.size + 1, 0, none⟩ 1 1 [.int .i64 qk, .bool qy, .int .i64 qn, .string qt, .slice qa qla qca, .slice qb qlb qcb, .int .i64 ((a : Int) + 1)] rfl rfl (by simpa using cells_new (wr.alloc (.cells _ _)) #[.int .i64 qk, .bool qy, .int .i64 qn, .string qt, .slice qa qla qca, .slice qb qlb qcb, .int .i64 ((a : Int) + 1)] 117) (fun x hx => by simp at hx; rcases hx with rfl | rfl | rfl | rfl | rfl | rfl | rfl <;> rfl) (by omega) (by unfold maxLen; omega) (by omega) (by simp; omega) (wr.heap.size + 2) (by simp) ?_; intro g2 cap2 w3 hown' hgrow3 hat3 hlt3
                 have HG := Lib.hid (And.intro hown' (And.intro hgrow3 (And.intro hat3 hlt3)))
                 clear hown' hgrow3 hat3))
            go_roundg (l.length - (j + 1))
            case rel =>
              obtain ⟨hk, hns, hN, hng, hWj, hx, haj⟩ := HZ.out
              obtain ⟨hown', hgrow3, hat3, hlt3'⟩ := HG.out
              have hltP : j < (l).length := by simpa using hlt
              refine ⟨j + 1, _, ns ++ [(((l[j]'hlt), ⟨qk, qy, qn, qt, qa, qla, qca, qb, qlb, qcb⟩), a + 1)], by first | omega | (simp; omega), by go_num, rfl, ?_, ((hN.alloc _).alloc _).grown hgrow3 (fun e => hng e.symm), ?_, ?_⟩
              · rw [List.map_append, hns, List.take_succ_eq_append_getElem hltP, List.map_append]
                simp [nodeV]
              · intro e
                simp only [Value.ownBlock, Option.some.injEq] at e
                rcases hat3 with h | h
                · exact hng (Eq.trans h (congrArg some e))
                · omega
              · rw [← List.append_assoc]
                refine hWj.push hg hx haj ?_ hgrow3
                have hn7 : ∀ y : V, node7 ((y, ⟨qk, qy, qn, qt, qa, qla, qca, qb, qlb, qcb⟩), a + 1) = [.int .i64 qk, .bool qy, .int .i64 qn, .string qt, .slice qa qla qca, .slice qb qlb qcb, .int .i64 ((a : Int) + 1)] := fun y => by simp [node7, C6.cells]
                have h9 := hown'
                rw [List.length_append] at h9 ⊢
                rw [hn7]
                exact h9
            case measure => have := HZ.out.1; omega
          · have hjl : j = l.length := by omega
            subst hjl
            have HZ := Lib.hid (And.intro hns hWj)
            clear hns hN hng hWj hk hlt
            obtain ⟨aa, n', c', rfl⟩ := hv0
            go_wp2_with fail
            go_roundg (nSize (st'.map nodeV) + vsizeL l)
            case rel =>
              obtain ⟨hns, hWj⟩ := HZ.out
              rw [List.take_of_length_le (by simp)] at hns
              have h1 := HT.out.1.step acc (st'.map nodeV) (.mk 4 py pn pt l mp) a
              rw [HX.out.2.2.2.1, kidsOf, HY.out.2.2] at h1
              refine ⟨st' ++ ns, _, hWj, ?_, ?_, ?_⟩
              · rw [List.map_append, hns, ← h1]; rfl
              · rw [List.map_append, nSize_append, hns, nSize_kidsL]
              · have h2 := HX.out.2.2.1
                rw [vsize_parts, HY.out.2.2] at h2
                omega
            case measure =>
              have h2 := HX.out.2.2.1
              rw [vsize_parts, HY.out.2.2] at h2
              omega
      by_cases k5 : pk = 5
      · subst k5
        have HV := Lib.hid hvm
        have hpx : parts (.mk 5 py pn pt l mp) = (mp.map (·.2)) := by simp [parts]
        have d0 := hN2.cell 0
        have d5 := hN2.cell 5
        simp at d0 d5
        have HY := Lib.hid (And.intro hW2 (And.intro hN2 hpx))
        have hzN : wr.heap.size < W2.heap.size := hN2.lt
        have hax2 : a + 1 + vsizeL (mp.map (·.2)) ≤ 1000000 := by rw [vsize_parts, hpx] at hax; omega
        have hgk : st'.length + vsizeL (mp.map (·.2)) + 1 ≤ 1000000 := by
          have h1 := HX.out.2.2.1
          have h2 := nSize_len (st'.map nodeV)
          rw [vsize_parts, hpx] at h1
          rw [List.length_map] at h2
          omega
        clear hW2 hN2 hc2 hf2 ho2 hpx hvl hvm c0 c1 c2 c3 c4 c5 c6 hax hstl
        go_wp2_with fail
        obtain ⟨wo, rfl⟩ : ∃ wo : World, wo = wr := ⟨_, rfl⟩
        go_loopg [4, 61] mp.length (InE w B g wo.heap.size st' (mp.map (·.2)) a (step 5 a acc) #[.int .i64 5, .bool py, .int .i64 pn, .string pt, .slice pa l.length pca, .slice pb mp.length pcb, .int .i64 a])
        case atStart => exact ⟨0, _, [], by simp, rfl, rfl, rfl, HY.out.2.1, by simp [Value.ownBlock]; omega, by simpa using HY.out.1⟩
        case round =>
          clear d0 d5
          obtain ⟨j, ov2, ns, hk, rfl, rfl, hns, hN, hng, hWj⟩ := hrel
          simp only [List.length_map] at hk
          have d6 := hN.cell 6
          simp at d6
          have hzN2 : wo.heap.size < wr.heap.size := hN.lt
          have hv0 : ∃ aa n' c', ov2 = .slice aa n' c' := by
            rcases Go.Joins.ownsRow_forms hWj.own with ⟨e, _⟩ | ⟨g', cap', e⟩ <;> exact ⟨_, _, _, e⟩
          by_cases hlt : j < mp.length
          · have hltP : j < ((mp.map (·.2))).length := by simpa using hlt
            have hnl : ns.length = j := by
              have := congrArg List.length hns
              rw [List.length_map, List.length_map, List.length_take, Nat.min_eq_left (Nat.le_of_lt hltP)] at this
              exact this
            have hpj : (mp.map (·.2))[j] = mp[j].2 := by simp
            have hvj := vsizeL_mem (List.getElem_mem hltP)
            have hvl2 := vsizeL_len (mp.map (·.2))
            rw [hpj] at hvj
            obtain ⟨b, off, cs, rfl, hbB, hsM, hkc, hcc, hx⟩ := HV.out.get j hlt
            obtain ⟨cj, rfl⟩ := hx.c6
            obtain ⟨ks, hks⟩ : ∃ ks, mp[j].1 = ks := ⟨_, rfl⟩
            rw [hks] at hkc
            have hck : wr.cell? ⟨b, off + j * 7, none⟩ = some (.string ks) := (hWj.only.cell (p := ⟨b, off + j * 7, none⟩) (show b < w.heap.size by omega) (show b ≠ g by omega)).trans (by simpa using hkc)
            have hcj : ∀ q, q < 6 → wr.cell? ⟨b, off + j * 7 + (1 + q), none⟩ = cj.arr[q]? := fun q hq => (hWj.only.cell (p := ⟨b, off + j * 7 + (1 + q), none⟩) (show b < w.heap.size by omega) (show b ≠ g by omega)).trans (by simpa using hcc q hq)
            obtain ⟨xk, x0, x1, x2, x3, x4, x5⟩ := cells7 hck hcj rfl
            clear hks hkc hck hsM
            have hj1 : (j : Int) < (mp.length : Int) := by omega
            have haj : a + 1 + vsize mp[j].2 ≤ 1000000 := by omega
            have hlb : (st' ++ ns).length + 1 ≤ 1000000 := by rw [List.length_append, hnl]; omega
            have hzw : w.heap.size ≤ wr.heap.size := hWj.only.1
            have HZ := Lib.hid (And.intro hk (And.intro hns (And.intro hN (And.intro hng (And.intro hWj (And.intro hx haj))))))
            clear hk hns hN hng hWj hx hcj hcc hvj hvl2 hnl hpj haj hltP
            obtain ⟨qk, qy, qn, qt, qa, qla, qca, qb, qlb, qcb⟩ := cj
            dsimp only [C6.arr] at x0 x1 x2 x3 x4 x5
            obtain ⟨aa, n', c', rfl⟩ := hv0
            go_wp2_with (first
              | (at_builtin; refine wpList_append_lies _ rfl _ _ 118 rfl (w.heap.size + 1) 117 i0 (.agg #[.int .i64 0, .bool false, .int .i64 0, .string ⟨#[]⟩, .slice none 0 0, .slice none 0 0, .int .i64 0]) 7 96 Tryd.underlying118 hi hz0 hz1 hz2 rfl (by decide) _ _ _ rfl ((HZ.out.2.2.2.2.1.own.alloc _).alloc _) ⟨wr.heap.size + 1, 0, none⟩ 1 1 [.int .i64 qk, .bool qy, .int .i64 qn, .string qt, .slice qa qla qca, .slice qb qlb qcb, .int .i64 ((a : Int) + 1)] rfl rfl (by simpa using cells_new (wr.alloc (.cells _ _)) #[.int .i64 qk, .bool qy, .int .i64 qn, .string qt, .slice qa qla qca, .slice qb qlb qcb, .int .i64 ((a : Int) + 1)] 117) (fun x hx => by simp at hx; rcases hx with rfl | rfl | rfl | rfl | rfl | rfl | rfl <;> rfl) (by omega) (by unfold maxLen; omega) (by omega) (by simp; omega) (wr.heap.size + 2) (by simp) ?_; intro g2 cap2 w3 hown' hgrow3 hat3 hlt3
                 have HG := Lib.hid (And.intro hown' (And.intro hgrow3 (And.intro hat3 hlt3)))
                 clear hown' hgrow3 hat3))
            go_roundg (mp.length - (j + 1))
            case rel =>
              obtain ⟨hk, hns, hN, hng, hWj, hx, haj⟩ := HZ.out
              obtain ⟨hown', hgrow3, hat3, hlt3'⟩ := HG.out
              have hltP : j < ((mp.map (·.2))).length := by simpa using hlt
              refine ⟨j + 1, _, ns ++ [((mp[j].2, ⟨qk, qy, qn, qt, qa, qla, qca, qb, qlb, qcb⟩), a + 1)], by first | omega | (simp; omega), by go_num, rfl, ?_, ((hN.alloc _).alloc _).grown hgrow3 (fun e => hng e.symm), ?_, ?_⟩
              · rw [List.map_append, hns, List.take_succ_eq_append_getElem hltP, List.map_append]
                simp [nodeV]
              · intro e
                simp only [Value.ownBlock, Option.some.injEq] at e
                rcases hat3 with h | h
                · exact hng (Eq.trans h (congrArg some e))
                · omega
              · rw [← List.append_assoc]
                refine hWj.push hg hx haj ?_ hgrow3
                have hn7 : ∀ y : V, node7 ((y, ⟨qk, qy, qn, qt, qa, qla, qca, qb, qlb, qcb⟩), a + 1) = [.int .i64 qk, .bool qy, .int .i64 qn, .string qt, .slice qa qla qca, .slice qb qlb qcb, .int .i64 ((a : Int) + 1)] := fun y => by simp [node7, C6.cells]
                have h9 := hown'
                rw [List.length_append] at h9 ⊢
                rw [hn7]
                exact h9
            case measure => have := HZ.out.1; omega
          · have hjl : j = mp.length := by omega
            subst hjl
            have HZ := Lib.hid (And.intro hns hWj)
            clear hns hN hng hWj hk hlt
            obtain ⟨aa, n', c', rfl⟩ := hv0
            go_wp2_with fail
            go_roundg (nSize (st'.map nodeV) + vsizeL (mp.map (·.2)))
            case rel =>
              obtain ⟨hns, hWj⟩ := HZ.out
              rw [List.take_of_length_le (by simp)] at hns
              have h1 := HT.out.1.step acc (st'.map nodeV) (.mk 5 py pn pt l mp) a
              rw [HX.out.2.2.2.1, kidsOf, HY.out.2.2] at h1
              refine ⟨st' ++ ns, _, hWj, ?_, ?_, ?_⟩
              · rw [List.map_append, hns, ← h1]; rfl
              · rw [List.map_append, nSize_append, hns, nSize_kidsL]
              · have h2 := HX.out.2.2.1
                rw [vsize_parts, HY.out.2.2] at h2
                omega
            case measure =>
              have h2 := HX.out.2.2.1
              rw [vsize_parts, HY.out.2.2] at h2
              omega
      · have e4 : (pk == 4) = false := beq_eq_false_iff_ne.2 k4
        have e5 : (pk == 5) = false := beq_eq_false_iff_ne.2 k5
        have hpn := parts_none (.mk pk py pn pt l mp) (by simp only [V.kind]; omega)
        have d0 := hN2.cell 0
        simp at d0
        have HY := Lib.hid (And.intro hW2 hpn)
        clear hW2 hN2 hc2 hf2 ho2 hpn hvl hvm c0 c1 c2 c3 c4 c5 c6 k4 k5
        go_wp2_with fail
        go_roundg (nSize (st'.map nodeV))
        case rel =>
          refine ⟨st', _, HY.out.1, ?_, rfl, by have := HX.out.2.2.1; omega⟩
          have h1 := HT.out.1.step acc (st'.map nodeV) (.mk pk py pn pt l mp) a
          rw [HX.out.2.2.2.1] at h1
          rw [← h1, kidsOf, HY.out.2]
          simp [V.kind]
        case measure => have := HX.out.2.2.1; have := vsize_pos (.mk pk py pn pt l mp); omega
end Go.Proofs.YtbjgelkckmfjeaaDoor

namespace Go.Proofs.YtbjgelkckmfjeaaDoor
open Go.RowKit Go.Lib
set_option linter.unusedVariables false
set_option linter.unusedSimpArgs false

/-- Only a block of the call's own has changed: all that was there is as it was. -/
theorem Only.below {w W W' : World} {g : Nat} (h : Only g W W') (hb : Below w.heap.size w W) (hg : w.heap.size ≤ g) : Below w.heap.size w W' := h.2.2 _ _ hb hg hb.size

set_option maxRecDepth 100000 in
set_option maxHeartbeats 1000000 in
theorem Depth_any (v : V) (cs : Array Value) (B : Nat) (w : World) (hv : Val w (· < B) 1000000 v cs) (hB : B ≤ w.heap.size) (hsz : vsize v ≤ 1000000) (hd : dep v ≤ 1000000) :
    Calls Tryd.prog 19 #[.agg cs] w fun e w' => e = .returned (.int .i64 (dep v : Nat)) ∧ Below w.heap.size w w' := by
  have htot : totD 0 [(v, 0)] = dep v := by
    simp only [totD, deepOf]
    by_cases hk : v.kind = 4 ∨ v.kind = 5
    · rw [if_pos hk]; omega
    · rw [if_neg hk, dep_none v hk]; omega
  obtain ⟨c, rfl⟩ := hv.c6
  obtain ⟨jk, jy, jn, jt, ja, jla, jca, jb, jlb, jcb⟩ := c
  dsimp only [C6.arr] at hv ⊢
  obtain ⟨W, hW⟩ : ∃ W, (w.alloc (.cells #[.int .i64 jk, .bool jy, .int .i64 jn, .string jt, .slice ja jla jca, .slice jb jlb jcb] 38)).alloc (.cells #[.int .i64 0] 3) = W := ⟨_, rfl⟩
  have hbW : Below w.heap.size w W := hW ▸ ((Below.refl _ _).alloc (Nat.le_refl _) _).alloc (by simp) _
  have hWh : Whole W (w.heap.size + 1) 3 #[.int .i64 0] := by
    have := Whole.made (w.alloc (.cells #[.int .i64 jk, .bool jy, .int .i64 jn, .string jt, .slice ja jla jca, .slice jb jlb jcb] 38)) 3 #[.int .i64 0]
    rw [hW] at this
    simpa using this
  have hcall := eachD_any stepD totD tot_depth (w.heap.size + 1) (depth1_any _) v _ B W (hv.keep (fun p hp => hbW.cell (Nat.lt_of_lt_of_le hp hB)) (fun _ h => h)) (by omega) hWh.lt hsz (hWh.cell 0) (hWh.frozen 0) (by rw [htot]; exact hd)
  rw [htot] at hcall
  have HC := Lib.hid (And.intro hcall (And.intro hbW hW))
  clear hcall hbW hW hWh hv htot
  go_enter Tryd.func19, Tryd.ntmps19
  go_wp2_with fail
  rw [HC.out.2.2]
  refine HC.out.1.mono ?_
  rintro e W2 ⟨rfl, hc, hf, ho⟩
  go_wp2_with fail
  go_ret
  exact ⟨rfl, ho.below HC.out.2.1 (by omega)⟩

set_option maxRecDepth 100000 in
set_option maxHeartbeats 1000000 in
theorem Size_any (v : V) (cs : Array Value) (B : Nat) (w : World) (hv : Val w (· < B) 1000000 v cs) (hB : B ≤ w.heap.size) (hsz : vsize v ≤ 1000000) :
    Calls Tryd.prog 21 #[.agg cs] w fun e w' => e = .returned (.int .i64 (vsize v : Nat)) ∧ Below w.heap.size w w' := by
  have htot : totS 0 [(v, 0)] = vsize v := by simp [totS, nSize]
  obtain ⟨c, rfl⟩ := hv.c6
  obtain ⟨jk, jy, jn, jt, ja, jla, jca, jb, jlb, jcb⟩ := c
  dsimp only [C6.arr] at hv ⊢
  obtain ⟨W, hW⟩ : ∃ W, (w.alloc (.cells #[.int .i64 jk, .bool jy, .int .i64 jn, .string jt, .slice ja jla jca, .slice jb jlb jcb] 38)).alloc (.cells #[.int .i64 0] 3) = W := ⟨_, rfl⟩
  have hbW : Below w.heap.size w W := hW ▸ ((Below.refl _ _).alloc (Nat.le_refl _) _).alloc (by simp) _
  have hWh : Whole W (w.heap.size + 1) 3 #[.int .i64 0] := by
    have := Whole.made (w.alloc (.cells #[.int .i64 jk, .bool jy, .int .i64 jn, .string jt, .slice ja jla jca, .slice jb jlb jcb] 38)) 3 #[.int .i64 0]
    rw [hW] at this
    simpa using this
  have hcall := eachS_any stepS totS tot_size (w.heap.size + 1) (size1_any _) v _ B W (hv.keep (fun p hp => hbW.cell (Nat.lt_of_lt_of_le hp hB)) (fun _ h => h)) (by omega) hWh.lt hsz (hWh.cell 0) (hWh.frozen 0) (by rw [htot]; exact hsz)
  rw [htot] at hcall
  have HC := Lib.hid (And.intro hcall (And.intro hbW hW))
  clear hcall hbW hW hWh hv htot
  go_enter Tryd.func21, Tryd.ntmps21
  go_wp2_with fail
  rw [HC.out.2.2]
  refine HC.out.1.mono ?_
  rintro e W2 ⟨rfl, hc, hf, ho⟩
  go_wp2_with fail
  go_ret
  exact ⟨rfl, ho.below HC.out.2.1 (by omega)⟩
end Go.Proofs.YtbjgelkckmfjeaaDoor

namespace Go.Proofs.YtbjgelkckmfjeaaDoor
open Go.RowKit Go.Lib
set_option linter.unusedVariables false
set_option linter.unusedSimpArgs false

def getM (key : ByteArray) : List (ByteArray × V) → Option V
  | [] => none
  | (s, v) :: r => if s.toList == key.toList then some v else getM key r
def getV (v : V) (key : ByteArray) : Option V := if v.kind = 5 then getM key v.mp else none
def GetAns (r : Option V) (w : World) (e : Ending) (w' : World) : Prop :=
  Below w.heap.size w w' ∧ ((r = none ∧ e = .returned (.tuple #[.agg zero6, .bool false])) ∨ ∃ (x : V) (o : C6), r = some x ∧ e = .returned (.tuple #[.agg o.arr, .bool true]) ∧ Val w' (fun b => w.heap.size ≤ b ∧ b < w'.heap.size) 1000000 (canon x) o.arr)
def GetRel (w : World) (key : ByteArray) (m : List (ByteArray × V)) (k : Nat) (i : Value) (wr : World) : Prop :=
  ∃ j : Nat, j + k = m.length ∧ i = .int .i64 j ∧ Whole wr (w.heap.size + 1) 38 zero6 ∧ getM key (m.drop j) = getM key m ∧ Below w.heap.size w wr
theorem vsizeM_mem {x : ByteArray × V} : ∀ {l : List (ByteArray × V)}, x ∈ l → vsize x.2 ≤ vsizeM l
  | (s, v) :: r, h => by
    rw [vsizeM]
    rcases List.mem_cons.1 h with rfl | h
    · dsimp only; omega
    · have := vsizeM_mem h; omega

set_option maxRecDepth 100000 in
set_option maxHeartbeats 4000000 in
theorem Get_any (v : V) (key : ByteArray) (cs : Array Value) (B : Nat) (w : World) (hv : Val w (· < B) 1000000 v cs) (hB : B ≤ w.heap.size) (hsz : vsize v ≤ 1000000) :
    Calls Tryd.prog 16 #[.agg cs, .string key] w (GetAns (getV v key) w) := by
  cases v with
  | mk k y n t l m =>
  rw [Val] at hv
  obtain ⟨A1, c1, A2, c2, rfl, ⟨h1c, h2c, ht, hl, hm, hn1, hn2⟩, hvl, hvm⟩ := hv
  by_cases k5 : k = 5
  · subst k5
    have hg : getV (.mk 5 y n t l m) key = getM key m := by simp [getV, V.kind, V.mp]
    rw [hg]
    obtain ⟨R, hR⟩ : ∃ R, getM key m = R := ⟨_, rfl⟩
    rw [hR]
    have hsm : vsizeM m ≤ 1000000 := by rw [vsize, if_neg (by omega), if_pos rfl] at hsz; omega
    have HV := Lib.hid (And.intro hvm (And.intro hR hsm))
    clear hvl hvm hg hR hsz hsm
    go_enter Tryd.func16, Tryd.ntmps16
    go_wp2_with fail
    go_loopg [15] m.length (GetRel w key m)
    case atStart =>
      refine ⟨0, by simp, rfl, ?_, rfl, ((Below.refl _ _).alloc (Nat.le_refl _) _).alloc (by simp) _⟩
      have := Whole.made (w.alloc (.cells #[.int .i64 5, .bool y, .int .i64 n, .string t, .slice A1 l.length c1, .slice A2 m.length c2] 38)) 38 zero6
      simpa [zero6] using this
    case round =>
      obtain ⟨j, hk, rfl, hres, hrest, hb⟩ := hrel
      have hz : w.heap.size + 1 < wr.heap.size := hres.lt
      by_cases hlt : j < m.length
      · obtain ⟨b, off, cs, rfl, hbB, hsM, hkc, hc, hx⟩ := HV.out.1.get j hlt
        obtain ⟨cj, rfl⟩ := hx.c6
        obtain ⟨s, hs⟩ : ∃ s, m[j].1 = s := ⟨_, rfl⟩
        rw [hs] at hkc
        have hck : wr.cell? ⟨b, off + j * 7, none⟩ = some (.string s) := (hb.cell (p := ⟨b, off + j * 7, none⟩) (by simp; omega)).trans (by simpa using hkc)
        have hcj : ∀ q, q < 6 → wr.cell? ⟨b, off + j * 7 + (1 + q), none⟩ = cj.arr[q]? := fun q hq => (hb.cell (p := ⟨b, off + j * 7 + (1 + q), none⟩) (by simp; omega)).trans (by simpa using hc q hq)
        obtain ⟨xk, x0, x1, x2, x3, x4, x5⟩ := cells7 hck hcj rfl
        have hj1 : (j : Int) < (m.length : Int) := by omega
        have hdrop : getM key (m.drop j) = if s.toList == key.toList then some m[j].2 else getM key (m.drop (j + 1)) := by
          rw [List.drop_eq_getElem_cons hlt]
          show getM key ((m[j].1, m[j].2) :: _) = _
          rw [getM, hs]
        have hvj := vsizeM_mem (List.getElem_mem hlt)
        have hcall := fun W (hW : Below w.heap.size w W) => Copy_any m[j].2 cj.arr B W (hx.keep (fun p hp => hW.cell (Nat.lt_of_lt_of_le hp hB)) (fun _ h => h)) (Nat.le_trans hB hW.size) (by have := HV.out.2.2; omega)
        have HX := Lib.hid (And.intro hk (And.intro hres (And.intro hrest (And.intro hb (And.intro hdrop hcall)))))
        cases hsk : (s.toList == key.toList)
        · clear hk hres hrest hb hcall hcj hc hx hck hkc hvj hdrop hs hsM
          obtain ⟨qk, qy, qn, qt, qa, qla, qca, qb, qlb, qcb⟩ := cj
          dsimp only [C6.arr] at x0 x1 x2 x3 x4 x5
          go_wp2_with fail
          go_roundg (m.length - (j + 1))
          case rel =>
            obtain ⟨hk, hres, hrest, hb, hdrop, -⟩ := HX.out
            refine ⟨j + 1, by omega, by go_num, hres.alloc _, ?_, hb.alloc hb.size _⟩
            rw [← hrest, hdrop, hsk]; rfl
          case measure => have := HX.out.1; omega
        · have f0 := hres.frozen 0
          have f1 := hres.frozen 1
          have f2 := hres.frozen 2
          have f3 := hres.frozen 3
          have f4 := hres.frozen 4
          have f5 := hres.frozen 5
          have hbz := hb.size
          clear hk hrest hcall hcj hc hx hck hkc hvj hdrop hs hsM
          obtain ⟨qk, qy, qn, qt, qa, qla, qca, qb, qlb, qcb⟩ := cj
          dsimp only [C6.arr] at x0 x1 x2 x3 x4 x5 HX
          go_wp2_with fail
          refine (HX.out.2.2.2.2.2 _ (hb.alloc hbz _)).mono ?_
          rintro e W2 ⟨⟨o, rfl, ho⟩, hb2⟩
          have hb3 : Below wr.heap.size wr W2 := ((Below.refl _ _).alloc (Nat.le_refl _) _).trans (hb2.mono (by simp))
          have hres2 := hres.below hb3 hres.lt
          obtain ⟨a0, a1, a2, a3, a4, a5⟩ := Whole.six hres2
          have g0 := hres2.frozen 0
          have g1 := hres2.frozen 1
          have g2 := hres2.frozen 2
          have g3 := hres2.frozen 3
          have g4 := hres2.frozen 4
          have g5 := hres2.frozen 5
          have hz2 : w.heap.size + 1 < W2.heap.size := hres2.lt
          have HO := Lib.hid (And.intro ho (And.intro hb2 (hb.trans (hb3.mono hbz))))
          clear ho hb2 hb3 hres hres2 hb f0 f1 f2 f3 f4 f5 x0 x1 x2 x3 x4 x5 xk
          obtain ⟨ok, oy, on_, ot, oa, ola, oca, ob, olb, ocb⟩ := o
          dsimp only [C6.arr] at HO ⊢
          go_wp2_with fail
          refine bodyPost_ret (v := .tuple #[.agg (C6.arr ⟨ok, oy, on_, ot, oa, ola, oca, ob, olb, ocb⟩), .bool true]) (by simp [results, Tryd.results16, go_sem, a0, a1, a2, a3, a4, a5, C6.arr]) rfl ⟨?_, .inr ⟨m[j].2, ⟨ok, oy, on_, ot, oa, ola, oca, ob, olb, ocb⟩, ?_, rfl, ?_⟩⟩
          · have hbw := HO.out.2.2
            exact (((((hbw.setCell (by simp) _).setCell (by simp) _).setCell (by simp) _).setCell (by simp) _).setCell (by simp) _).setCell (by simp) _
          · rw [← HV.out.2.1, ← HX.out.2.2.1, HX.out.2.2.2.2.1, hsk]; rfl
          · obtain ⟨ho, hb2, hbw⟩ := HO.out
            refine Val.keep (fun p hp => World.cell?_of_block ?_) (fun b hb => ?_) ho
            · have h1 := hp.1
              simp at h1
              have hne : p.block ≠ w.heap.size + 1 := by omega
              exact (Below.heap_setCell _ _ _ _ hne).trans ((Below.heap_setCell _ _ _ _ hne).trans ((Below.heap_setCell _ _ _ _ hne).trans ((Below.heap_setCell _ _ _ _ hne).trans ((Below.heap_setCell _ _ _ _ hne).trans (Below.heap_setCell _ _ _ _ hne)))))
            · have h1 := hb.1
              simp at h1
              exact ⟨by omega, by have := hb.2; simpa using this⟩
      · have hjl : j = m.length := by omega
        subst hjl
        obtain ⟨a0, a1, a2, a3, a4, a5⟩ := Whole.six hres
        have g0 := hres.frozen 0
        have g1 := hres.frozen 1
        have g2 := hres.frozen 2
        have g3 := hres.frozen 3
        have g4 := hres.frozen 4
        have g5 := hres.frozen 5
        have HX := Lib.hid (And.intro hrest hb)
        clear hres hrest hb hk
        go_wp2_with fail
        refine bodyPost_ret (v := .tuple #[.agg zero6, .bool false]) (by simp [results, Tryd.results16, go_sem, a0, a1, a2, a3, a4, a5, zero6]) rfl ⟨?_, .inl ⟨?_, rfl⟩⟩
        · have hbw := HX.out.2
          exact (((((hbw.setCell (by simp) _).setCell (by simp) _).setCell (by simp) _).setCell (by simp) _).setCell (by simp) _).setCell (by simp) _
        · rw [← HV.out.2.1, ← HX.out.1, List.drop_of_length_le (Nat.le_refl _)]; rfl
  · have hg : getV (.mk k y n t l m) key = none := by simp [getV, V.kind, k5]
    rw [hg]
    have e5 : (k != 5) = true := by simpa using k5
    clear hvl hvm hg k5
    go_enter Tryd.func16, Tryd.ntmps16
    go_wp2_with fail
    refine bodyPost_ret (v := .tuple #[.agg zero6, .bool false]) (by simp [results, Tryd.results16, go_sem, zero6]) rfl ⟨?_, .inl ⟨rfl, rfl⟩⟩
    repeat (first | exact Below.refl _ _ | refine Below.setCell ?_ (by simp <;> omega) _ | refine Below.alloc ?_ (by simp <;> omega) _)
end Go.Proofs.YtbjgelkckmfjeaaDoor

namespace Go.Proofs.YtbjgelkckmfjeaaDoor
open Go.RowKit Go.Lib Go.Shelf Go.Sort
set_option linter.unusedVariables false
set_option linter.unusedSimpArgs false

def NoRel (W : World) (k : Nat) (i : Value) (wr : World) : Prop := i = .int .i64 0 ∧ W = wr

set_option maxRecDepth 100000 in
set_option maxHeartbeats 4000000 in
theorem Members_none (A : Option Addr) (c : Nat) (w : World) (hA : A = none → c = 0) :
    Calls Tryd.prog 28 #[.slice A 0 c] w fun e w' => MemAns w w' [] e ∧ Below w.heap.size w w' := by
  have hval : Val w (· < w.heap.size) 1000000 (.mk 5 false 0 ⟨#[]⟩ [] []) #[.int .i64 5, .bool false, .int .i64 0, .string ⟨#[]⟩, .slice none 0 0, .slice A 0 c] := by
    rw [Val]
    exact ⟨none, 0, A, c, by simp, ⟨by simp, by simp, by simp [ByteArray.size], by simp, by simp, fun _ => rfl, hA⟩, by rw [ValL]; trivial, by rw [ValM]; trivial⟩
  have HV := Lib.hid hval
  clear hval
  go_enter Tryd.func28, Tryd.ntmps28
  go_wp2_with fail
  refine (Copy_made _ _ w.heap.size _ (HV.out.keep (fun p hp => Below.cell ((Below.refl w.heap.size w).alloc (Nat.le_refl _) _) hp) (fun _ h => h)) (by simp) (by simp [vsize, vsizeM])).mono ?_
  rintro e W1 ⟨⟨o, rfl, hm⟩, hb1⟩
  obtain ⟨b, cap, rfl, hbn⟩ := hm.empty
  have hzA : (w.alloc (.cells zero6 38)).heap.size = w.heap.size + 1 := by simp
  have hb1' : Below (w.heap.size + 1) (w.alloc (.cells zero6 38)) W1 := hzA ▸ hb1
  have hres : Whole W1 w.heap.size 38 zero6 := (Whole.made w _ _).below hb1' (by omega)
  have hz1 : w.heap.size + 1 ≤ W1.heap.size := by have := hb1'.size; omega
  have hbw : Below w.heap.size w W1 := ((Below.refl w.heap.size w).alloc (Nat.le_refl _) _).trans (hb1'.mono (by omega))
  have HX := Lib.hid (And.intro hres (And.intro hbw hbn))
  clear hm hb1 hb1' hres hbw hbn hzA HV
  simp only [C6.arr]
  go_wp2_with fail
  obtain ⟨W2, hW2⟩ : ∃ W2, W1.alloc (.cells #[.int .i64 5, .bool false, .int .i64 0, .string ⟨#[]⟩, .slice none 0 0, .slice b 0 cap] 38) = W2 := ⟨_, rfl⟩
  rw [hW2]
  have hbW2 : Below W1.heap.size W1 W2 := hW2 ▸ (Below.refl _ _).alloc (Nat.le_refl _) _
  have hr2 := HX.out.1.below hbW2 HX.out.1.lt
  have h42 : Whole W2 W1.heap.size 38 #[.int .i64 5, .bool false, .int .i64 0, .string ⟨#[]⟩, .slice none 0 0, .slice b 0 cap] := hW2 ▸ Whole.made _ _ _
  obtain ⟨a0, a1, a2, a3, a4, a5⟩ := Whole.six hr2
  obtain ⟨b0, b1, b2, b3, b4, b5⟩ := h42.six
  have f0 := hr2.frozen 0
  have f1 := hr2.frozen 1
  have f2 := hr2.frozen 2
  have f3 := hr2.frozen 3
  have f4 := hr2.frozen 4
  have f5 := hr2.frozen 5
  have hz2 : w.heap.size < W2.heap.size := hr2.lt
  have hz3 : W1.heap.size < W2.heap.size := h42.lt
  have HB := Lib.hid (HX.out.2.1.trans (hbW2.mono HX.out.2.1.size))
  clear hW2 hbW2 hr2 h42
  refine (sort_none b cap W2).mono ?_
  rintro e W3 ⟨rfl, rfl⟩
  go_wp2_with fail
  go_loopg [16] 0 (NoRel W2)
  case atStart => exact ⟨rfl, rfl⟩
  case round =>
    obtain ⟨rfl, rfl⟩ := hrel
    go_wp2_with fail
    obtain ⟨W4, hW4⟩ : ∃ W4, put6 W2 w.heap.size 0 ⟨5, false, 0, ⟨#[]⟩, none, 0, 0, b, 0, cap⟩ = W4 := ⟨_, rfl⟩
    have hW4' := hW4
    unfold put6 at hW4'
    simp only [Nat.zero_add] at hW4'
    rw [hW4']
    obtain ⟨m0, m1, m2, m3, m4, m5⟩ : W4.cell? ⟨w.heap.size, 0, none⟩ = some (.int .i64 5) ∧ W4.cell? ⟨w.heap.size, 1, none⟩ = some (.bool false) ∧ W4.cell? ⟨w.heap.size, 2, none⟩ = some (.int .i64 0) ∧ W4.cell? ⟨w.heap.size, 3, none⟩ = some (.string ⟨#[]⟩) ∧ W4.cell? ⟨w.heap.size, 4, none⟩ = some (.slice none 0 0) ∧ W4.cell? ⟨w.heap.size, 5, none⟩ = some (.slice b 0 cap) := by
      rw [← hW4']
      simp [go_sem, a0, a1, a2, a3, a4, a5]
    clear hW4'
    refine bodyPost_ret (v := .tuple #[.agg #[.int .i64 5, .bool false, .int .i64 0, .string ⟨#[]⟩, .slice none 0 0, .slice b 0 cap], .nilIface]) (by simp [results, Tryd.results28, go_sem, m0, m1, m2, m3, m4, m5]) rfl ⟨?_, ?_⟩
    · refine ⟨[], by simp [canonM], fun i j hi hj hij => by simp at hi, .inl ⟨⟨5, false, 0, ⟨#[]⟩, none, 0, 0, b, 0, cap⟩, rfl, fun i h => by simp at h, ?_⟩⟩
      rw [Val]
      exact ⟨none, 0, b, cap, by simp [C6.arr], ⟨by simp, by simp, by simp [ByteArray.size], by simp, by simp, fun _ => rfl, HX.out.2.2⟩, by rw [ValL]; trivial, by rw [ValM]; trivial⟩
    · rw [← hW4]; exact below_put6 HB.out w.heap.size 0 ⟨5, false, 0, ⟨#[]⟩, none, 0, 0, b, 0, cap⟩ (Nat.le_refl _)

theorem Members_any (ms : List (ByteArray × V)) (A : Option Addr) (c B : Nat) (w : World) (hv : ValM w (· < B) 1000000 ms A 0) (hB : B ≤ w.heap.size) (hl : ms.length ≤ 1000000) (hc : ms.length ≤ c) (hA : A = none → c = 0) (hsz : vsizeM ms ≤ 900000000) :
    Calls Tryd.prog 28 #[.slice A ms.length c] w fun e w' => MemAns w w' ms e ∧ Below w.heap.size w w' := by
  by_cases hne : ms = []
  · subst hne
    exact Members_none A c w hA
  · exact Members_some ms A c B w hv hB hl hc hA hsz hne
end Go.Proofs.YtbjgelkckmfjeaaDoor

namespace Go.Proofs.YtbjgelkckmfjeaaDoor
open Go.RowKit Go.Lib
set_option linter.unusedVariables false
set_option linter.unusedSimpArgs false

theorem vsizeL_take : ∀ (l : List V) (j : Nat) (h : j < l.length), vsizeL (l.take (j + 1)) = vsizeL (l.take j) + vsize l[j]
  | v :: r, 0, h => by simp [vsizeL]
  | v :: r, j + 1, h => by
    have := vsizeL_take r j (by simpa using h)
    simp only [List.take_succ_cons, vsizeL, List.getElem_cons_succ] at *
    omega
theorem vsizeL_le : ∀ (l : List V) (j : Nat), vsizeL (l.take j) ≤ vsizeL l
  | [], j => by simp [vsizeL]
  | v :: r, 0 => by simp [vsizeL]
  | v :: r, j + 1 => by have := vsizeL_le r j; simp only [List.take_succ_cons, vsizeL]; omega
def RSzRel (w : World) (l : List V) (k : Nat) (n i : Value) (wr : World) : Prop :=
  ∃ j : Nat, j + k = l.length ∧ i = .int .i64 j ∧ n = .int .i64 (1 + vsizeL (l.take j) : Nat) ∧ Below w.heap.size w wr

set_option maxRecDepth 100000 in
set_option maxHeartbeats 4000000 in
theorem refsize_any : ∀ (n : Nat) (v : V) (cs : Array Value) (B : Nat) (w : World), vsize v ≤ n → n ≤ 1000000 → Val w (· < B) 1000000 v cs → B ≤ w.heap.size →
    Calls Tryd.prog 22 #[.agg cs] w fun e w' => e = .returned (.int .i64 (vsize v : Nat)) ∧ Below w.heap.size w w'
  | 0, v, cs, B, w, h, _, _, _ => by have := vsize_pos v; omega
  | n + 1, v, cs, B, w, hw, hn, hv, hB => by
    have ih := Lib.hid (refsize_any n)
    obtain ⟨c, rfl⟩ := hv.c6
    have hvp := vsize_parts v
    have HV := Lib.hid (And.intro hw hvp)
    have HP := Lib.hid (fun W (hW : Below w.heap.size w W) => parts_any v _ B W (hv.keep (fun p hp => hW.cell (Nat.lt_of_lt_of_le hp hB)) (fun _ h => h)) (Nat.le_trans hB hW.size))
    clear hv hw hvp
    obtain ⟨jk, jy, jn, jt, ja, jla, jca, jb, jlb, jcb⟩ := c
    dsimp only [C6.arr] at HP ⊢
    have hb0 : ∀ o, Below w.heap.size w (w.alloc o) := fun o => (Below.refl _ _).alloc (Nat.le_refl _) _
    go_enter Tryd.func22, Tryd.ntmps22
    go_wp2_with fail
    refine (HP.out _ (hb0 _)).mono ?_
    rintro e W ⟨⟨A, c, rfl, hpc, hpl, hvl⟩, hb⟩
    obtain ⟨l, hl⟩ : ∃ l, parts v = l := ⟨_, rfl⟩
    rw [hl] at hpc hpl hvl HV ⊢
    have HX := Lib.hid (And.intro hvl ((hb0 _).trans (hb.mono (by simp))))
    have hzW : w.heap.size < W.heap.size := by have := hb.size; simp at this; omega
    clear hvl hb hl HP
    go_wp2_with fail
    go_loopg [3, 10] l.length (RSzRel W l)
    case atStart => exact ⟨0, by simp, rfl, by simp [vsizeL], Below.refl _ _⟩
    case round =>
      obtain ⟨j, hk, rfl, rfl, hb⟩ := hrel
      by_cases hlt : j < l.length
      · obtain ⟨b, off, cs, rfl, hbB, hc, hx⟩ := HX.out.1.get j hlt
        obtain ⟨cj, rfl⟩ := hx.c6
        have hcj : ∀ q, q < 6 → wr.cell? ⟨b, off + j * 6 + q, none⟩ = cj.arr[q]? := fun q hq => (hb.cell (p := ⟨b, off + j * 6 + q, none⟩) hbB).trans (by simpa using hc q hq)
        obtain ⟨x0, x1, x2, x3, x4, x5⟩ := cells6 hcj rfl
        have htk := vsizeL_take l j hlt
        have hle := vsizeL_le l (j + 1)
        have hwj : vsize l[j] ≤ n := by have := HV.out; omega
        have hcall := ih.out l[j] cj.arr W.heap.size wr hwj (by omega) (hx.keep (fun p hp => hb.cell hp) (fun _ h => h)) hb.size
        obtain ⟨a, ha⟩ : ∃ a, vsizeL (l.take j) = a := ⟨_, rfl⟩
        obtain ⟨x, hxx⟩ : ∃ x, vsize l[j] = x := ⟨_, rfl⟩
        rw [ha] at htk ⊢
        rw [hxx] at hcall htk
        have hs1 : 1 + a + x ≤ 1000000 := by have := HV.out; omega
        have HC := Lib.hid (And.intro hcall (And.intro htk (And.intro hk hb)))
        have hj1 : (j : Int) < (l.length : Int) := by omega
        clear hcall hk hb hcj hc hx ha hxx htk hle hwj
        obtain ⟨qk, qy, qn, qt, qa, qla, qca, qb, qlb, qcb⟩ := cj
        dsimp only [C6.arr] at x0 x1 x2 x3 x4 x5 HC
        go_wp2_with fail
        refine HC.out.1.mono ?_
        rintro e W2 ⟨rfl, hb2⟩
        go_wp2_with fail
        go_roundg (l.length - (j + 1))
        case rel =>
          obtain ⟨-, htk, hk, hb⟩ := HC.out
          refine ⟨j + 1, by omega, by go_num, ?_, hb.trans (hb2.mono hb.size)⟩
          rw [htk]
          congr 1
          omega
        case measure => have := HC.out.2.2.1; omega
      · obtain rfl : j = l.length := by omega
        have hsL : vsizeL (l.take l.length) = vsizeL l := by rw [List.take_length]
        rw [hsL]
        have HB := Lib.hid hb
        clear hsL hb hk
        go_wp2_with fail
        go_ret
        exact ⟨by rw [HV.out.2]; rfl, HX.out.2.trans (HB.out.mono HX.out.2.size)⟩

def RGetAns (r : Option V) (B : Nat) (w : World) (e : Ending) (w' : World) : Prop :=
  Below w.heap.size w w' ∧ ((r = none ∧ e = .returned (.tuple #[.agg zero6, .bool false])) ∨ ∃ (x : V) (o : C6), r = some x ∧ e = .returned (.tuple #[.agg o.arr, .bool true]) ∧ Val w (· < B) 1000000 x o.arr)
def RGetRel (w : World) (key : ByteArray) (m : List (ByteArray × V)) (box : Array Value) (k : Nat) (i : Value) (wr : World) : Prop :=
  ∃ j : Nat, j + k = m.length ∧ i = .int .i64 j ∧ Whole wr w.heap.size 25 box ∧ Whole wr (w.heap.size + 1) 25 zero6 ∧ getM key (m.drop j) = getM key m ∧ Below w.heap.size w wr

set_option maxRecDepth 100000 in
set_option maxHeartbeats 4000000 in
theorem refget_any (v : V) (key : ByteArray) (cs : Array Value) (B : Nat) (w : World) (hv : Val w (· < B) 1000000 v cs) (hB : B ≤ w.heap.size) :
    Calls Tryd.prog 17 #[.agg cs, .string key] w (RGetAns (getV v key) B w) := by
  cases v with
  | mk k y n t l m =>
  rw [Val] at hv
  obtain ⟨A1, c1, A2, c2, rfl, ⟨h1c, h2c, ht, hl, hm, hn1, hn2⟩, hvl, hvm⟩ := hv
  by_cases k5 : k = 5
  · subst k5
    have hg : getV (.mk 5 y n t l m) key = getM key m := by simp [getV, V.kind, V.mp]
    rw [hg]
    obtain ⟨R, hR⟩ : ∃ R, getM key m = R := ⟨_, rfl⟩
    rw [hR]
    have HV := Lib.hid (And.intro hvm hR)
    clear hvl hvm hg hR
    go_enter Tryd.func17, Tryd.ntmps17
    go_wp2_with fail
    go_loopg [13] m.length (RGetRel w key m #[.int .i64 5, .bool y, .int .i64 n, .string t, .slice A1 l.length c1, .slice A2 m.length c2])
    case atStart =>
      refine ⟨0, by simp, rfl, (Whole.made w _ _).alloc _, ?_, rfl, ((Below.refl _ _).alloc (Nat.le_refl _) _).alloc (by simp) _⟩
      have := Whole.made (w.alloc (.cells #[.int .i64 5, .bool y, .int .i64 n, .string t, .slice A1 l.length c1, .slice A2 m.length c2] 25)) 25 zero6
      simpa [zero6] using this
    case round =>
      obtain ⟨j, hk, rfl, hbox, hres, hrest, hb⟩ := hrel
      have hz : w.heap.size + 1 < wr.heap.size := hres.lt
      have b5 := hbox.cell 5
      simp at b5
      obtain ⟨a0, a1, a2, a3, a4, a5⟩ := Whole.six hres
      have g0 := hres.frozen 0
      have g1 := hres.frozen 1
      have g2 := hres.frozen 2
      have g3 := hres.frozen 3
      have g4 := hres.frozen 4
      have g5 := hres.frozen 5
      by_cases hlt : j < m.length
      · obtain ⟨b, off, cs, rfl, hbB, hsM, hkc, hc, hx⟩ := HV.out.1.get j hlt
        obtain ⟨cj, rfl⟩ := hx.c6
        obtain ⟨s, hs⟩ : ∃ s, m[j].1 = s := ⟨_, rfl⟩
        rw [hs] at hkc
        have hck : wr.cell? ⟨b, off + j * 7, none⟩ = some (.string s) := (hb.cell (p := ⟨b, off + j * 7, none⟩) (by simp; omega)).trans (by simpa using hkc)
        have hcj : ∀ q, q < 6 → wr.cell? ⟨b, off + j * 7 + (1 + q), none⟩ = cj.arr[q]? := fun q hq => (hb.cell (p := ⟨b, off + j * 7 + (1 + q), none⟩) (by simp; omega)).trans (by simpa using hc q hq)
        obtain ⟨xk, x0, x1, x2, x3, x4, x5⟩ := cells7 hck hcj rfl
        have hj1 : (j : Int) < (m.length : Int) := by omega
        have hdrop : getM key (m.drop j) = if s.toList == key.toList then some m[j].2 else getM key (m.drop (j + 1)) := by
          rw [List.drop_eq_getElem_cons hlt]
          show getM key ((m[j].1, m[j].2) :: _) = _
          rw [getM, hs]
        have HX := Lib.hid (And.intro hk (And.intro hbox (And.intro hres (And.intro hrest (And.intro hb (And.intro hdrop hx))))))
        cases hsk : (s.toList == key.toList)
        · clear hk hbox hres hrest hb hcj hc hx hck hkc hdrop hs hsM
          obtain ⟨qk, qy, qn, qt, qa, qla, qca, qb, qlb, qcb⟩ := cj
          dsimp only [C6.arr] at x0 x1 x2 x3 x4 x5
          go_wp2_with fail
          go_roundg (m.length - (j + 1))
          case rel =>
            obtain ⟨hk, hbox, hres, hrest, hb, hdrop, -⟩ := HX.out
            exact ⟨j + 1, by omega, by go_num, hbox, hres, by rw [← hrest, hdrop, hsk]; rfl, hb⟩
          case measure => have := HX.out.1; omega
        · clear hk hbox hres hrest hb hcj hc hx hck hkc hdrop hs hsM
          obtain ⟨qk, qy, qn, qt, qa, qla, qca, qb, qlb, qcb⟩ := cj
          dsimp only [C6.arr] at x0 x1 x2 x3 x4 x5
          go_wp2_with fail
          refine bodyPost_ret (v := .tuple #[.agg (C6.arr ⟨qk, qy, qn, qt, qa, qla, qca, qb, qlb, qcb⟩), .bool true]) (by simp [results, Tryd.results17, go_sem, a0, a1, a2, a3, a4, a5, C6.arr]) rfl ⟨?_, .inr ⟨m[j].2, ⟨qk, qy, qn, qt, qa, qla, qca, qb, qlb, qcb⟩, ?_, rfl, HX.out.2.2.2.2.2.2⟩⟩
          · have hbw := HX.out.2.2.2.2.1
            exact (((((hbw.setCell (by simp) _).setCell (by simp) _).setCell (by simp) _).setCell (by simp) _).setCell (by simp) _).setCell (by simp) _
          · rw [← HV.out.2, ← HX.out.2.2.2.1, HX.out.2.2.2.2.2.1, hsk]; rfl
      · have hjl : j = m.length := by omega
        subst hjl
        have HX := Lib.hid (And.intro hrest hb)
        clear hbox hres hrest hb hk
        go_wp2_with fail
        refine bodyPost_ret (v := .tuple #[.agg zero6, .bool false]) (by simp [results, Tryd.results17, go_sem, a0, a1, a2, a3, a4, a5, zero6]) rfl ⟨?_, .inl ⟨?_, rfl⟩⟩
        · have hbw := HX.out.2
          exact (((((hbw.setCell (by simp) _).setCell (by simp) _).setCell (by simp) _).setCell (by simp) _).setCell (by simp) _).setCell (by simp) _
        · rw [← HV.out.2, ← HX.out.1, List.drop_of_length_le (Nat.le_refl _)]; rfl
  · have hg : getV (.mk k y n t l m) key = none := by simp [getV, V.kind, k5]
    rw [hg]
    have e5 : (k == 5) = false := by simpa using k5
    clear hvl hvm hg k5
    go_enter Tryd.func17, Tryd.ntmps17
    go_wp2_with fail
    refine bodyPost_ret (v := .tuple #[.agg zero6, .bool false]) (by simp [results, Tryd.results17, go_sem, zero6]) rfl ⟨?_, .inl ⟨rfl, rfl⟩⟩
    repeat (first | exact Below.refl _ _ | refine Below.setCell ?_ (by simp <;> omega) _ | refine Below.alloc ?_ (by simp <;> omega) _)
end Go.Proofs.YtbjgelkckmfjeaaDoor

namespace Go.Proofs.YtbjgelkckmfjeaaDoor
open Go.RowKit Go.Lib
set_option linter.unusedVariables false
set_option linter.unusedSimpArgs false

mutual
theorem same_refl : ∀ v, same v v = true
  | .mk k y n t l m => by
    rw [same]
    have h1 := sameL_refl l
    have h2 := sameM_refl m
    simp [h1, h2]
theorem sameL_refl : ∀ l, sameL l l = true
  | [] => by rw [sameL]
  | v :: r => by rw [sameL, same_refl v, sameL_refl r]; rfl
theorem sameM_refl : ∀ l, sameM l l = true
  | [] => by rw [sameM]
  | (s, v) :: r => by rw [sameM, same_refl v, sameM_refl r]; simp
end
mutual
theorem same_canon : ∀ v, same (canon v) v = true
  | .mk k y n t l m => by
    have h1 := sameL_canon l
    have h2 := sameM_canon m
    rw [canon, same, show (k == k) = true by simp, Bool.true_and]
    by_cases k1 : k = 1
    · subst k1; simp
    rw [if_neg k1]
    by_cases k2 : k = 2
    · subst k2; simp
    rw [if_neg k2]
    by_cases k3 : k = 3
    · subst k3; simp
    rw [if_neg k3]
    by_cases k4 : k = 4
    · subst k4; simpa using h1
    rw [if_neg k4]
    by_cases k5 : k = 5
    · subst k5; simpa using h2
    rw [if_neg k5]
theorem sameL_canon : ∀ l, sameL (canonL l) l = true
  | [] => by rw [canonL, sameL]
  | v :: r => by rw [canonL, sameL, same_canon v, sameL_canon r]; rfl
theorem sameM_canon : ∀ l, sameM (canonM l) l = true
  | [] => by rw [canonM, sameM]
  | (s, v) :: r => by rw [canonM, sameM, same_canon v, sameM_canon r]; simp
end
theorem beq_swap {α : Type} [BEq α] [LawfulBEq α] (a b : α) : (a == b) = (b == a) := by
  by_cases h : a = b
  · subst h; rfl
  · rw [beq_eq_false_iff_ne.2 h, beq_eq_false_iff_ne.2 (fun e => h e.symm)]
mutual
theorem same_symm : ∀ v v', same v v' = same v' v
  | .mk k y n t l m, .mk k' y' n' t' l' m' => by
    have h1 := sameL_symm l l'
    have h2 := sameM_symm m m'
    rw [same, same, beq_swap k k']
    by_cases hk : k = k'
    · subst hk
      rw [beq_swap y y', beq_swap n n', beq_swap t.toList t'.toList, h1, h2]
    · rw [show (k' == k) = false by rw [beq_eq_false_iff_ne]; exact fun e => hk e.symm]; rfl
theorem sameL_symm : ∀ l l', sameL l l' = sameL l' l
  | [], [] => rfl
  | [], _ :: _ => by simp [sameL]
  | _ :: _, [] => by simp [sameL]
  | v :: r, v' :: r' => by rw [sameL, sameL, same_symm v v', sameL_symm r r']
theorem sameM_symm : ∀ l l', sameM l l' = sameM l' l
  | [], [] => rfl
  | [], _ :: _ => by simp [sameM]
  | _ :: _, [] => by simp [sameM]
  | (s, v) :: r, (s', v') :: r' => by rw [sameM, sameM, same_symm v v', sameM_symm r r', beq_swap s.toList s'.toList]
end
/-! What counts of a value is as much, and as deep. -/
mutual
theorem vsize_canon : ∀ v, vsize (canon v) = vsize v
  | .mk k y n t l m => by
    have h1 := vsizeL_canon l
    have h2 := vsizeM_canon m
    rw [canon, vsize, vsize]
    by_cases k4 : k = 4
    · simp [k4, h1]
    · by_cases k5 : k = 5
      · simp [k5, h2]
      · simp [k4, k5]
theorem vsizeL_canon : ∀ l, vsizeL (canonL l) = vsizeL l
  | [] => by rw [canonL]
  | v :: r => by rw [canonL, vsizeL, vsizeL, vsize_canon v, vsizeL_canon r]
theorem vsizeM_canon : ∀ l, vsizeM (canonM l) = vsizeM l
  | [] => by rw [canonM]
  | (s, v) :: r => by rw [canonM, vsizeM, vsizeM, vsize_canon v, vsizeM_canon r]
end
mutual
theorem vsize_wgt : ∀ v, vsize v ≤ wgt v
  | .mk k y n t l m => by
    have h1 := vsizeL_wgt l
    have h2 := vsizeM_wgt m
    rw [vsize, wgt]
    split <;> split <;> omega
theorem vsizeL_wgt : ∀ l, vsizeL l ≤ wgtL l
  | [] => by simp [vsizeL]
  | v :: r => by have h1 := vsize_wgt v; have h2 := vsizeL_wgt r; rw [vsizeL, wgtL]; omega
theorem vsizeM_wgt : ∀ l, vsizeM l ≤ wgtM l
  | [] => by simp [vsizeM]
  | (s, v) :: r => by have h1 := vsize_wgt v; have h2 := vsizeM_wgt r; rw [vsizeM, wgtM]; omega
end
mutual
theorem wgt_canon : ∀ v, wgt (canon v) ≤ wgt v
  | .mk k y n t l m => by
    have h1 := wgtL_canon l
    have h2 := wgtM_canon m
    have h0 : (ByteArray.mk #[]).size = 0 := rfl
    rw [canon, wgt, wgt]
    have a1 : (if k = 3 then t else ⟨#[]⟩ : ByteArray).size ≤ t.size := by split <;> omega
    have a2 : wgtL (if k = 4 then canonL l else []) ≤ wgtL l := by
      split
      · exact h1
      · simp [wgtL]
    have a3 : wgtM (if k = 5 then canonM m else []) ≤ wgtM m := by
      split
      · exact h2
      · simp [wgtM]
    omega
theorem wgtL_canon : ∀ l, wgtL (canonL l) ≤ wgtL l
  | [] => by rw [canonL]; exact Nat.le_refl _
  | v :: r => by have h1 := wgt_canon v; have h2 := wgtL_canon r; rw [canonL, wgtL, wgtL]; omega
theorem wgtM_canon : ∀ l, wgtM (canonM l) ≤ wgtM l
  | [] => by rw [canonM]; exact Nat.le_refl _
  | (s, v) :: r => by have h1 := wgt_canon v; have h2 := wgtM_canon r; rw [canonM, wgtM, wgtM]; omega
end
end Go.Proofs.YtbjgelkckmfjeaaDoor

namespace Go.Proofs.YtbjgelkckmfjeaaDoor
open Go.RowKit Go.Lib
set_option linter.unusedVariables false
set_option linter.unusedSimpArgs false

/-- A cell behind: as it was; or a number for a number; or a text, by at most n longer. -/
def Like (n : Nat) (u u' : Value) : Prop := u' = u ∨ (∃ a b : Int, u = .int .i64 a ∧ u' = .int .i64 b) ∨ ∃ s s' : ByteArray, u = .string s ∧ u' = .string s' ∧ s'.size ≤ s.size + n
theorem Like.trans {n m : Nat} {u v x : Value} (h : Like n u v) (h' : Like m v x) : Like (n + m) u x := by
  rcases h with rfl | ⟨a, b, rfl, rfl⟩ | ⟨s, s', rfl, rfl, hs⟩
  · rcases h' with rfl | ⟨a, b, rfl, rfl⟩ | ⟨s, s', rfl, rfl, hs⟩
    · exact .inl rfl
    · exact .inr (.inl ⟨a, b, rfl, rfl⟩)
    · exact .inr (.inr ⟨s, s', rfl, rfl, by omega⟩)
  · rcases h' with rfl | ⟨a', b', e, rfl⟩ | ⟨s, s', e, rfl, hs⟩
    · exact .inr (.inl ⟨a, b, rfl, rfl⟩)
    · exact .inr (.inl ⟨a, b', rfl, rfl⟩)
    · cases e
  · rcases h' with rfl | ⟨a', b', e, rfl⟩ | ⟨s1, s2, e, rfl, hs2⟩
    · exact .inr (.inr ⟨s, s', rfl, rfl, by omega⟩)
    · cases e
    · injection e with e
      subst e
      exact .inr (.inr ⟨s, s2, rfl, rfl, by omega⟩)
theorem Like.more {n m : Nat} {u v : Value} (h : Like n u v) (hm : n ≤ m) : Like m u v := by
  rcases h with h | h | ⟨s, s', h1, h2, h3⟩
  · exact .inl h
  · exact .inr (.inl h)
  · exact .inr (.inr ⟨s, s', h1, h2, by omega⟩)
/-- What turn does: only blocks that Q says, cell by cell as 'Like' says; nothing is made. -/
structure Mod (Q : Nat → Prop) (n : Nat) (w w' : World) : Prop where
  os : w'.os = w.os
  tape : w'.tape = w.tape
  output : w'.output = w.output
  size : w'.heap.size = w.heap.size
  far : ∀ k, ¬ Q k → w'.heap[k]? = w.heap[k]?
  frz : ∀ p, w'.frozen? p = w.frozen? p
  cell : ∀ p u, w.cell? p = some u → ∃ u', w'.cell? p = some u' ∧ Like n u u'
theorem Mod.refl (Q : Nat → Prop) (w : World) : Mod Q 0 w w := ⟨rfl, rfl, rfl, rfl, fun _ _ => rfl, fun _ => rfl, fun _ u h => ⟨u, h, .inl rfl⟩⟩
theorem Mod.trans {Q : Nat → Prop} {n m : Nat} {w w1 w2 : World} (h : Mod Q n w w1) (h' : Mod Q m w1 w2) : Mod Q (n + m) w w2 :=
  ⟨h'.os.trans h.os, h'.tape.trans h.tape, h'.output.trans h.output, h'.size.trans h.size, fun k hk => (h'.far k hk).trans (h.far k hk), fun p => (h'.frz p).trans (h.frz p), fun p u hu => by
    obtain ⟨u1, h1, l1⟩ := h.cell p u hu
    obtain ⟨u2, h2, l2⟩ := h'.cell p u1 h1
    exact ⟨u2, h2, l1.trans l2⟩⟩
theorem Mod.more {Q : Nat → Prop} {n m : Nat} {w w1 : World} (h : Mod Q n w w1) (hm : n ≤ m) : Mod Q m w w1 :=
  ⟨h.os, h.tape, h.output, h.size, h.far, h.frz, fun p u hu => by obtain ⟨u', h1, h2⟩ := h.cell p u hu; exact ⟨u', h1, h2.more hm⟩⟩
/-- One store of that kind. -/
theorem Mod.put {Q : Nat → Prop} {n : Nat} {w : World} {b o : Nat} {u u' : Value} (hQ : Q b) (hc : w.cell? ⟨b, o, none⟩ = some u) (hl : Like n u u') : Mod Q n w (w.setCell ⟨b, o, none⟩ u') where
  os := rfl
  tape := rfl
  output := rfl
  size := by simp [World.setCell]
  far := fun k hk => Below.heap_setCell _ _ _ _ (fun e => hk (by simpa [e] using hQ))
  frz := fun p => World.frozen?_setCell _ _ _ _
  cell := fun p x hx => by
    by_cases hp : p = ⟨b, o, none⟩
    · subst hp
      rw [hc] at hx
      injection hx with hx
      subst hx
      exact ⟨u', World.cell?_setCell_same _ _ _ hc, hl⟩
    · exact ⟨x, (World.cell?_setCell_other _ _ _ _ (fun e => hp e.symm)).trans hx, .inl rfl⟩

mutual
/-- The shape of a value at a place: its slices, its parts' kinds and keys, not frozen, in blocks that Q says. -/
def Sh (w : World) (Q : Nat → Prop) (L : Nat) : V → Nat → Nat → Prop
  | .mk _ _ _ _ l m, b, off => ∃ A c A' c', w.cell? ⟨b, off + 4, none⟩ = some (.slice A l.length c) ∧ w.cell? ⟨b, off + 5, none⟩ = some (.slice A' m.length c') ∧ ShL w Q L l A 0 ∧ ShM w Q L m A' 0
def ShL (w : World) (Q : Nat → Prop) (L : Nat) : List V → Option Addr → Nat → Prop
  | [], _, _ => True
  | v :: r, A, i => (∃ b off k, A = some ⟨b, off, none⟩ ∧ Q b ∧ w.cell? ⟨b, off + i * 6, none⟩ = some (.int .i64 k) ∧ Unfrozen w b ∧ Sh w Q L v b (off + i * 6)) ∧ ShL w Q L r A (i + 1)
def ShM (w : World) (Q : Nat → Prop) (L : Nat) : List (ByteArray × V) → Option Addr → Nat → Prop
  | [], _, _ => True
  | (_, v) :: r, A, i => (∃ b off s, A = some ⟨b, off, none⟩ ∧ Q b ∧ w.cell? ⟨b, off + i * 7, none⟩ = some (.string s) ∧ s.size ≤ L ∧ Unfrozen w b ∧ Sh w Q L v b (off + i * 7 + 1)) ∧ ShM w Q L r A (i + 1)
end
theorem Mod.slice {Q : Nat → Prop} {n : Nat} {w w' : World} (h : Mod Q n w w') {p : Addr} {A : Option Addr} {l c : Nat} (hc : w.cell? p = some (.slice A l c)) : w'.cell? p = some (.slice A l c) := by
  obtain ⟨u', h1, h2⟩ := h.cell p _ hc
  rcases h2 with rfl | ⟨a, b, e, -⟩ | ⟨s, s', e, -⟩
  · exact h1
  · cases e
  · cases e
mutual
theorem Sh.keep {w w' : World} {Q : Nat → Prop} {L n : Nat} (h : Mod Q n w w') : ∀ {v : V} {b off : Nat}, Sh w Q L v b off → Sh w' Q (L + n) v b off
  | .mk _ _ _ _ l m, b, off, hv => by
    rw [Sh] at hv ⊢
    obtain ⟨A, c, A', c', h4, h5, hl, hm⟩ := hv
    exact ⟨A, c, A', c', h.slice h4, h.slice h5, ShL.keep h hl, ShM.keep h hm⟩
theorem ShL.keep {w w' : World} {Q : Nat → Prop} {L n : Nat} (h : Mod Q n w w') : ∀ {l : List V} {A : Option Addr} {i : Nat}, ShL w Q L l A i → ShL w' Q (L + n) l A i
  | [], _, _, _ => by rw [ShL]; trivial
  | v :: r, A, i, hv => by
    rw [ShL] at hv ⊢
    obtain ⟨⟨b, off, k, e, hb, hk, hu, hx⟩, hr⟩ := hv
    obtain ⟨u', h1, h2⟩ := h.cell _ _ hk
    have hu' : Unfrozen w' b := fun o => (h.frz _).trans (hu o)
    refine ⟨?_, ShL.keep h hr⟩
    rcases h2 with rfl | ⟨a, a', -, rfl⟩ | ⟨s, s', e', -⟩
    · exact ⟨b, off, k, e, hb, h1, hu', Sh.keep h hx⟩
    · exact ⟨b, off, a', e, hb, h1, hu', Sh.keep h hx⟩
    · cases e'
theorem ShM.keep {w w' : World} {Q : Nat → Prop} {L n : Nat} (h : Mod Q n w w') : ∀ {l : List (ByteArray × V)} {A : Option Addr} {i : Nat}, ShM w Q L l A i → ShM w' Q (L + n) l A i
  | [], _, _, _ => by rw [ShM]; trivial
  | (t, v) :: r, A, i, hv => by
    rw [ShM] at hv ⊢
    obtain ⟨⟨b, off, s, e, hb, hk, hs, hu, hx⟩, hr⟩ := hv
    obtain ⟨u', h1, h2⟩ := h.cell _ _ hk
    have hu' : Unfrozen w' b := fun o => (h.frz _).trans (hu o)
    refine ⟨?_, ShM.keep h hr⟩
    rcases h2 with rfl | ⟨a, a', e', -⟩ | ⟨s1, s2, e', rfl, h3⟩
    · exact ⟨b, off, s, e, hb, h1, by omega, hu', Sh.keep h hx⟩
    · cases e'
    · injection e' with e'
      subst e'
      exact ⟨b, off, s2, e, hb, h1, by omega, hu', Sh.keep h hx⟩
end
mutual
/-- What Real made has that shape. -/
theorem Val.sh {w : World} {Q : Nat → Prop} {M : Nat} (hQ : ∀ b, Q b → Unfrozen w b) : ∀ {v : V} {cs : Array Value} {b off : Nat}, Val w Q M v cs → (∀ q, q < 6 → w.cell? ⟨b, off + q, none⟩ = cs[q]?) → Sh w Q M v b off
  | .mk k y n t l m, cs, b, off, hv, hc => by
    rw [Val] at hv
    obtain ⟨A, c, A', c', rfl, -, hl, hm⟩ := hv
    rw [Sh]
    exact ⟨A, c, A', c', hc 4 (by omega), hc 5 (by omega), ValL.sh hQ hl, ValM.sh hQ hm⟩
theorem ValL.sh {w : World} {Q : Nat → Prop} {M : Nat} (hQ : ∀ b, Q b → Unfrozen w b) : ∀ {l : List V} {A : Option Addr} {i : Nat}, ValL w Q M l A i → ShL w Q M l A i
  | [], _, _, _ => by rw [ShL]; trivial
  | .mk k y n t l' m' :: r, A, i, hv => by
    rw [ValL] at hv
    obtain ⟨⟨b, off, cs, e, hb, hc, hx⟩, hr⟩ := hv
    rw [ShL]
    refine ⟨⟨b, off, k, e, hb, ?_, hQ b hb, Val.sh hQ hx hc⟩, ValL.sh hQ hr⟩
    have h0 := hc 0 (by omega)
    rw [Val] at hx
    obtain ⟨A, c, A', c', rfl, -⟩ := hx
    exact h0
theorem ValM.sh {w : World} {Q : Nat → Prop} {M : Nat} (hQ : ∀ b, Q b → Unfrozen w b) : ∀ {l : List (ByteArray × V)} {A : Option Addr} {i : Nat}, ValM w Q M l A i → ShM w Q M l A i
  | [], _, _, _ => by rw [ShM]; trivial
  | (s, v) :: r, A, i, hv => by
    rw [ValM] at hv
    obtain ⟨⟨b, off, cs, e, hb, hs, hk, hc, hx⟩, hr⟩ := hv
    rw [ShM]
    exact ⟨⟨b, off, s, e, hb, hk, hs, hQ b hb, Val.sh hQ hx (fun q hq => by rw [Nat.add_assoc]; exact hc q hq)⟩, ValM.sh hQ hr⟩
end
end Go.Proofs.YtbjgelkckmfjeaaDoor

namespace Go.Proofs.YtbjgelkckmfjeaaDoor
open Go.RowKit Go.Lib
set_option linter.unusedVariables false
set_option linter.unusedSimpArgs false

theorem ShL.get {w : World} {Q : Nat → Prop} {L : Nat} : ∀ {l : List V} {A : Option Addr} {i : Nat}, ShL w Q L l A i → ∀ (j : Nat) (hj : j < l.length),
    ∃ b off k, A = some ⟨b, off, none⟩ ∧ Q b ∧ w.cell? ⟨b, off + (i + j) * 6, none⟩ = some (.int .i64 k) ∧ Unfrozen w b ∧ Sh w Q L l[j] b (off + (i + j) * 6)
  | v :: r, A, i, hv, 0, _ => by rw [ShL] at hv; exact hv.1
  | v :: r, A, i, hv, j + 1, hj => by
    rw [ShL] at hv
    obtain ⟨b, off, k, e, hb, hc, hu, hx⟩ := ShL.get hv.2 j (by simpa using hj)
    rw [show i + 1 + j = i + (j + 1) by omega] at hc hx
    exact ⟨b, off, k, e, hb, hc, hu, by simpa using hx⟩
theorem ShM.get {w : World} {Q : Nat → Prop} {L : Nat} : ∀ {l : List (ByteArray × V)} {A : Option Addr} {i : Nat}, ShM w Q L l A i → ∀ (j : Nat) (hj : j < l.length),
    ∃ b off s, A = some ⟨b, off, none⟩ ∧ Q b ∧ w.cell? ⟨b, off + (i + j) * 7, none⟩ = some (.string s) ∧ s.size ≤ L ∧ Unfrozen w b ∧ Sh w Q L l[j].2 b (off + (i + j) * 7 + 1)
  | (t, v) :: r, A, i, hv, 0, _ => by rw [ShM] at hv; exact hv.1
  | (t, v) :: r, A, i, hv, j + 1, hj => by
    rw [ShM] at hv
    obtain ⟨b, off, s, e, hb, hc, hs, hu, hx⟩ := ShM.get hv.2 j (by simpa using hj)
    rw [show i + 1 + j = i + (j + 1) by omega] at hc hx
    exact ⟨b, off, s, e, hb, hc, hs, hu, by simpa using hx⟩
def TurnL (Q : Nat → Prop) (w : World) (l : List V) (k : Nat) (i : Value) (wr : World) : Prop := ∃ j : Nat, j + k = l.length ∧ i = .int .i64 j ∧ Mod Q (2 * wgtL (l.take j)) w wr
def TurnM (Q : Nat → Prop) (w : World) (n0 : Nat) (m : List (ByteArray × V)) (k : Nat) (i : Value) (wr : World) : Prop := ∃ j : Nat, j + k = m.length ∧ i = .int .i64 j ∧ Mod Q (n0 + 2 * wgtM (m.take j)) w wr

set_option maxRecDepth 100000 in
set_option maxHeartbeats 4000000 in
theorem turn_any (Q : Nat → Prop) : ∀ (N : Nat) (v : V) (b off L : Nat) (w : World), wgt v ≤ N → Sh w Q L v b off → L + 2 * wgt v ≤ 2000000 →
    Calls Tryd.prog 24 #[.pointer (some ⟨b, off, none⟩)] w fun e w' => e = .returned (.tuple #[]) ∧ Mod Q (2 * wgt v - 1) w w'
  | 0, v, b, off, L, w, h, _, _ => by have := wgt_pos v; omega
  | N + 1, .mk k y n t l m, b, off, L, w, hw, hv, hL => by
    have ih := Lib.hid (turn_any Q N)
    rw [wgt] at hw hL ⊢
    rw [Sh] at hv
    obtain ⟨A, c, A', c', h4, h5, hl, hm⟩ := hv
    have hln : l.length ≤ 2000000 := by have := wgtL_len l; omega
    have hmn : m.length ≤ 2000000 := by have := wgtM_len m; omega
    have HV := Lib.hid (And.intro hl (And.intro hm (And.intro hw (And.intro hL (And.intro h4 h5)))))
    clear hl hm hw hL h5
    go_enter Tryd.func24, Tryd.ntmps24
    go_wp2_with fail
    go_loopg [9] l.length (TurnL Q w l)
    case atStart => exact ⟨0, by simp, rfl, by simpa [wgtL] using Mod.refl Q w⟩
    case round =>
      obtain ⟨j, hk, rfl, hM⟩ := hrel
      have d4 := hM.slice HV.out.2.2.2.2.1
      have d5 := hM.slice HV.out.2.2.2.2.2
      by_cases hlt : j < l.length
      · obtain ⟨b', off', kk, rfl, hQ, hc, hu, hx⟩ := (HV.out.1.keep hM).get j hlt
        rw [Nat.zero_add] at hc hx
        have htk := wgtL_take l j hlt
        have hle := wgtL_le l (j + 1)
        have hcall := ih.out l[j] b' (off' + j * 6) _ wr (by have := HV.out.2.2.1; omega) hx (by have := HV.out.2.2.2.1; omega)
        have hj1 : (j : Int) < (l.length : Int) := by omega
        have HX := Lib.hid (And.intro hk (And.intro hM (And.intro hQ (And.intro hc (And.intro hu (And.intro htk hcall))))))
        clear hk hM hQ hc hu hx htk hle hcall h4 d5
        go_wp2_with fail
        refine HX.out.2.2.2.2.2.2.mono ?_
        rintro e W2 ⟨rfl, hM2⟩
        obtain ⟨u', hu1, hu2⟩ := hM2.cell _ _ HX.out.2.2.2.1
        have hint : ∃ a, u' = .int .i64 a := by
          rcases hu2 with rfl | ⟨a, a', -, rfl⟩ | ⟨s, s', e', -⟩
          · exact ⟨_, rfl⟩
          · exact ⟨_, rfl⟩
          · cases e'
        obtain ⟨a, rfl⟩ := hint
        have d4' := hM2.slice d4
        have f0 : W2.frozen? ⟨b', off' + j * 6, none⟩ = false := (hM2.frz _).trans (HX.out.2.2.2.2.1 _)
        have HM := Lib.hid (And.intro hM2 hu1)
        clear hM2 hu2 d4
        go_wp2_with fail
        go_roundg (l.length - (j + 1))
        case rel =>
          obtain ⟨hk, hM, hQ, hc, hu, htk, -⟩ := HX.out
          refine ⟨j + 1, by omega, by go_num, ((hM.trans HM.out.1).trans (Mod.put (n := 0) hQ HM.out.2 (.inr (.inl ⟨_, _, rfl, rfl⟩)))).more ?_⟩
          have := wgt_pos l[j]
          omega
        case measure => have := HX.out.1; omega
      · have hjl : j = l.length := by omega
        subst hjl
        rw [List.take_length] at hM
        have HM := Lib.hid hM
        clear hM hk h4 d4
        go_wp2_with fail
        obtain ⟨wo, rfl⟩ : ∃ wo : World, wo = wr := ⟨_, rfl⟩
        go_loopg [36] m.length (TurnM Q w (2 * wgtL l) m)
        case atStart => exact ⟨0, by simp, rfl, by simpa [wgtM] using HM.out⟩
        case round =>
          clear d5
          obtain ⟨j, hk, rfl, hM⟩ := hrel
          have d5 := hM.slice HV.out.2.2.2.2.2
          by_cases hlt2 : j < m.length
          · obtain ⟨b', off', s, rfl, hQ, hc, hs, hu, hx⟩ := (HV.out.2.1.keep hM).get j hlt2
            rw [Nat.zero_add] at hc hx
            have htk := wgtM_take m j hlt2
            have hle := wgtM_le m (j + 1)
            have hcall := ih.out m[j].2 b' (off' + j * 7 + 1) _ wr (by have := HV.out.2.2.1; omega) hx (by have := HV.out.2.2.2.1; omega)
            have hj1 : (j : Int) < (m.length : Int) := by omega
            have HX := Lib.hid (And.intro hk (And.intro hM (And.intro hQ (And.intro hc (And.intro hu (And.intro htk (And.intro hcall (And.intro hs hle))))))))
            clear hk hM hQ hc hu hx htk hle hcall hs
            go_wp2_with fail
            refine HX.out.2.2.2.2.2.2.1.mono ?_
            rintro e W2 ⟨rfl, hM2⟩
            obtain ⟨u', hu1, hu2⟩ := hM2.cell _ _ HX.out.2.2.2.1
            have hstr : ∃ s2 : ByteArray, u' = .string s2 ∧ s2.size ≤ s.size + (2 * wgt m[j].2 - 1) := by
              rcases hu2 with rfl | ⟨a, a', e', -⟩ | ⟨s1, s2, e', rfl, h3⟩
              · exact ⟨_, rfl, by omega⟩
              · cases e'
              · injection e' with e'
                subst e'
                exact ⟨_, rfl, h3⟩
            obtain ⟨s2, rfl, hs2⟩ := hstr
            have hs3 : s2.size + 1 ≤ 9000000 := by
              have h1 := HX.out.2.2.2.2.2.2.2.1
              have h2 := HX.out.2.2.2.2.2.2.2.2
              have h3 := HX.out.2.2.2.2.2.1
              have h6 := HV.out.2.2.2.1
              omega
            have d5' := hM2.slice d5
            have f0 : W2.frozen? ⟨b', off' + j * 7, none⟩ = false := (hM2.frz _).trans (HX.out.2.2.2.2.1 _)
            have HM2 := Lib.hid (And.intro hM2 hu1)
            clear hM2 hu2 d5 hs2
            go_wp2_with fail
            go_roundg (m.length - (j + 1))
            case rel =>
              obtain ⟨hk, hM, hQ, hc, hu, htk, -⟩ := HX.out
              refine ⟨j + 1, by omega, by go_num, ((hM.trans HM2.out.1).trans (Mod.put (n := 1) hQ HM2.out.2 (.inr (.inr ⟨_, _, rfl, rfl, ?_⟩)))).more ?_⟩
              · rw [ByteArray.size_append]; exact Nat.le_refl _
              · have := wgt_pos m[j].2
                omega
            case measure => have := HX.out.1; omega
          · have hjl : j = m.length := by omega
            subst hjl
            rw [List.take_length] at hM
            have HM2 := Lib.hid hM
            clear hM hk
            go_wp2_with fail
            exact bodyPost_end (v := .tuple #[]) (by simp [results, Tryd.results24]) rfl ⟨rfl, HM2.out.more (by omega)⟩
end Go.Proofs.YtbjgelkckmfjeaaDoor

namespace Go.Proofs.YtbjgelkckmfjeaaDoor
open Go.RowKit Go.Lib
set_option linter.unusedVariables false
set_option linter.unusedSimpArgs false

def V0 : V := .mk 0 false 0 ⟨#[]⟩ [] []
theorem val_zero (w : World) (Q : Nat → Prop) (M : Nat) : Val w Q M V0 zero6 := by
  rw [V0, Val]
  exact ⟨none, 0, none, 0, rfl, ⟨by simp, by simp, by simp [ByteArray.size], by simp, by simp, fun _ => rfl, fun _ => rfl⟩, by rw [ValL]; trivial, by rw [ValM]; trivial⟩
def orV : Option V → V
  | none => V0
  | some x => x
def orC : Option V → V
  | none => V0
  | some x => canon x
theorem same_or : ∀ r, same (orC r) (orV r) = true
  | none => same_refl _
  | some x => same_canon x
theorem wgtM_get {key : ByteArray} {x : V} : ∀ {m : List (ByteArray × V)}, getM key m = some x → wgt x ≤ wgtM m
  | [], h => by cases h
  | (s, v) :: r, h => by
    rw [getM] at h
    rw [wgtM]
    by_cases hs : s.toList == key.toList
    · rw [if_pos hs] at h; injection h with h; subst h; omega
    · rw [if_neg hs] at h; have := wgtM_get h; omega
theorem wgt_or (v : V) (key : ByteArray) : wgt (orC (getV v key)) ≤ wgt v := by
  cases hr : getV v key with
  | none =>
    have h1 := wgt_pos v
    have h2 : wgt (orC none) = 1 := by simp [orC, V0, wgt, wgtL, wgtM, ByteArray.size]
    omega
  | some x =>
    have h1 : wgt (orC (some x)) ≤ wgt x := wgt_canon x
    cases v with
    | mk k y n t l m =>
    rw [getV] at hr
    by_cases hk : (V.mk k y n t l m).kind = 5
    · rw [if_pos hk] at hr
      have h2 := wgtM_get hr
      rw [wgt]
      simp only [V.mp] at h2
      omega
    · rw [if_neg hk] at hr; cases hr
/-- What Get answers, whether the key is there or not. -/
def GetOr (r : Option V) (w : World) (e : Ending) (w' : World) : Prop :=
  ∃ o : C6, e = .returned (.tuple #[.agg o.arr, .bool r.isSome]) ∧ Below w.heap.size w w' ∧ Val w' (· < w'.heap.size) 1000000 (orC r) o.arr
theorem GetAns.or {r : Option V} {w : World} {e : Ending} {w' : World} (h : GetAns r w e w') : GetOr r w e w' := by
  obtain ⟨hb, ⟨rfl, rfl⟩ | ⟨x, o, rfl, rfl, hv⟩⟩ := h
  · exact ⟨⟨0, false, 0, ⟨#[]⟩, none, 0, 0, none, 0, 0⟩, rfl, hb, val_zero _ _ _⟩
  · exact ⟨o, rfl, hb, hv.keep (fun _ _ => rfl) (fun b hb => hb.2)⟩
def RGetOr (r : Option V) (B : Nat) (w : World) (e : Ending) (w' : World) : Prop :=
  ∃ o : C6, e = .returned (.tuple #[.agg o.arr, .bool r.isSome]) ∧ Below w.heap.size w w' ∧ Val w (· < B) 1000000 (orV r) o.arr
theorem RGetAns.or {r : Option V} {B : Nat} {w : World} {e : Ending} {w' : World} (h : RGetAns r B w e w') : RGetOr r B w e w' := by
  obtain ⟨hb, ⟨rfl, rfl⟩ | ⟨x, o, rfl, rfl, hv⟩⟩ := h
  · exact ⟨⟨0, false, 0, ⟨#[]⟩, none, 0, 0, none, 0, 0⟩, rfl, hb, val_zero _ _ _⟩
  · exact ⟨o, rfl, hb, hv⟩

/-- The five values that the law holds. -/
structure AskHold (W : World) (v : V) (r : Option V) (x g h c s : Array Value) : Prop where
  wx : wgt v ≤ 300
  wg : wgt (orC r) ≤ 300
  x : Val W (· < W.heap.size) 1000000 v x
  g : Val W (· < W.heap.size) 1000000 (orC r) g
  h : Val W (· < W.heap.size) 1000000 (orV r) h
  c : Val W (· < W.heap.size) 1000000 (canon v) c
  s : Val W (· < W.heap.size) 1000000 v s
theorem val_on {W W' : World} {v : V} {c : Array Value} (h : Val W (· < W.heap.size) 1000000 v c) (hb : Below W.heap.size W W') : Val W' (· < W'.heap.size) 1000000 v c :=
  h.keep (fun p hp => hb.cell hp) (fun b hp => Nat.lt_of_lt_of_le hp hb.size)
theorem AskHold.below {W W' : World} {v : V} {r : Option V} {x g h c s : Array Value} (H : AskHold W v r x g h c s) (hb : Below W.heap.size W W') : AskHold W' v r x g h c s :=
  ⟨H.wx, H.wg, val_on H.x hb, val_on H.g hb, val_on H.h hb, val_on H.c hb, val_on H.s hb⟩
variable {W : World} {v : V} {r : Option V} {x g h c s : Array Value}
theorem AskHold.depth (H : AskHold W v r x g h c s) : Calls Tryd.prog 19 #[.agg x] W fun e w' => e = .returned (.int .i64 (dep v : Nat)) ∧ Below W.heap.size W w' :=
  Depth_any v x W.heap.size W H.x (Nat.le_refl _) (by have := vsize_wgt v; have := H.wx; omega) (by have := dep_wgt v; have := H.wx; omega)
theorem AskHold.rdepth (H : AskHold W v r x g h c s) : Calls Tryd.prog 20 #[.agg s] W fun e w' => e = .returned (.int .i64 (dep v : Nat)) ∧ Below W.heap.size W w' :=
  depth_any 300 v s W.heap.size W H.wx (by omega) H.s (Nat.le_refl _)
theorem AskHold.size (H : AskHold W v r x g h c s) : Calls Tryd.prog 21 #[.agg x] W fun e w' => e = .returned (.int .i64 (vsize v : Nat)) ∧ Below W.heap.size W w' :=
  Size_any v x W.heap.size W H.x (Nat.le_refl _) (by have := vsize_wgt v; have := H.wx; omega)
theorem AskHold.rsize (H : AskHold W v r x g h c s) : Calls Tryd.prog 22 #[.agg s] W fun e w' => e = .returned (.int .i64 (vsize v : Nat)) ∧ Below W.heap.size W w' :=
  refsize_any (vsize v) v s W.heap.size W (Nat.le_refl _) (by have := vsize_wgt v; have := H.wx; omega) H.s (Nat.le_refl _)
theorem AskHold.isG (H : AskHold W v r x g h c s) : Calls Tryd.prog 23 #[.agg g, .agg h] W fun e w' => e = .returned (.bool true) ∧ Below W.heap.size W w' := by
  have := isLaw_any (orC r) (orV r) g h W.heap.size W (by have := H.wg; omega) H.g H.h (Nat.le_refl _)
  rw [same_or] at this
  exact this
theorem AskHold.isC (H : AskHold W v r x g h c s) : Calls Tryd.prog 23 #[.agg c, .agg s] W fun e w' => e = .returned (.bool true) ∧ Below W.heap.size W w' := by
  have := isLaw_any (canon v) v c s W.heap.size W (by have := H.wx; have := wgt_canon v; omega) H.c H.s (Nat.le_refl _)
  rw [same_canon] at this
  exact this
end Go.Proofs.YtbjgelkckmfjeaaDoor

namespace Go.Proofs.YtbjgelkckmfjeaaDoor
open Go.RowKit Go.Lib
set_option linter.unusedVariables false
set_option linter.unusedSimpArgs false

theorem Whole.on {w w' : World} {g : Nat} {t : TypeId} {cs : Array Value} (h : Whole w g t cs) (hb : Below w.heap.size w w') : Whole w' g t cs := h.below hb h.lt

set_option maxRecDepth 100000 in
set_option maxHeartbeats 8000000 in
theorem lawAsks_any (v : V) (c : C6) (key : ByteArray) (B M : Nat) (w : World) (hM : M ≤ 1000000000) (hw : wgt v ≤ 1000000000) (hv : Val w (· < B) M v c.arr) (hB : B ≤ w.heap.size) (hks : key.size ≤ 1000000000) (hG : Glob w) :
    Calls Tryd.prog 4 #[.agg c.arr, .string key] w fun e w' => e = .returned (.bool true) ∧ Below w.heap.size w w' := by
  obtain ⟨jk, jy, jn, jt, ja, jla, jca, jb, jlb, jcb⟩ := c
  have HV := Lib.hid (And.intro hv hG)
  have HF := Lib.hid (fun W (hW : Below w.heap.size w W) => few_any M hM 300 (by omega) v _ B W hw (hv.keep (fun p hp => hW.cell (Nat.lt_of_lt_of_le hp hB)) (fun _ h => h)) (Nat.le_trans hB hW.size))
  obtain ⟨W0, hW0⟩ : ∃ W0, w.alloc (.cells #[.int .i64 jk, .bool jy, .int .i64 jn, .string jt, .slice ja jla jca, .slice jb jlb jcb] 25) = W0 := ⟨_, rfl⟩
  have hb0 : Below w.heap.size w W0 := hW0 ▸ (Below.refl _ _).alloc (Nat.le_refl _) _
  have hw6 : Whole W0 w.heap.size 25 #[.int .i64 jk, .bool jy, .int .i64 jn, .string jt, .slice ja jla jca, .slice jb jlb jcb] := hW0 ▸ Whole.made _ _ _
  have H0 := Lib.hid (And.intro hb0 (And.intro hw6 hW0))
  have hz0 : w.heap.size < W0.heap.size := hw6.lt
  clear hv hG hW0 hb0 hw6
  dsimp only [C6.arr] at HF HV ⊢
  by_cases h300 : wgt v ≤ 300
  · have hdec : decide (wgt v ≤ 300) = true := decide_eq_true h300
    rw [hdec] at HF
    by_cases hk100 : key.size ≤ 100
    · have hk1 : (key.size : Int) ≤ 100 := by omega
      have hsm := HV.out.1.small (K := 300) (by omega) h300
      have HS := Lib.hid (And.intro hsm (And.intro h300 hB))
      have HRl := Lib.hid (fun W (hW : Below w.heap.size w W) => real_strong 300 v _ B W h300 (by omega) (hsm.keep (fun p hp => hW.cell (Nat.lt_of_lt_of_le hp hB)) (fun _ h => h)) (Nat.le_trans hB hW.size))
      unfold RealAnsU at HRl
      clear hdec hsm
      go_enter Tryd.func4, Tryd.ntmps4
      go_wp2_with fail
      rw [H0.out.2.2]
      refine (awake_any W0 (HV.out.2.below H0.out.1)).mono ?_
      rintro e W1 ⟨rfl, hb1⟩
      obtain ⟨x0, x1, x2, x3, x4, x5⟩ := (H0.out.2.1.below hb1 hz0).six
      have HB1 := Lib.hid (H0.out.1.trans (hb1.mono H0.out.1.size))
      have HD1 := Lib.hid (H0.out.2.1.below hb1 hz0)
      have hz1 : w.heap.size < W1.heap.size := lt_of_cell x0
      clear hb1
      go_wp2_with fail
      refine (HF.out W1 HB1.out).mono ?_
      rintro e W2 ⟨rfl, hb2⟩
      have HB2 := Lib.hid (HB1.out.trans (hb2.mono HB1.out.size))
      have HD2 := Lib.hid (HD1.out.on hb2)
      obtain ⟨y0, y1, y2, y3, y4, y5⟩ := HD2.out.six
      have hz2 : w.heap.size < W2.heap.size := HD2.out.lt
      clear hb2 x0 x1 x2 x3 x4 x5
      go_wp2_with fail
      refine (HRl.out W2 HB2.out).mono ?_
      rintro e W3 ⟨⟨o, rfl, ho⟩, hb3⟩
      obtain ⟨ok, oy, on, ot, oa, ola, oca, ob, olb, ocb⟩ := o
      dsimp only [C6.arr] at ho ⊢
      obtain ⟨W3', hW3⟩ : ∃ W, W3.alloc (.cells #[.int .i64 ok, .bool oy, .int .i64 on, .string ot, .slice oa ola oca, .slice ob olb ocb] 38) = W := ⟨_, rfl⟩
      have hwx : Whole W3' W3.heap.size 38 #[.int .i64 ok, .bool oy, .int .i64 on, .string ot, .slice oa ola oca, .slice ob olb ocb] := hW3 ▸ Whole.made _ _ _
      have hb3' : Below W3.heap.size W3 W3' := hW3 ▸ (Below.refl _ _).alloc (Nat.le_refl _) _
      have hdx := ((HD2.out.on hb3).on hb3')
      have hB3 := HB2.out.trans (((hb3.trans (hb3'.mono hb3.size))).mono HB2.out.size)
      have hGet := fun (hx : Val W3 (fun b => W2.heap.size ≤ b ∧ b < W3.heap.size ∧ Unfrozen W3 b) 1000000 v #[.int .i64 ok, .bool oy, .int .i64 on, .string ot, .slice oa ola oca, .slice ob olb ocb]) => (Get_any v key _ W3'.heap.size W3' ((hx.keep (fun p hp => hb3'.cell hp.2.1) (fun b hb => Nat.lt_of_lt_of_le hb.2.1 hb3'.size))) (Nat.le_refl _) (by have := vsize_wgt v; omega)).mono fun _ _ h => h.or
      have HG := Lib.hid (hGet ho)
      unfold GetOr at HG
      obtain ⟨x0, x1, x2, x3, x4, x5⟩ := hwx.six
      have H3 := Lib.hid (And.intro ho (And.intro hb3 (And.intro hb3' (And.intro hwx (And.intro hdx (And.intro hB3 hW3))))))
      have hz3 : W3.heap.size < W3'.heap.size := hwx.lt
      clear ho hb3 hb3' hdx hB3 hGet hwx hW3 y0 y1 y2 y3 y4 y5
      go_wp2_with fail
      rw [H3.out.2.2.2.2.2.2]
      refine HG.out.mono ?_
      rintro e W4 ⟨g, rfl, hb4, hg4⟩
      obtain ⟨pk, py, pn, pt, pa, pla, pca, pb, plb, pcb⟩ := g
      dsimp only [C6.arr] at hg4 ⊢
      obtain ⟨W4', hW4⟩ : ∃ W, W4.alloc (.cells #[.int .i64 pk, .bool py, .int .i64 pn, .string pt, .slice pa pla pca, .slice pb plb pcb] 38) = W := ⟨_, rfl⟩
      have hwg : Whole W4' W4.heap.size 38 #[.int .i64 pk, .bool py, .int .i64 pn, .string pt, .slice pa pla pca, .slice pb plb pcb] := hW4 ▸ Whole.made _ _ _
      have hb4' : Below W4.heap.size W4 W4' := hW4 ▸ (Below.refl _ _).alloc (Nat.le_refl _) _
      have hbb4 : Below W3'.heap.size W3' W4' := hb4.trans (hb4'.mono hb4.size)
      have hdj := H3.out.2.2.2.2.1.on hbb4
      have hdo := H3.out.2.2.2.1.on hbb4
      have hB4 : Below w.heap.size w W4' := H3.out.2.2.2.2.2.1.trans (hbb4.mono H3.out.2.2.2.2.2.1.size)
      have HRG := Lib.hid ((refget_any v key _ B W4' (HS.out.1.keep (fun p hp => hB4.cell (Nat.lt_of_lt_of_le hp hB)) (fun _ h => h)) (Nat.le_trans hB hB4.size)).mono fun _ _ h => h.or)
      unfold RGetOr at HRG
      obtain ⟨r, hr⟩ : ∃ r, getV v key = r := ⟨_, rfl⟩
      have hwr : wgt (orC r) ≤ 300 := by rw [← hr]; have := wgt_or v key; omega
      rw [hr] at HRG hg4 ⊢
      clear hr
      obtain ⟨y0, y1, y2, y3, y4, y5⟩ := (H3.out.2.2.2.2.1.on hb4).six
      have hzj : w.heap.size < W4.heap.size := lt_of_cell y0
      have H4 := Lib.hid (And.intro hg4 (And.intro hb4 (And.intro hb4' (And.intro hwg (And.intro hdj (And.intro hdo (And.intro hB4 (And.intro hW4 hwr))))))))
      clear hg4 hb4 hb4' hbb4 hdj hdo hB4 hwg hW4 hwr x0 x1 x2 x3 x4 x5 HG
      go_wp2_with fail
      rw [H4.out.2.2.2.2.2.2.2.1]
      refine HRG.out.mono ?_
      rintro e W5 ⟨h, rfl, hb5, hh5⟩
      obtain ⟨qk, qy, qn, qt, qa, qla, qca, qb, qlb, qcb⟩ := h
      dsimp only [C6.arr] at hh5 ⊢
      obtain ⟨W5', hW5⟩ : ∃ W, W5.alloc (.cells #[.int .i64 qk, .bool qy, .int .i64 qn, .string qt, .slice qa qla qca, .slice qb qlb qcb] 25) = W := ⟨_, rfl⟩
      have hwh : Whole W5' W5.heap.size 25 #[.int .i64 qk, .bool qy, .int .i64 qn, .string qt, .slice qa qla qca, .slice qb qlb qcb] := hW5 ▸ Whole.made _ _ _
      have hb5' : Below W5.heap.size W5 W5' := hW5 ▸ (Below.refl _ _).alloc (Nat.le_refl _) _
      have hbb5 : Below W4'.heap.size W4' W5' := hb5.trans (hb5'.mono hb5.size)
      have hdj := H4.out.2.2.2.2.1.on hbb5
      have hdo := H4.out.2.2.2.2.2.1.on hbb5
      have hdg := H4.out.2.2.2.1.on hbb5
      have hB5 : Below w.heap.size w W5' := H4.out.2.2.2.2.2.2.1.trans (hbb5.mono H4.out.2.2.2.2.2.2.1.size)
      -- all that came behind Real left its memory alone
      have hbx : Below W3.heap.size W3 W5' := H3.out.2.2.1.trans (((H4.out.2.1.trans (H4.out.2.2.1.mono H4.out.2.1.size)).trans (hbb5.mono (H4.out.2.1.trans (H4.out.2.2.1.mono H4.out.2.1.size)).size)).mono H3.out.2.2.1.size)
      have hvx : Val W5' (fun b => W2.heap.size ≤ b ∧ b < W3.heap.size ∧ Unfrozen W3 b) 1000000 v #[.int .i64 ok, .bool oy, .int .i64 on, .string ot, .slice oa ola oca, .slice ob olb ocb] := H3.out.1.keep (fun p hp => hbx.cell hp.2.1) (fun _ h => h)
      have HCp := Lib.hid (Copy_any v _ W5'.heap.size W5' (hvx.keep (fun _ _ => rfl) (fun b hb => Nat.lt_of_lt_of_le hb.2.1 hbx.size)) (Nat.le_refl _) (by have := vsize_wgt v; omega))
      obtain ⟨x0, x1, x2, x3, x4, x5⟩ := (H4.out.2.2.2.2.2.1.on hb5).six
      have hzo : W3.heap.size < W5.heap.size := lt_of_cell x0
      have hhv : Val W5' (· < W5'.heap.size) 1000000 (orV r) #[.int .i64 qk, .bool qy, .int .i64 qn, .string qt, .slice qa qla qca, .slice qb qlb qcb] := hh5.keep (fun p hp => hbb5.cell (Nat.lt_of_lt_of_le (Nat.lt_of_lt_of_le hp hB) H4.out.2.2.2.2.2.2.1.size)) (fun b hb => Nat.lt_of_lt_of_le (Nat.lt_of_lt_of_le hb hB) hB5.size)
      have hgv : Val W5' (· < W5'.heap.size) 1000000 (orC r) #[.int .i64 pk, .bool py, .int .i64 pn, .string pt, .slice pa pla pca, .slice pb plb pcb] := (val_on H4.out.1 (H4.out.2.2.1)).keep (fun p hp => hbb5.cell hp) (fun b hb => Nat.lt_of_lt_of_le hb hbb5.size)
      have H5 := Lib.hid (And.intro hvx (And.intro hhv (And.intro hgv (And.intro hwh (And.intro hdj (And.intro hdo (And.intro hdg (And.intro hB5 (And.intro hW5 hbx)))))))))
      have hwr := H4.out.2.2.2.2.2.2.2.2
      clear hvx hhv hgv hwh hdj hdo hdg hB5 hW5 hbx hb5 hb5' hbb5 hh5 y0 y1 y2 y3 y4 y5 HRG
      go_wp2_with fail
      rw [H5.out.2.2.2.2.2.2.2.2.1]
      refine HCp.out.mono ?_
      rintro e W6 ⟨⟨u, rfl, hcv⟩, hb6⟩
      obtain ⟨uk, uy, un, ut, ua, ula, uca, ub, ulb, ucb⟩ := u
      dsimp only [C6.arr] at hcv ⊢
      obtain ⟨W, hW⟩ : ∃ W, W6.alloc (.cells #[.int .i64 uk, .bool uy, .int .i64 un, .string ut, .slice ua ula uca, .slice ub ulb ucb] 38) = W := ⟨_, rfl⟩
      have hwu : Whole W W6.heap.size 38 #[.int .i64 uk, .bool uy, .int .i64 un, .string ut, .slice ua ula uca, .slice ub ulb ucb] := hW ▸ Whole.made _ _ _
      have hb6' : Below W6.heap.size W6 W := hW ▸ (Below.refl _ _).alloc (Nat.le_refl _) _
      have hbb6 : Below W5'.heap.size W5' W := hb6.trans (hb6'.mono hb6.size)
      have hB6 : Below w.heap.size w W := H5.out.2.2.2.2.2.2.2.1.trans (hbb6.mono H5.out.2.2.2.2.2.2.2.1.size)
      have hbx : Below W3.heap.size W3 W := H5.out.2.2.2.2.2.2.2.2.2.trans (hbb6.mono H5.out.2.2.2.2.2.2.2.2.2.size)
      have hvx : Val W (fun b => W2.heap.size ≤ b ∧ b < W3.heap.size ∧ Unfrozen W3 b) 1000000 v #[.int .i64 ok, .bool oy, .int .i64 on, .string ot, .slice oa ola oca, .slice ob olb ocb] := H5.out.1.keep (fun p hp => hbb6.cell (Nat.lt_of_lt_of_le hp.2.1 H5.out.2.2.2.2.2.2.2.2.2.size)) (fun _ h => h)
      have hvs : Val W (· < B) 1000000 v #[.int .i64 jk, .bool jy, .int .i64 jn, .string jt, .slice ja jla jca, .slice jb jlb jcb] := HS.out.1.keep (fun p hp => hB6.cell (Nat.lt_of_lt_of_le hp hB)) (fun _ h => h)
      have hvc : Val W (fun b => W5'.heap.size ≤ b ∧ b < W6.heap.size) 1000000 (canon v) #[.int .i64 uk, .bool uy, .int .i64 un, .string ut, .slice ua ula uca, .slice ub ulb ucb] := hcv.keep (fun p hp => hb6'.cell hp.2) (fun _ h => h)
      have hhold : AskHold W v r #[.int .i64 ok, .bool oy, .int .i64 on, .string ot, .slice oa ola oca, .slice ob olb ocb] #[.int .i64 pk, .bool py, .int .i64 pn, .string pt, .slice pa pla pca, .slice pb plb pcb] #[.int .i64 qk, .bool qy, .int .i64 qn, .string qt, .slice qa qla qca, .slice qb qlb qcb] #[.int .i64 uk, .bool uy, .int .i64 un, .string ut, .slice ua ula uca, .slice ub ulb ucb] #[.int .i64 jk, .bool jy, .int .i64 jn, .string jt, .slice ja jla jca, .slice jb jlb jcb] :=
        ⟨HS.out.2.1, hwr, hvx.keep (fun _ _ => rfl) (fun b hb => Nat.lt_of_lt_of_le hb.2.1 hbx.size), val_on H5.out.2.2.1 hbb6, val_on H5.out.2.1 hbb6, hvc.keep (fun _ _ => rfl) (fun b hb => Nat.lt_of_lt_of_le hb.2 hb6'.size), hvs.keep (fun _ _ => rfl) (fun b hb => Nat.lt_of_lt_of_le (Nat.lt_of_lt_of_le hb hB) hB6.size)⟩
      have d0 := H5.out.2.2.2.2.1.on hbb6
      have d1 := H5.out.2.2.2.2.2.1.on hbb6
      have d2 := H5.out.2.2.2.2.2.2.1.on hbb6
      have d3 := H5.out.2.2.2.1.on hbb6
      clear x0 x1 x2 x3 x4 x5
      obtain ⟨a0, a1, a2, a3, a4, a5⟩ := d0.six
      obtain ⟨b0, b1, b2, b3, b4, b5⟩ := d1.six
      obtain ⟨c0, c1, c2, c3, c4, c5⟩ := d2.six
      obtain ⟨e0, e1, e2, e3, e4, e5⟩ := d3.six
      obtain ⟨f0, f1, f2, f3, f4, f5⟩ := hwu.six
      have hz1 : w.heap.size < W.heap.size := d0.lt
      have hz2' : W3.heap.size < W.heap.size := d1.lt
      have hz3' : W4.heap.size < W.heap.size := d2.lt
      have hz4 : W5.heap.size < W.heap.size := d3.lt
      have hz5 : W6.heap.size < W.heap.size := hwu.lt
      have hz5w : W6.heap.size < W.heap.size := hwu.lt
      have H6 := Lib.hid (And.intro hhold (And.intro hvx (And.intro hvs (And.intro hvc (And.intro hB6 (And.intro hbx (And.intro hW (And.intro hb6 (And.intro d1 (And.intro d0 hwu))))))))))
      have hnd : ((dep v : Int) != (dep v : Int)) = false := by simp
      have hns : ((vsize v : Int) != (vsize v : Int)) = false := by simp
      have hnr : (r.isSome != r.isSome) = false := by simp
      have hsz65 : W5'.heap.size ≤ W6.heap.size := hb6.size
      have hzB : W2.heap.size ≤ W3.heap.size := H3.out.2.1.size
      have hz35 : W3.heap.size ≤ W5'.heap.size := H5.out.2.2.2.2.2.2.2.2.2.size
      have hzB2 : w.heap.size ≤ W2.heap.size := HB2.out.size
      clear hhold hvx hvs hvc hB6 hbx hb6 hb6' hbb6 hcv d0 d1 d2 d3 hwu hwr HCp hW HB1 HD1 HD2
      clear H0 HF HV HRl HB2 H3 H4 H5
      go_wp2_with fail
      rw [H6.out.2.2.2.2.2.2.1]
      go_region_held3 (fun w' => w'.cell? ⟨w.heap.size, 0, none⟩ = some (.int .i64 jk) ∧ w'.cell? ⟨w.heap.size, 1, none⟩ = some (.bool jy) ∧ w'.cell? ⟨w.heap.size, 2, none⟩ = some (.int .i64 jn) ∧ w'.cell? ⟨w.heap.size, 3, none⟩ = some (.string jt) ∧ w'.cell? ⟨w.heap.size, 4, none⟩ = some (.slice ja jla jca) ∧ w'.cell? ⟨w.heap.size, 5, none⟩ = some (.slice jb jlb jcb) ∧ w'.cell? ⟨W3.heap.size, 0, none⟩ = some (.int .i64 ok) ∧ w'.cell? ⟨W3.heap.size, 1, none⟩ = some (.bool oy) ∧ w'.cell? ⟨W3.heap.size, 2, none⟩ = some (.int .i64 on) ∧ w'.cell? ⟨W3.heap.size, 3, none⟩ = some (.string ot) ∧ w'.cell? ⟨W3.heap.size, 4, none⟩ = some (.slice oa ola oca) ∧ w'.cell? ⟨W3.heap.size, 5, none⟩ = some (.slice ob olb ocb) ∧ w'.cell? ⟨W4.heap.size, 0, none⟩ = some (.int .i64 pk) ∧ w'.cell? ⟨W4.heap.size, 1, none⟩ = some (.bool py) ∧ w'.cell? ⟨W4.heap.size, 2, none⟩ = some (.int .i64 pn) ∧ w'.cell? ⟨W4.heap.size, 3, none⟩ = some (.string pt) ∧ w'.cell? ⟨W4.heap.size, 4, none⟩ = some (.slice pa pla pca) ∧ w'.cell? ⟨W4.heap.size, 5, none⟩ = some (.slice pb plb pcb) ∧ w'.cell? ⟨W5.heap.size, 0, none⟩ = some (.int .i64 qk) ∧ w'.cell? ⟨W5.heap.size, 1, none⟩ = some (.bool qy) ∧ w'.cell? ⟨W5.heap.size, 2, none⟩ = some (.int .i64 qn) ∧ w'.cell? ⟨W5.heap.size, 3, none⟩ = some (.string qt) ∧ w'.cell? ⟨W5.heap.size, 4, none⟩ = some (.slice qa qla qca) ∧ w'.cell? ⟨W5.heap.size, 5, none⟩ = some (.slice qb qlb qcb) ∧ w'.cell? ⟨W6.heap.size, 0, none⟩ = some (.int .i64 uk) ∧ w'.cell? ⟨W6.heap.size, 1, none⟩ = some (.bool uy) ∧ w'.cell? ⟨W6.heap.size, 2, none⟩ = some (.int .i64 un) ∧ w'.cell? ⟨W6.heap.size, 3, none⟩ = some (.string ut) ∧ w'.cell? ⟨W6.heap.size, 4, none⟩ = some (.slice ua ula uca) ∧ w'.cell? ⟨W6.heap.size, 5, none⟩ = some (.slice ub ulb ucb))
        (first | go_keep | (go_split_ands; refine ⟨?_, ?_, ?_, ?_, ?_, ?_, ?_, ?_, ?_, ?_, ?_, ?_, ?_, ?_, ?_, ?_, ?_, ?_, ?_, ?_, ?_, ?_, ?_, ?_, ?_, ?_, ?_, ?_, ?_, ?_⟩ <;> (refine (hb.cell ?_).trans ?_ <;> assumption)))
        (first
          | (go_at_call 19; refine ((H6.out.1.below (?h1 : Below W.heap.size W _)).depth).mono ?_; (first | exact Below.refl _ _ | exact (Below.refl _ _).drew); rintro e W7 ⟨rfl, hb⟩
             have K7 := Lib.hid (((Below.refl W.heap.size W).drew).trans hb)
             have hz1 := Nat.lt_of_lt_of_le hz1 hb.size
             have hz2' := Nat.lt_of_lt_of_le hz2' hb.size
             have hz3' := Nat.lt_of_lt_of_le hz3' hb.size
             have hz4 := Nat.lt_of_lt_of_le hz4 hb.size
             have hz5 := Nat.lt_of_lt_of_le hz5 hb.size)
          | (go_at_call 20; clear hb; refine ((H6.out.1.below K7.out).rdepth).mono ?_; rintro e W8 ⟨rfl, hb⟩
             have K8 := Lib.hid (K7.out.trans (hb.mono K7.out.size))
             have hz1 := Nat.lt_of_lt_of_le hz1 hb.size
             have hz2' := Nat.lt_of_lt_of_le hz2' hb.size
             have hz3' := Nat.lt_of_lt_of_le hz3' hb.size
             have hz4 := Nat.lt_of_lt_of_le hz4 hb.size
             have hz5 := Nat.lt_of_lt_of_le hz5 hb.size)
          | (go_at_call 21; clear hb; refine ((H6.out.1.below K8.out).size).mono ?_; rintro e W9 ⟨rfl, hb⟩
             have K9 := Lib.hid (K8.out.trans (hb.mono K8.out.size))
             have hz1 := Nat.lt_of_lt_of_le hz1 hb.size
             have hz2' := Nat.lt_of_lt_of_le hz2' hb.size
             have hz3' := Nat.lt_of_lt_of_le hz3' hb.size
             have hz4 := Nat.lt_of_lt_of_le hz4 hb.size
             have hz5 := Nat.lt_of_lt_of_le hz5 hb.size)
          | (go_at_call 22; clear hb; refine ((H6.out.1.below K9.out).rsize).mono ?_; rintro e W10 ⟨rfl, hb⟩
             have K10 := Lib.hid (K9.out.trans (hb.mono K9.out.size))
             have hz1 := Nat.lt_of_lt_of_le hz1 hb.size
             have hz2' := Nat.lt_of_lt_of_le hz2' hb.size
             have hz3' := Nat.lt_of_lt_of_le hz3' hb.size
             have hz4 := Nat.lt_of_lt_of_le hz4 hb.size
             have hz5 := Nat.lt_of_lt_of_le hz5 hb.size)
          | (go_at_call 23; clear hb; refine ((H6.out.1.below K10.out).isG).mono ?_; rintro e W11 ⟨rfl, hb⟩
             have K11 := Lib.hid (K10.out.trans (hb.mono K10.out.size))
             have hz1 := Nat.lt_of_lt_of_le hz1 hb.size
             have hz2' := Nat.lt_of_lt_of_le hz2' hb.size
             have hz3' := Nat.lt_of_lt_of_le hz3' hb.size
             have hz4 := Nat.lt_of_lt_of_le hz4 hb.size
             have hz5 := Nat.lt_of_lt_of_le hz5 hb.size)
          | (go_at_call 23; clear hb; refine ((H6.out.1.below K11.out).isC).mono ?_; rintro e W12 ⟨rfl, hb⟩
             have K12 := Lib.hid (K11.out.trans (hb.mono K11.out.size))
             have hz1 := Nat.lt_of_lt_of_le hz1 hb.size
             have hz2' := Nat.lt_of_lt_of_le hz2' hb.size
             have hz3' := Nat.lt_of_lt_of_le hz3' hb.size
             have hz4 := Nat.lt_of_lt_of_le hz4 hb.size
             have hz5 := Nat.lt_of_lt_of_le hz5 hb.size))
      clear hb
      have hbx := H6.out.2.2.2.2.2.1
      have hbx12 : Below W3.heap.size W3 W12 := hbx.trans (K12.out.mono hbx.size)
      have hsh : Sh W12 (fun b => W2.heap.size ≤ b ∧ b < W3.heap.size ∧ Unfrozen W12 b) 1000000 v W3.heap.size 0 := by
        refine Val.sh (cs := #[.int .i64 ok, .bool oy, .int .i64 on, .string ot, .slice oa ola oca, .slice ob olb ocb]) (fun b hb => hb.2.2) (H6.out.2.1.keep (fun p hp => K12.out.cell (Nat.lt_of_lt_of_le hp.2.1 hbx.size)) (fun b hb => ⟨hb.1, hb.2.1, hb.2.2.same (hbx12.block b hb.2.1)⟩)) (fun q hq => ?_)
        have := (H6.out.2.2.2.2.2.2.2.2.1.on K12.out).cell q
        rw [Nat.zero_add]; exact this
      have HT := Lib.hid (turn_any _ (wgt v) v W3.heap.size 0 1000000 W12 (Nat.le_refl _) hsh (by omega))
      clear hsh hbx hbx12
      go_wp2_with fail
      refine HT.out.mono ?_
      rintro e W13 ⟨rfl, hM⟩
      have nq1 : ∀ k, k ≤ w.heap.size → ¬ (W2.heap.size ≤ k ∧ k < W3.heap.size ∧ Unfrozen W12 k) := fun k hk h => by have := h.1; omega
      have nq2 : ∀ k, W5'.heap.size ≤ k → ¬ (W2.heap.size ≤ k ∧ k < W3.heap.size ∧ Unfrozen W12 k) := fun k hk h => by have := h.2.1; omega
      have wj : Whole W13 w.heap.size 25 #[.int .i64 jk, .bool jy, .int .i64 jn, .string jt, .slice ja jla jca, .slice jb jlb jcb] := (hM.far _ (nq1 _ (Nat.le_refl _))).trans (H6.out.2.2.2.2.2.2.2.2.2.1.on K12.out)
      have wu : Whole W13 W6.heap.size 38 #[.int .i64 uk, .bool uy, .int .i64 un, .string ut, .slice ua ula uca, .slice ub ulb ucb] := (hM.far _ (nq2 _ hsz65)).trans (H6.out.2.2.2.2.2.2.2.2.2.2.on K12.out)
      have hB12 : Below w.heap.size w W12 := H6.out.2.2.2.2.1.trans (K12.out.mono H6.out.2.2.2.2.1.size)
      have hB13 : Below w.heap.size w W13 := hB12.trans ⟨hM.os, hM.tape, hM.output, Nat.le_of_eq hM.size.symm, fun k hk => hM.far k (nq1 k (Nat.le_of_lt hk))⟩
      have vj : Val W13 (· < W13.heap.size) 1000000 v #[.int .i64 jk, .bool jy, .int .i64 jn, .string jt, .slice ja jla jca, .slice jb jlb jcb] := HS.out.1.keep (fun p hp => hB13.cell (Nat.lt_of_lt_of_le hp hB)) (fun b hb => Nat.lt_of_lt_of_le (Nat.lt_of_lt_of_le hb hB) hB13.size)
      have vu : Val W13 (· < W13.heap.size) 1000000 (canon v) #[.int .i64 uk, .bool uy, .int .i64 un, .string ut, .slice ua ula uca, .slice ub ulb ucb] := H6.out.2.2.2.1.keep (fun p hp => (World.cell?_of_block (hM.far _ (nq2 _ hp.1))).trans (K12.out.cell (Nat.lt_trans hp.2 hz5w))) (fun b hb => by have h1 := K12.out.size; have h2 := hM.size; have := hb.2; omega)
      have HI := Lib.hid (isLaw_any (canon v) v _ _ W13.heap.size W13 (by have := wgt_canon v; omega) vu vj (Nat.le_refl _))
      rw [same_canon] at HI
      have HB13 := Lib.hid hB13
      obtain ⟨a0, a1, a2, a3, a4, a5⟩ := wj.six
      obtain ⟨f0, f1, f2, f3, f4, f5⟩ := wu.six
      clear hM nq1 nq2 wj wu hB12 hB13 vj vu
      go_wp2_with fail
      refine HI.out.mono ?_
      rintro e W14 ⟨rfl, hb14⟩
      go_wp2_with fail
      go_ret
      exact ⟨rfl, HB13.out.trans (hb14.mono HB13.out.size)⟩
    · have hk1 : (100 : Int) < (key.size : Int) := by omega
      clear hdec hk100
      go_enter Tryd.func4, Tryd.ntmps4
      go_wp2_with fail
      rw [H0.out.2.2]
      refine (awake_any W0 (HV.out.2.below H0.out.1)).mono ?_
      rintro e W1 ⟨rfl, hb1⟩
      obtain ⟨x0, x1, x2, x3, x4, x5⟩ := (H0.out.2.1.below hb1 hz0).six
      have HB1 := Lib.hid (H0.out.1.trans (hb1.mono H0.out.1.size))
      have hz1 : w.heap.size < W1.heap.size := lt_of_cell x0
      clear hb1
      go_wp2_with fail
      refine (HF.out W1 HB1.out).mono ?_
      rintro e W2 ⟨rfl, hb2⟩
      have HB2 := Lib.hid (HB1.out.trans (hb2.mono HB1.out.size))
      clear hb2 x0 x1 x2 x3 x4 x5
      go_wp2_with fail
      refine (awake_any W2 (HV.out.2.below HB2.out)).mono ?_
      rintro e W3 ⟨rfl, hb3⟩
      go_wp2_with fail
      go_ret
      exact ⟨rfl, HB2.out.trans (hb3.mono HB2.out.size)⟩
  · have hdec : decide (wgt v ≤ 300) = false := decide_eq_false h300
    rw [hdec] at HF
    clear hdec h300
    go_enter Tryd.func4, Tryd.ntmps4
    go_wp2_with fail
    rw [H0.out.2.2]
    refine (awake_any W0 (HV.out.2.below H0.out.1)).mono ?_
    rintro e W1 ⟨rfl, hb1⟩
    obtain ⟨x0, x1, x2, x3, x4, x5⟩ := (H0.out.2.1.below hb1 hz0).six
    have HB1 := Lib.hid (H0.out.1.trans (hb1.mono H0.out.1.size))
    have hz1 : w.heap.size < W1.heap.size := lt_of_cell x0
    clear hb1
    go_wp2_with fail
    refine (HF.out W1 HB1.out).mono ?_
    rintro e W2 ⟨rfl, hb2⟩
    have HB2 := Lib.hid (HB1.out.trans (hb2.mono HB1.out.size))
    clear hb2 x0 x1 x2 x3 x4 x5
    go_wp2_with fail
    refine (awake_any W2 (HV.out.2.below HB2.out)).mono ?_
    rintro e W3 ⟨rfl, hb3⟩
    go_wp2_with fail
    go_ret
    exact ⟨rfl, HB2.out.trans (hb3.mono HB2.out.size)⟩
end Go.Proofs.YtbjgelkckmfjeaaDoor

namespace Go.Proofs.YtbjgelkckmfjeaaDoor.valueAsks
open Go.ChangeMaps Go.ChangeShapes Go.WideShapes Go.ChangeAt Go.RowKit Go.Lib
set_option linter.unusedVariables false
set_option linter.unusedSimpArgs false

theorem laidOut : laidOutB Tryd.prog = true := by kernel_rfl

set_option maxRecDepth 100000 in
/-- What the walk gives, for every argument of that bulk and every world that holds the variables. -/
theorem contract (H : Type) (enc : TypeId × Value → H) (W : World) (base : Nat) (args : Array Value) (ds gs : List (DataW H)) (before : List MemPlace)
    (hval : ∀ (j : Nat) t v, Tryd.f4.params[j]? = some t → args[j]? = some v → Value.okWide Tryd.prog W .any base t v)
    (hW : DataW.Whole enc Tryd.prog Tryd.f4.params.toList Rows.valueAsksSpec.vars false W args.toList ds gs before) (hL : laidMetH Tryd.prog Rows.valueAsksRow.laid W) (hk : Rows.uptoBulkAll (ds ++ gs) ≤ 1048576) :
    Calls Tryd.prog 4 args W fun e W' => ∃ v, e = .returned v ∧ Rows.valueAsksSpec.post enc Tryd.prog Tryd.f4 false true false false W args v W' := by
  have hG : Glob W := glob_of_laid hL
  have hW' := hW
  obtain ⟨p, q, hA0, hV, rfl, hfz, hnd⟩ := hW
  have hA : DataW.TrodAll enc Tryd.prog W 0 (fun _ => true) true Tryd.f4.params.toList args.toList ds p := hA0
  rw [Tryd.params4] at hA hval
  obtain ⟨v0, v1, d0, d1, p0, p1, rfl, rfl, rfl, h0, h1⟩ := trodAll_two hA
  obtain ⟨rfl, rfl⟩ := trodVars_none hV
  have h1k := h1
  obtain ⟨key, rfl, rfl, rfl, hkey⟩ := open_string Tryd.underlying9 (hval 1 9 v1 rfl rfl) h1
  obtain ⟨cs, rfl, hcs⟩ := okWide_struct Tryd.underlying25 (hval 0 25 v0 rfl rfl)
  have h0k := h0
  obtain ⟨fuel, hf⟩ := h0
  clear hA0
  simp only [List.append_nil] at hW' hk
  have hk1 : Rows.uptoBulk d0 ≤ 1048576 ∧ key.size ≤ 1048576 := by
    have h2 : key.data.toList.length = key.size := by rw [Array.length_toList]; rfl
    simp [Rows.uptoBulkAll, Rows.uptoBulk] at hk
    simp at h2
    omega
  obtain ⟨v, c, hc, hv, hw⟩ := open_V (M := 1048576) 1048576 fuel _ _ hf hk1.1 (Nat.le_refl _)
  obtain rfl : cs = c.arr := by
    have h1 : cs.toList = c.arr.toList := hc
    exact Array.toList_inj.1 h1
  have hlt : ∀ x ∈ p0, x.block < W.heap.size := fun x hx => by simpa using hW'.lt x hx
  have e1 : Rows.valueAsksSpec.fn H ([d0, .lit (.string key.data.toList)] ++ []) = { results := [.lit (.bool true)], args := [d0, .lit (.string key.data.toList)] } := rfl
  have fin : ∀ (W' : World), Below W.heap.size W W' → Rows.valueAsksSpec.post enc Tryd.prog Tryd.f4 false true false false W #[.agg c.arr, .string key] (.bool true) W' := by
    intro W' hnx
    refine ⟨_, _, _, [], p0 ++ [], [], hW', ?_, ?_, by rw [e1]; rfl, hnx.frame _, fun h => by cases h⟩
    · rw [e1]; exact trodAll_mk1 (shut_bool Tryd.underlying4 true)
    · rw [e1]; exact trodAll_mk2 (Below.trod laidOut (by kernel_rfl) (of_decide_eq_true (by kernel_rfl)) h0k hnx hlt) (shut_string Tryd.underlying9 hkey)
  refine (lawAsks_any v c key W.heap.size 1048576 W (by omega) (by have : Rows.uptoBulk (d0, p0).1 = Rows.uptoBulk d0 := rfl; omega) hv (Nat.le_refl _) (by omega) hG).mono fun e W' ⟨he, hb⟩ => ?_
  subst he
  exact ⟨_, rfl, fin W' hb⟩

theorem reads (os : Os) {H : Type} (enc : TypeId × Value → H) : ∃ places, DataW.whole enc Tryd.prog ((laidWorld os).forCall (fun _ _ => 0) ⟨#[], #[.agg zero6, .string ⟨#[]⟩], []⟩).memory Tryd.f4.params.toList Rows.valueAsksSpec.vars false #[Value.agg zero6, Value.string ⟨#[]⟩].toList 8 = some ([.agg [.lit (.int .i64 0), .lit (.bool false), .lit (.int .i64 0), .lit (.string []), .nil, .nil], .lit (.string [])], [], places) :=
  ⟨[], by kernel_rfl⟩

set_option maxRecDepth 100000 in
theorem lifted (os : Os) (started : os.Started) (H : Type) (enc : TypeId × Value → H) (F : Stop.Interp) :
    ReturnsInHanded {} Tryd.checked os 4 .any ((Rows.OpenSpec.upto Rows.valueAsksSpec).preRow enc Tryd.prog Tryd.f4 Rows.valueAsksUptoRow.domain false Rows.valueAsksUptoRow.laid) (((Rows.OpenSpec.upto Rows.valueAsksSpec).at F).post enc Tryd.prog Tryd.f4 false true false false) := by
  obtain ⟨places, hx⟩ := reads os enc
  refine returnsInHanded_of_row (C := Tryd.checked) (s := Rows.OpenSpec.upto Rows.valueAsksSpec) own started (by kernel_rfl) Tryd.func4
    (witness_row_at (enc := enc) (C := Tryd.checked) false (laidWorld os) #[.agg zero6, .string ⟨#[]⟩] rfl (by kernel_rfl) (by kernel_rfl) (by kernel_rfl)
      (OpenSpec.preRow_of_cond 8 hx (by kernel_rfl) (fun k hk => by cases hk; kernel_rfl) (by kernel_rfl) (laid_met os _))) ?_
  intro W base args ds gs before hval hW _ hcond _ hL _ _
  refine contract H enc W base args ds gs before hval hW hL ?_
  have h := of_decide_eq_true (hcond _ rfl)
  exact h

theorem said : Rows.ValueAsksUptoSaid :=
  OpenClaim.holds_of_cond 4 Tryd.f4 rfl rfl rfl rfl rfl rfl rfl ⟨rfl, rfl, rfl, rfl, rfl⟩ rfl rfl rfl rfl rfl (by kernel_rfl) Tryd.func4 (by kernel_rfl)
    (of_decide_eq_true (by kernel_rfl)) (by unfold Func.isWrapper; first | (rw [if_pos (by decide +kernel)]; kernel_rfl) | (rw [if_neg (by decide +kernel)]; exact ⟨rfl, rfl⟩))
    (fun os started H enc _ F => by rw [OpenClaim.pre_eq_preRow]; exact lifted os started H enc F)

theorem plain (f : FuncId) (fn : Func) (hf : Tryd.pinned.checked.prog.funcNamed "enfilade/enfiladelaw01.ValueAsks" = some f) (hfn : Tryd.pinned.checked.prog.funcs[f]? = some fn) :
    true = Tryd.pinned.checked.prog.looks [] ∧ ∀ (j : Nat) t, fn.params[j]? = some t → Tryd.pinned.checked.prog.wantsStandIn t = false := by
  obtain rfl : f = 4 := Option.some.inj ((show Tryd.prog.funcNamed "enfilade/enfiladelaw01.ValueAsks" = some 4 by kernel_rfl).symm.trans hf) |>.symm
  obtain rfl : fn = Tryd.f4 := (Option.some.inj (Tryd.func4.symm.trans hfn)).symm
  refine ⟨by kernel_rfl, fun j t ht => ?_⟩
  rw [Tryd.params4] at ht
  rcases (by simpa using Array.mem_of_getElem? ht : t = 25 ∨ t = 9) with rfl | rfl
  · exact (show Tryd.prog.wantsStandIn 25 = false by kernel_rfl)
  · exact (show Tryd.prog.wantsStandIn 9 = false by kernel_rfl)

theorem card : Rows.ValueAsksUptoCardSaid :=
  Claim7.holds_tied_plain_at .later [] _ _ _ _ said (fun _ h => by cases h) (by kernel_rfl) (fun _ h => by cases h) valueAsksUpto_row_tie rfl ⟨rfl, rfl⟩ (by kernel_rfl) rfl plain (by kernel_rfl)
end Go.Proofs.YtbjgelkckmfjeaaDoor.valueAsks
namespace Go.Proofs.YtbjgelkckmfjeaaDoor
theorem valueAsks_card : Rows.ValueAsksUptoCardSaid := valueAsks.card
end Go.Proofs.YtbjgelkckmfjeaaDoor
