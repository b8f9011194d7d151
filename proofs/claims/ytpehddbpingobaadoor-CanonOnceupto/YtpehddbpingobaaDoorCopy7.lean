/-
  value.Copy, walked: it answers what counts of the value, all of it in new memory.
-/
import Derived.Test.YtpehddbpingobaaDoorCopy6
namespace Go.Proofs.YtpehddbpingobaaDoor
open Go.RowKit Go.Lib
set_option linter.unusedVariables false
set_option linter.unusedSimpArgs false

theorem copy_leaf {w wr : World} {d dc : V} {g3 : Nat} {otop oc : C6} {H : Hold} {st : List (V × C6)} {gO cap gk : Nat}
    (hI : Inv w wr 1000000 H (fun g _ => g ∉ stBlocks (st ++ [(dc, oc)]))) (hb : Base w g3 otop d H (st ++ [(dc, oc)]) (.slice (some ⟨gO, 0, none⟩) (st.length + 1) cap) wr) (hk : stSize (st ++ [(dc, oc)]) = gk) (hkb : gk ≤ 1000000000) (hn : nodeOf dc oc = none) (hv : vsize dc = 1) :
    CopyRel w d g3 otop (gk - 1) (.slice (some ⟨gO, 0, none⟩) st.length cap) (wr.alloc (.cells oc.arr 39)) := by
  have hS : stBlocks (st ++ [(dc, oc)]) = stBlocks st := by simp [stBlocks, List.filterMap_append, hn]
  rw [hS] at hI
  refine ⟨H, st, hI.frame fun g' x h => Below.heap_alloc _ _ _ (hI.lt h), hb.pop _, ?_, by omega⟩
  rw [stSize_append] at hk
  simp only [stSize] at hk
  omega

/-- copyAlone's answer, its six cells one by one. -/
def CA6 (W : World) (Q : Nat → Prop) (d : V) (e : Ending) (w' : World) : Prop :=
  ∃ (k : Int) (y : Bool) (n : Int) (t : ByteArray) (a : Option Addr) (la ca : Nat) (b : Option Addr) (lb cb : Nat), e = .returned (.agg #[.int .i64 k, .bool y, .int .i64 n, .string t, .slice a la ca, .slice b lb cb]) ∧ AloneOut W Q 1000000 d w' ⟨k, y, n, t, a, la, ca, b, lb, cb⟩ ∧ Below W.heap.size W w'
theorem copyAlone_six (d : V) (c : C6) (w W : World) (hv : Val w (· < w.heap.size) 1000000 d c.arr) (hb : Below w.heap.size w W) :
    ∀ W' : World, W'.heap = W.heap → Calls Tryd.prog 37 #[.agg #[.int .i64 c.k, .bool c.y, .int .i64 c.n, .string c.t, .slice c.a c.la c.ca, .slice c.b c.lb c.cb]] W' (CA6 W' (· < w.heap.size) d) := fun W' hW => by
  refine (copyAlone_any d c.arr (· < w.heap.size) W' (hv.keep (fun p hp => ?_) (fun _ h => h)) (fun b hb' => ?_)).mono fun e w' ⟨⟨o, he, ha⟩, hb'⟩ => ⟨o.k, o.y, o.n, o.t, o.a, o.la, o.ca, o.b, o.lb, o.cb, he, ha, hb'⟩
  · rw [← hb.cell hp]
    exact World.cell?_of_block (by rw [hW])
  · rw [hW]; exact Nat.lt_of_lt_of_le hb' hb.size

set_option maxRecDepth 100000 in
set_option maxHeartbeats 4000000 in
theorem Copy_made (d : V) (cs : Array Value) (B : Nat) (w : World) (hv : Val w (· < B) 1000000 d cs) (hB : B ≤ w.heap.size) (hsz : vsize d ≤ 1000000000) :
    Calls Tryd.prog 19 #[.agg cs] w fun e w' => (∃ o : C6, e = .returned (.agg o.arr) ∧ Made w w' d o) ∧ Below w.heap.size w w' := by
  have hv' : Val w (· < w.heap.size) 1000000 d cs := hv.keep (fun _ _ => rfl) (fun b h => Nat.lt_of_lt_of_le h hB)
  have hok := hv.ok
  obtain ⟨c, rfl⟩ := hv.c6
  have HV := Lib.hid (And.intro hv' hok)
  clear hv hv' hok
  obtain ⟨ck, cy, cn, ct, ca, cla, cca, cb, clb, ccb⟩ := c
  simp only [C6.arr] at *
  go_enter Tryd.func19, Tryd.ntmps19
  go_wp2_with fail
  have hb0 : ∀ o1 o2, Below w.heap.size w ((w.alloc o1).alloc o2) := fun o1 o2 => ((Below.refl _ _).alloc (Nat.le_refl _) _).alloc (by simp) _
  refine (copyAlone_any d _ (· < w.heap.size) _ (HV.out.1.keep (fun p hp => (hb0 _ _).cell hp) (fun _ h => h)) (fun b hb => by simp; omega)).mono ?_
  rintro e W1 ⟨⟨o, rfl, ha⟩, hb1⟩
  have HA := Lib.hid (And.intro ha hb1)
  have hz1 : w.heap.size + 2 ≤ W1.heap.size := by have := hb1.size; simp at this; omega
  clear ha hb1
  obtain ⟨ok, oy, on_, ot, oa, ola, oca, ob, olb, ocb⟩ := o
  simp only [C6.arr] at *
  go_wp2_with fail
  go_loopg [4] (vsize d) (CopyRel w d W1.heap.size ⟨ok, oy, on_, ot, oa, ola, oca, ob, olb, ocb⟩)
  case atStart =>
    exact copy_start HA.out.1 HA.out.2 (hb0 _ _) (by simp) (by
      have := Whole.made (w.alloc (.cells #[.int .i64 ck, .bool cy, .int .i64 cn, .string ct, .slice ca cla cca, .slice cb clb ccb] 39)) 39 zero6
      simpa [zero6] using this) HV.out.2 hsz
  case round =>
    obtain ⟨H, st, hI, hbase, hk, hkb⟩ := hrel
    rcases nil_or_snoc st with rfl | ⟨st', ⟨dc, oc⟩, rfl⟩
    · have hres := hbase.res
      have ht3 := hbase.t3
      obtain ⟨a0, a1, a2, a3, a4, a5⟩ := Whole.six hres
      obtain ⟨b0, b1, b2, b3, b4, b5⟩ := Whole.six ht3
      have f0 := hres.frozen 0
      have f1 := hres.frozen 1
      have f2 := hres.frozen 2
      have f3 := hres.frozen 3
      have f4 := hres.frozen 4
      have f5 := hres.frozen 5
      have hzr : w.heap.size + 1 < wr.heap.size := hres.lt
      have hv : ∃ a c', u4 = .slice a 0 c' := by
        rcases Go.Joins.ownsRow_forms hbase.own with ⟨rfl, _⟩ | ⟨g, cap, rfl⟩ <;> exact ⟨_, _, rfl⟩
      have HX := Lib.hid (And.intro hI hbase)
      clear hI hbase hk HA hres ht3
      obtain ⟨a, c', rfl⟩ := hv
      go_wp2_with fail
      refine bodyPost_ret (v := .agg #[.int .i64 ok, .bool oy, .int .i64 on_, .string ot, .slice oa ola oca, .slice ob olb ocb]) (by simp [results, Tryd.results19, go_sem, a0, a1, a2, a3, a4, a5]) rfl ⟨⟨⟨ok, oy, on_, ot, oa, ola, oca, ob, olb, ocb⟩, rfl, ?_⟩, ?_⟩
      · obtain ⟨hI, hbase⟩ := HX.out
        exact copy_end hI hbase.top HV.out.2 (fun g x hg => heap_put6_far wr (w.heap.size + 1) 0 ⟨ok, oy, on_, ot, oa, ola, oca, ob, olb, ocb⟩ g (hbase.far g x hg).2.2) (Nat.le_of_eq (size_put6 wr (w.heap.size + 1) 0 ⟨ok, oy, on_, ot, oa, ola, oca, ob, olb, ocb⟩).symm)
      · exact below_put6 HX.out.2.bel (w.heap.size + 1) 0 ⟨ok, oy, on_, ot, oa, ola, oca, ob, olb, ocb⟩ (by omega)
    · obtain ⟨gO, cap, rfl, hgO, hgOl⟩ := hbase.own.form (by simp)
      have hlen : (st' ++ [(dc, oc)]).length = st'.length + 1 := by simp
      have hcap : st'.length + 1 ≤ cap := by
        rcases hbase.own.2 with ⟨e, _⟩ | ⟨g', cap', cur, e, _, _, hnc, _⟩
        · cases e
        · injection e with e1 e2 e3; rw [e3]; simpa using hnc
      have hcell : ∀ q, q < 6 → wr.cell? ⟨gO, st'.length * 6 + q, none⟩ = oc.arr[q]? := fun q hq => by
        rw [hbase.own.cellAt (st'.length * 6 + q) (by simp; omega), flatSt, flat_get (fun p : V × C6 => p.2.cells) 6 (fun _ => rfl) _ _ _ (by simp) hq, C6.arr_get]
        simp
      have hstl := st_le (st' ++ [(dc, oc)])
      rw [hlen] at hbase hstl ⊢
      obtain ⟨c0, c1, c2, c3, c4, c5⟩ := cells6 hcell rfl
      have hstb : st'.length + 1 ≤ 1000000000 := by omega
      have HX := Lib.hid (And.intro hI (And.intro hbase hk))
      clear hI hbase hk HA hcell hstl hlen
      obtain ⟨pk, py, pn, pt, pa, pla, pca, pb, plb, pcb⟩ := oc
      dsimp only at c0 c1 c2 c3 c4 c5
      go_wp2_with fail
      have hal := HX.out.2.1.al (dc, ⟨pk, py, pn, pt, pa, pla, pca, pb, plb, pcb⟩) (by simp)
      cases dc with
      | mk dk dy dn_ dt dl dm =>
      obtain ⟨⟨e1, -, -, -⟩, a2, a3⟩ := hal
      dsimp only at e1 a2 a3
      subst e1
      by_cases hB : pk = 4 ∧ dl ≠ []
      · obtain ⟨rfl, hdl⟩ := hB
        rw [if_pos rfl] at a2
        rw [if_neg (by omega)] at a3
        obtain ⟨r1, r2, -, r4⟩ := a2
        have r1' : pla = dl.length := by simpa [noKey] using r1
        have r2' : dl.length ≤ pca := by simpa [noKey] using r2
        clear r1 r2
        subst r1'
        obtain ⟨g, rfl, hg⟩ := r4 (by simpa [noKey] using hdl)
        obtain ⟨rfl, rfl, rfl⟩ := a3
        have hdlb : dl.length ≤ 1000000 := (HX.out.2.1.ok _ (List.mem_append_right _ (List.mem_singleton.2 rfl))).2.1
        obtain ⟨wo, rfl⟩ : ∃ wo : World, wo = wr := ⟨_, rfl⟩
        obtain ⟨gK, rfl⟩ : ∃ gK : Nat, gK = gk := ⟨_, rfl⟩
        go_loopg [4, 31] dl.length (InnerRel w d W1.heap.size ⟨ok, oy, on_, ot, oa, ola, oca, ob, olb, ocb⟩ wo.heap.size ⟨4, py, pn, pt, some ⟨g, 0, none⟩, dl.length, pca, none, 0, 0⟩ g false (noKey dl) (gK - 1))
        case atStart =>
          have hst := inner_start HX.out.1 HX.out.2.1 HX.out.2.2 (by simp [nodeOf, hdl]) hg (by rw [vsize, kSize_L, if_pos rfl, if_neg (by omega)]; rfl) (VOkL.all (HX.out.2.1.ok _ (List.mem_append_right _ (List.mem_singleton.2 rfl))).2.2.2.1)
          have e : (noKey dl).length = dl.length := by simp [noKey]
          rw [e] at hst
          exact hst
        case round =>
          have HRel := Lib.hid hrel
          obtain ⟨H', st2, j, hjk, rfl, hI2, hg2, hgS, hlt, hbs, h5, hH5, hov5, hs2, hok2, h5w, h53⟩ := hrel
          have hkl : (noKey dl).length = dl.length := by simp [noKey]
          obtain ⟨d0, d1, d2, d3, d4, d5⟩ := Whole.six h5
          by_cases hjl : j < dl.length
          · obtain ⟨hgw, css, hcont, hel⟩ := hI2 g false (noKey dl) hg2
            have hjn : j < (noKey dl).length := by rw [hkl]; exact hjl
            have hjc : j < css.length := by rw [hcont.1]; exact hjn
            have hvj : Val w (· < w.heap.size) 1000000 (noKey dl)[j].2 css[j].arr := by
              rcases hel j hjn hjc with ⟨h6, _⟩ | ⟨_, h6⟩
              · rcases h6 with ⟨_, h6⟩ | ⟨h6, _⟩
                · omega
                · exact absurd rfl h6
              · exact h6
            have hcj : ∀ q, q < 6 → wr.cell? ⟨g, j * 6 + q, none⟩ = css[j].arr[q]? := fun q hq => by
              have := hcont.cell j q hjn hjc (by simpa [esz] using hq)
              rw [C6.arr_get]
              simpa [esz, elem] using this
            have hgl : g < wr.heap.size := hI2.lt hg2
            have hfz : ∀ q, wr.frozen? ⟨g, q, none⟩ = false := by
              obtain ⟨-, cur, hcur, -⟩ := hcont
              exact Whole.frozen hcur
            obtain ⟨cj, hcjd⟩ : ∃ cj : C6, css[j] = cj := ⟨_, rfl⟩
            rw [hcjd] at hcj hvj
            have HY := Lib.hid (And.intro hI2 (And.intro hbs (And.intro h5 (And.intro hvj (And.intro hs2 hjk)))))
            obtain ⟨x0, x1, x2, x3, x4, x5⟩ := cells6 hcj rfl
            have h5l := h5.lt
            have hbz := hbs.bel.size
            clear hI2 hbs h5 hel hcont hvj hcj hcjd hs2 hjk
            obtain ⟨jk, jy, jn, jt, ja, jla, jca, jb, jlb, jcb⟩ := cj
            dsimp only at x0 x1 x2 x3 x4 x5
            go_wp2_with fail
            obtain ⟨W, hWd⟩ : ∃ W, wr.alloc (.cells #[.int .i64 jk, .bool jy, .int .i64 jn, .string jt, .slice ja jla jca, .slice jb jlb jcb] 39) = W := ⟨_, rfl⟩
            rw [hWd]
            have hWb : Below wr.heap.size wr W := hWd ▸ (Below.refl _ _).alloc (Nat.le_refl _) _
            have hW7 : Whole W wr.heap.size 39 #[.int .i64 jk, .bool jy, .int .i64 jn, .string jt, .slice ja jla jca, .slice jb jlb jcb] := hWd ▸ Whole.made _ _ _
            have hWz : W.heap.size = wr.heap.size + 1 := by rw [← hWd]; simp
            obtain ⟨y0, y1, y2, y3, y4, y5⟩ := hW7.six
            have s4 : W.cell? ⟨wo.heap.size, 4, none⟩ = some (.slice (some ⟨g, 0, none⟩) dl.length pca) := (hWb.cell h5l).trans d4
            have HC := Lib.hid (copyAlone_six (noKey dl)[j].2 ⟨jk, jy, jn, jt, ja, jla, jca, jb, jlb, jcb⟩ w W HY.out.2.2.2.1 (HY.out.2.1.bel.trans (hWb.mono hbz)))
            have HW := Lib.hid (And.intro hWb (And.intro hWz (And.intro x0 (And.intro x1 (And.intro x2 (And.intro x3 (And.intro x4 (And.intro x5 hfz))))))))
            have hzlt : wo.heap.size < W.heap.size := by omega
            have hzlt2 : wr.heap.size < W.heap.size := by omega
            have hzlt3 : g < W.heap.size := by omega
            have hgn1 : ¬ g = wr.heap.size := by omega
            have hgn2 : ¬ g = wo.heap.size := hH5 g _ hg2
            clear hWd hWb hW7 hWz x0 x1 x2 x3 x4 x5 hfz d0 d1 d2 d3 d4 d5
            go_region_held3 (fun w' => w'.cell? ⟨wo.heap.size, 4, none⟩ = some (.slice (some ⟨g, 0, none⟩) dl.length pca) ∧ w'.cell? ⟨wr.heap.size, 0, none⟩ = some (.int .i64 jk) ∧ w'.cell? ⟨wr.heap.size, 1, none⟩ = some (.bool jy) ∧ w'.cell? ⟨wr.heap.size, 2, none⟩ = some (.int .i64 jn) ∧ w'.cell? ⟨wr.heap.size, 3, none⟩ = some (.string jt) ∧ w'.cell? ⟨wr.heap.size, 4, none⟩ = some (.slice ja jla jca) ∧ w'.cell? ⟨wr.heap.size, 5, none⟩ = some (.slice jb jlb jcb)) (go_keep)
              (first
                | (go_at_call 37; refine (HC.out _ ?_).mono ?_; (rfl); rintro e W2 ⟨nk, ny, nn, nt, na, nla, nca, nb, nlb, ncb, rfl, ha, hb2⟩
                   have z4 : W2.cell? ⟨wo.heap.size, 4, none⟩ = some (.slice (some ⟨g, 0, none⟩) dl.length pca) := (hb2.cell hzlt).trans s4
                   have z0 := (hb2.cell (p := ⟨wr.heap.size, 0, none⟩) hzlt2).trans y0
                   have z1 := (hb2.cell (p := ⟨wr.heap.size, 1, none⟩) hzlt2).trans y1
                   have z2 := (hb2.cell (p := ⟨wr.heap.size, 2, none⟩) hzlt2).trans y2
                   have z3 := (hb2.cell (p := ⟨wr.heap.size, 3, none⟩) hzlt2).trans y3
                   have z5 := (hb2.cell (p := ⟨wr.heap.size, 4, none⟩) hzlt2).trans y4
                   have z6 := (hb2.cell (p := ⟨wr.heap.size, 5, none⟩) hzlt2).trans y5
                   have q0 := (hb2.cell (p := ⟨g, j * 6, none⟩) hzlt3).trans ((HW.out.1.cell (p := ⟨g, j * 6, none⟩) hgl).trans HW.out.2.2.1)
                   have q1 := (hb2.cell (p := ⟨g, j * 6 + 1, none⟩) hzlt3).trans ((HW.out.1.cell (p := ⟨g, j * 6 + 1, none⟩) hgl).trans HW.out.2.2.2.1)
                   have q2 := (hb2.cell (p := ⟨g, j * 6 + 2, none⟩) hzlt3).trans ((HW.out.1.cell (p := ⟨g, j * 6 + 2, none⟩) hgl).trans HW.out.2.2.2.2.1)
                   have q3 := (hb2.cell (p := ⟨g, j * 6 + 3, none⟩) hzlt3).trans ((HW.out.1.cell (p := ⟨g, j * 6 + 3, none⟩) hgl).trans HW.out.2.2.2.2.2.1)
                   have q4 := (hb2.cell (p := ⟨g, j * 6 + 4, none⟩) hzlt3).trans ((HW.out.1.cell (p := ⟨g, j * 6 + 4, none⟩) hgl).trans HW.out.2.2.2.2.2.2.1)
                   have q5 := (hb2.cell (p := ⟨g, j * 6 + 5, none⟩) hzlt3).trans ((HW.out.1.cell (p := ⟨g, j * 6 + 5, none⟩) hgl).trans HW.out.2.2.2.2.2.2.2.1)
                   have fz : ∀ q, W2.frozen? ⟨g, q, none⟩ = false := fun q => (hb2.frozen (p := ⟨g, q, none⟩) hzlt3).trans ((HW.out.1.frozen (p := ⟨g, q, none⟩) hgl).trans (HW.out.2.2.2.2.2.2.2.2 q))
                   have HB := Lib.hid (And.intro ha hb2)
                   clear ha hb2))
            obtain ⟨W3, hW3⟩ : ∃ W3, put6 W2 g (j * 6) ⟨nk, ny, nn, nt, na, nla, nca, nb, nlb, ncb⟩ = W3 := ⟨_, rfl⟩
            have hW3' := hW3
            unfold put6 at hW3'
            dsimp only at hW3'
            rw [hW3']
            have hb2 := HB.out.2
            have hz2 : W.heap.size ≤ W2.heap.size := hb2.size
            have hz3 : W3.heap.size ≤ W2.heap.size := by rw [← hW3]; exact Nat.le_of_eq (size_put6 _ _ _ _)
            have hz3' : W2.heap.size ≤ W3.heap.size := by rw [← hW3]; exact Nat.le_of_eq (size_put6 _ _ _ _).symm
            have m4 : W3.cell? ⟨wo.heap.size, 4, none⟩ = some (.slice (some ⟨g, 0, none⟩) dl.length pca) := by rw [← hW3, cell_put6_far _ _ _ _ _ hgn2]; exact z4
            obtain ⟨m0, m1, m2, m3, m5, m6⟩ : W3.cell? ⟨g, j * 6, none⟩ = some (.int .i64 nk) ∧ W3.cell? ⟨g, j * 6 + 1, none⟩ = some (.bool ny) ∧ W3.cell? ⟨g, j * 6 + 2, none⟩ = some (.int .i64 nn) ∧ W3.cell? ⟨g, j * 6 + 3, none⟩ = some (.string nt) ∧ W3.cell? ⟨g, j * 6 + 4, none⟩ = some (.slice na nla nca) ∧ W3.cell? ⟨g, j * 6 + 5, none⟩ = some (.slice nb nlb ncb) := by
              rw [← hW3']
              simp [go_sem, q0, q1, q2, q3, q4, q5]
            have hbs := HY.out.2.1
            have hovg : u4.ownBlock ≠ some g := fun e => (hbs.far g _ hg2).1 e.symm
            have hown3 : W3.ownsRow (w.heap.size + 2) 39 6 u4 st2.length (flatSt st2) := by
              rw [← hW3]
              exact own_put6 (own_below ((own_below hbs.own HW.out.1).drew) hb2) hovg _ _
            have hst2 : st2.length ≤ 1000000000 := by have := st_le st2; have := HY.out.2.2.2.2.1; omega
            have HZ := Lib.hid (And.intro hW3 (And.intro hown3 hovg))
            have hz4 : w.heap.size + 2 ≤ W3.heap.size := by have := hbs.res.lt; omega
            clear hW3 hW3' hown3 hovg hbs hb2 z4 z0 z1 z2 z3 z5 z6 q0 q1 q2 q3 q4 q5 fz s4 y0 y1 y2 y3 y4 y5
            obtain ⟨i0, hi, hz0, hz1', hz2'⟩ := info_parts info_Value
            go_wp2_with (first
              | (at_builtin; go_must (refine wpList_append_own_at _ rfl _ _ 36 rfl (w.heap.size + 2) 39 i0 (.agg #[.int .i64 0, .bool false, .int .i64 0, .string ⟨#[]⟩, .slice none 0 0, .slice none 0 0]) 6 88 Tryd.underlying36 hi hz0 hz1' hz2' rfl (by decide) _ st2.length (flatSt st2) rfl (HZ.out.2.1.alloc _) ⟨W3.heap.size, 0, none⟩ 1 1 (C6.cells ⟨nk, ny, nn, nt, na, nla, nca, nb, nlb, ncb⟩) rfl rfl (cells_new _ _ _) (C6.one _) (by unfold maxLen; omega) (by omega) (by simp; omega) ?_); intro v' w5 hown' hgrow hnil hat
                 have X := Lib.hid (And.intro hown' (And.intro hgrow hat))
                 clear hown' hgrow hnil hat))
            go_roundg (dl.length - (j + 1))
            case rel =>
              obtain ⟨hI2, hbs, h5, hvj, hs2, hjk⟩ := HY.out
              obtain ⟨ha, hb2⟩ := HB.out
              obtain ⟨hW3, hown3, hovg⟩ := HZ.out
              obtain ⟨hown', hgrow, hat⟩ := X.out
              have hWb := HW.out.1
              have hrel := inner_step (W := W.drew) (W1 := W2) (W2 := w5) (ov' := v') hjn hI2 hg2 hgS hlt hbs h5 hH5 hov5 hs2 hok2 h5w h53 (fun k hk => hWb.block k hk) (Nat.le_of_lt hzlt2) ((hbs.bel.trans (hWb.mono hbz)).drew) ha hb2
                (fun k hk1 hk2 hk3 => by
                  rw [hgrow.block k (by simp; omega) hk3, Below.heap_alloc _ _ _ (by omega), ← hW3]
                  exact heap_put6_far _ _ _ _ _ hk1)
                (by
                  rw [hgrow.block g (by simp; omega) (fun e => hovg e.symm), Below.heap_alloc _ _ _ (by omega), ← hW3]
                  simp [esz, hoff])
                (by have := hgrow.size; simp at this; omega)
                (by
                  have h6 : Below w.heap.size w W3 := hW3 ▸ below_put6 (((hbs.bel.trans (hWb.mono hbz)).drew).trans (hb2.mono (by show w.heap.size ≤ W.heap.size; omega))) _ _ _ (by omega)
                  exact Below.grown (h6.alloc h6.size _) hgrow (by simp; omega) (fun b hb => by have := (hbs.own.lt b hb).1; omega))
                hown' (by
                  rcases hat with e | e
                  · exact .inl e
                  · exact .inr ⟨_, e, by simp; omega⟩)
              rw [hkl] at hrel
              simpa using hrel
            case measure => have := HY.out.2.2.2.2.2; omega
          · obtain rfl : gk = 0 := by omega
            have HE := Lib.hid (inner_end HRel.out (by omega))
            clear HRel hI2 hlt hbs h5 hH5 hov5 hs2 hok2 hjk
            go_wp2_with fail
            refine wp_loop_rounds 1 ?_
            rw [rounds_succ]
            go_wp2_with fail
            go_roundg (gK - 1)
            case rel => exact HE.out
            case measure => have := HX.out.2.2; rw [stSize_append] at this; have := vsize_pos (.mk 4 dy dn_ dt dl dm); simp only [stSize] at *; omega
      by_cases hC : pk = 5 ∧ dm ≠ []
      · obtain ⟨rfl, hdl⟩ := hC
        rw [if_pos rfl] at a3
        rw [if_neg (by omega)] at a2
        obtain ⟨r1', r2', -, r4⟩ := a3
        subst r1'
        obtain ⟨g, rfl, hg⟩ := r4 hdl
        obtain ⟨rfl, rfl, rfl⟩ := a2
        refine wp_loop_rounds 1 ?_
        rw [rounds_succ]
        go_wp2_with fail
        have hdlb : dm.length ≤ 1000000 := (HX.out.2.1.ok _ (List.mem_append_right _ (List.mem_singleton.2 rfl))).2.2.1
        obtain ⟨wo, rfl⟩ : ∃ wo : World, wo = wr := ⟨_, rfl⟩
        obtain ⟨gK, rfl⟩ : ∃ gK : Nat, gK = gk := ⟨_, rfl⟩
        go_loopg [4, 54] dm.length (InnerRel w d W1.heap.size ⟨ok, oy, on_, ot, oa, ola, oca, ob, olb, ocb⟩ wo.heap.size ⟨5, py, pn, pt, none, 0, 0, some ⟨g, 0, none⟩, dm.length, pcb⟩ g true dm (gK - 1))
        case atStart =>
          have hst := inner_start HX.out.1 HX.out.2.1 HX.out.2.2 (by simp [nodeOf, hdl]) hg (by rw [vsize, kSize_M, if_pos rfl, if_neg (by omega)]) (VOkM.all (HX.out.2.1.ok _ (List.mem_append_right _ (List.mem_singleton.2 rfl))).2.2.2.2)
          exact hst
        case round =>
          have HRel := Lib.hid hrel
          obtain ⟨H', st2, j, hjk, rfl, hI2, hg2, hgS, hlt, hbs, h5, hH5, hov5, hs2, hok2, h5w, h53⟩ := hrel
          obtain ⟨d0, d1, d2, d3, d4, d5⟩ := Whole.six h5
          by_cases hjl : j < dm.length
          · obtain ⟨hgw, css, hcont, hel⟩ := hI2 g true dm hg2
            have hjn : j < dm.length := hjl
            have hjc : j < css.length := by rw [hcont.1]; exact hjn
            have hvj : Val w (· < w.heap.size) 1000000 dm[j].2 css[j].arr := by
              rcases hel j hjn hjc with ⟨h6, _⟩ | ⟨_, h6⟩
              · rcases h6 with ⟨_, h6⟩ | ⟨h6, _⟩
                · omega
                · exact absurd rfl h6
              · exact h6
            have hcj : ∀ q, q < 6 → wr.cell? ⟨g, j * 7 + (1 + q), none⟩ = css[j].arr[q]? := fun q hq => by
              have := hcont.cell j (1 + q) hjn hjc (by simp [esz]; omega)
              rw [C6.arr_get]
              simpa [esz, elem, mem7, Nat.add_comm 1 q] using this
            obtain ⟨ks, hks⟩ : ∃ ks, dm[j].1 = ks := ⟨_, rfl⟩
            have hck : wr.cell? ⟨g, j * 7, none⟩ = some (.string ks) := by
              have := hcont.cell j 0 hjn hjc (by simp [esz])
              rw [hks] at this
              simpa [esz, elem, mem7] using this
            have hgl : g < wr.heap.size := hI2.lt hg2
            have hfz : ∀ q, wr.frozen? ⟨g, q, none⟩ = false := by
              obtain ⟨-, cur, hcur, -⟩ := hcont
              exact Whole.frozen hcur
            obtain ⟨cj, hcjd⟩ : ∃ cj : C6, css[j] = cj := ⟨_, rfl⟩
            rw [hcjd] at hcj hvj
            have HY := Lib.hid (And.intro hI2 (And.intro hbs (And.intro h5 (And.intro hvj (And.intro hs2 hjk)))))
            obtain ⟨xk, x0, x1, x2, x3, x4, x5⟩ := cells7 hck hcj rfl
            have h5l := h5.lt
            have hbz := hbs.bel.size
            clear hI2 hbs h5 hel hcont hvj hcj hcjd hs2 hjk hck hks
            obtain ⟨jk, jy, jn, jt, ja, jla, jca, jb, jlb, jcb⟩ := cj
            dsimp only at x0 x1 x2 x3 x4 x5
            go_wp2_with fail
            obtain ⟨W, hWd⟩ : ∃ W, wr.alloc (.cells #[.string ks, .int .i64 jk, .bool jy, .int .i64 jn, .string jt, .slice ja jla jca, .slice jb jlb jcb] 46) = W := ⟨_, rfl⟩
            rw [hWd]
            have hWb : Below wr.heap.size wr W := hWd ▸ (Below.refl _ _).alloc (Nat.le_refl _) _
            have hW7 : Whole W wr.heap.size 46 #[.string ks, .int .i64 jk, .bool jy, .int .i64 jn, .string jt, .slice ja jla jca, .slice jb jlb jcb] := hWd ▸ Whole.made _ _ _
            have hWz : W.heap.size = wr.heap.size + 1 := by rw [← hWd]; simp
            have y0 : W.cell? ⟨wr.heap.size, 1, none⟩ = some (.int .i64 jk) := hW7.cell 1
            have y1 : W.cell? ⟨wr.heap.size, 2, none⟩ = some (.bool jy) := hW7.cell 2
            have y2 : W.cell? ⟨wr.heap.size, 3, none⟩ = some (.int .i64 jn) := hW7.cell 3
            have y3 : W.cell? ⟨wr.heap.size, 4, none⟩ = some (.string jt) := hW7.cell 4
            have y4 : W.cell? ⟨wr.heap.size, 5, none⟩ = some (.slice ja jla jca) := hW7.cell 5
            have y5 : W.cell? ⟨wr.heap.size, 6, none⟩ = some (.slice jb jlb jcb) := hW7.cell 6
            have s4 : W.cell? ⟨wo.heap.size, 5, none⟩ = some (.slice (some ⟨g, 0, none⟩) dm.length pcb) := (hWb.cell h5l).trans d5
            have HC := Lib.hid (copyAlone_six dm[j].2 ⟨jk, jy, jn, jt, ja, jla, jca, jb, jlb, jcb⟩ w W HY.out.2.2.2.1 (HY.out.2.1.bel.trans (hWb.mono hbz)))
            have HW := Lib.hid (And.intro hWb (And.intro hWz (And.intro x0 (And.intro x1 (And.intro x2 (And.intro x3 (And.intro x4 (And.intro x5 hfz))))))))
            have hzlt : wo.heap.size < W.heap.size := by omega
            have hzlt2 : wr.heap.size < W.heap.size := by omega
            have hzlt3 : g < W.heap.size := by omega
            have hgn1 : ¬ g = wr.heap.size := by omega
            have hgn2 : ¬ g = wo.heap.size := hH5 g _ hg2
            clear hWd hWb hW7 hWz xk x0 x1 x2 x3 x4 x5 hfz d0 d1 d2 d3 d4 d5
            go_region_held3 (fun w' => w'.cell? ⟨wo.heap.size, 5, none⟩ = some (.slice (some ⟨g, 0, none⟩) dm.length pcb) ∧ w'.cell? ⟨wr.heap.size, 1, none⟩ = some (.int .i64 jk) ∧ w'.cell? ⟨wr.heap.size, 2, none⟩ = some (.bool jy) ∧ w'.cell? ⟨wr.heap.size, 3, none⟩ = some (.int .i64 jn) ∧ w'.cell? ⟨wr.heap.size, 4, none⟩ = some (.string jt) ∧ w'.cell? ⟨wr.heap.size, 5, none⟩ = some (.slice ja jla jca) ∧ w'.cell? ⟨wr.heap.size, 6, none⟩ = some (.slice jb jlb jcb)) (go_keep)
              (first
                | (go_at_call 37; refine (HC.out _ ?_).mono ?_; (rfl); rintro e W2 ⟨nk, ny, nn, nt, na, nla, nca, nb, nlb, ncb, rfl, ha, hb2⟩
                   have z4 : W2.cell? ⟨wo.heap.size, 5, none⟩ = some (.slice (some ⟨g, 0, none⟩) dm.length pcb) := (hb2.cell hzlt).trans s4
                   have z0 := (hb2.cell (p := ⟨wr.heap.size, 1, none⟩) hzlt2).trans y0
                   have z1 := (hb2.cell (p := ⟨wr.heap.size, 2, none⟩) hzlt2).trans y1
                   have z2 := (hb2.cell (p := ⟨wr.heap.size, 3, none⟩) hzlt2).trans y2
                   have z3 := (hb2.cell (p := ⟨wr.heap.size, 4, none⟩) hzlt2).trans y3
                   have z5 := (hb2.cell (p := ⟨wr.heap.size, 5, none⟩) hzlt2).trans y4
                   have z6 := (hb2.cell (p := ⟨wr.heap.size, 6, none⟩) hzlt2).trans y5
                   have q0 := (hb2.cell (p := ⟨g, j * 7 + 1, none⟩) hzlt3).trans ((HW.out.1.cell (p := ⟨g, j * 7 + 1, none⟩) hgl).trans HW.out.2.2.1)
                   have q1 := (hb2.cell (p := ⟨g, j * 7 + 2, none⟩) hzlt3).trans ((HW.out.1.cell (p := ⟨g, j * 7 + 2, none⟩) hgl).trans HW.out.2.2.2.1)
                   have q2 := (hb2.cell (p := ⟨g, j * 7 + 3, none⟩) hzlt3).trans ((HW.out.1.cell (p := ⟨g, j * 7 + 3, none⟩) hgl).trans HW.out.2.2.2.2.1)
                   have q3 := (hb2.cell (p := ⟨g, j * 7 + 4, none⟩) hzlt3).trans ((HW.out.1.cell (p := ⟨g, j * 7 + 4, none⟩) hgl).trans HW.out.2.2.2.2.2.1)
                   have q4 := (hb2.cell (p := ⟨g, j * 7 + 5, none⟩) hzlt3).trans ((HW.out.1.cell (p := ⟨g, j * 7 + 5, none⟩) hgl).trans HW.out.2.2.2.2.2.2.1)
                   have q5 := (hb2.cell (p := ⟨g, j * 7 + 6, none⟩) hzlt3).trans ((HW.out.1.cell (p := ⟨g, j * 7 + 6, none⟩) hgl).trans HW.out.2.2.2.2.2.2.2.1)
                   have fz : ∀ q, W2.frozen? ⟨g, q, none⟩ = false := fun q => (hb2.frozen (p := ⟨g, q, none⟩) hzlt3).trans ((HW.out.1.frozen (p := ⟨g, q, none⟩) hgl).trans (HW.out.2.2.2.2.2.2.2.2 q))
                   have HB := Lib.hid (And.intro ha hb2)
                   clear ha hb2))
            obtain ⟨W3, hW3⟩ : ∃ W3, put6 W2 g (j * 7 + 1) ⟨nk, ny, nn, nt, na, nla, nca, nb, nlb, ncb⟩ = W3 := ⟨_, rfl⟩
            have hW3' := hW3
            unfold put6 at hW3'
            simp only [Nat.add_assoc, Nat.reduceAdd] at hW3'
            rw [hW3']
            have hb2 := HB.out.2
            have hz2 : W.heap.size ≤ W2.heap.size := hb2.size
            have hz3 : W3.heap.size ≤ W2.heap.size := by rw [← hW3]; exact Nat.le_of_eq (size_put6 _ _ _ _)
            have hz3' : W2.heap.size ≤ W3.heap.size := by rw [← hW3]; exact Nat.le_of_eq (size_put6 _ _ _ _).symm
            have m4 : W3.cell? ⟨wo.heap.size, 5, none⟩ = some (.slice (some ⟨g, 0, none⟩) dm.length pcb) := by rw [← hW3, cell_put6_far _ _ _ _ _ hgn2]; exact z4
            obtain ⟨m0, m1, m2, m3, m5, m6⟩ : W3.cell? ⟨g, j * 7 + 1, none⟩ = some (.int .i64 nk) ∧ W3.cell? ⟨g, j * 7 + 2, none⟩ = some (.bool ny) ∧ W3.cell? ⟨g, j * 7 + 3, none⟩ = some (.int .i64 nn) ∧ W3.cell? ⟨g, j * 7 + 4, none⟩ = some (.string nt) ∧ W3.cell? ⟨g, j * 7 + 5, none⟩ = some (.slice na nla nca) ∧ W3.cell? ⟨g, j * 7 + 6, none⟩ = some (.slice nb nlb ncb) := by
              rw [← hW3']
              simp [go_sem, q0, q1, q2, q3, q4, q5]
            have hbs := HY.out.2.1
            have hovg : u4.ownBlock ≠ some g := fun e => (hbs.far g _ hg2).1 e.symm
            have hown3 : W3.ownsRow (w.heap.size + 2) 39 6 u4 st2.length (flatSt st2) := by
              rw [← hW3]
              exact own_put6 (own_below ((own_below hbs.own HW.out.1).drew) hb2) hovg _ _
            have hst2 : st2.length ≤ 1000000000 := by have := st_le st2; have := HY.out.2.2.2.2.1; omega
            have HZ := Lib.hid (And.intro hW3 (And.intro hown3 hovg))
            have hz4 : w.heap.size + 2 ≤ W3.heap.size := by have := hbs.res.lt; omega
            clear hW3 hW3' hown3 hovg hbs hb2 z4 z0 z1 z2 z3 z5 z6 q0 q1 q2 q3 q4 q5 fz s4 y0 y1 y2 y3 y4 y5
            obtain ⟨i0, hi, hz0, hz1', hz2'⟩ := info_parts info_Value
            go_wp2_with (first
              | (at_builtin; go_must (refine wpList_append_own_at _ rfl _ _ 36 rfl (w.heap.size + 2) 39 i0 (.agg #[.int .i64 0, .bool false, .int .i64 0, .string ⟨#[]⟩, .slice none 0 0, .slice none 0 0]) 6 88 Tryd.underlying36 hi hz0 hz1' hz2' rfl (by decide) _ st2.length (flatSt st2) rfl (HZ.out.2.1.alloc _) ⟨W3.heap.size, 0, none⟩ 1 1 (C6.cells ⟨nk, ny, nn, nt, na, nla, nca, nb, nlb, ncb⟩) rfl rfl (cells_new _ _ _) (C6.one _) (by unfold maxLen; omega) (by omega) (by simp; omega) ?_); intro v' w5 hown' hgrow hnil hat
                 have X := Lib.hid (And.intro hown' (And.intro hgrow hat))
                 clear hown' hgrow hnil hat))
            go_roundg (dm.length - (j + 1))
            case rel =>
              obtain ⟨hI2, hbs, h5, hvj, hs2, hjk⟩ := HY.out
              obtain ⟨ha, hb2⟩ := HB.out
              obtain ⟨hW3, hown3, hovg⟩ := HZ.out
              obtain ⟨hown', hgrow, hat⟩ := X.out
              have hWb := HW.out.1
              have hrel := inner_step (W := W.drew) (W1 := W2) (W2 := w5) (ov' := v') hjn hI2 hg2 hgS hlt hbs h5 hH5 hov5 hs2 hok2 h5w h53 (fun k hk => hWb.block k hk) (Nat.le_of_lt hzlt2) ((hbs.bel.trans (hWb.mono hbz)).drew) ha hb2
                (fun k hk1 hk2 hk3 => by
                  rw [hgrow.block k (by simp; omega) hk3, Below.heap_alloc _ _ _ (by omega), ← hW3]
                  exact heap_put6_far _ _ _ _ _ hk1)
                (by
                  rw [hgrow.block g (by simp; omega) (fun e => hovg e.symm), Below.heap_alloc _ _ _ (by omega), ← hW3]
                  simp [esz, hoff])
                (by have := hgrow.size; simp at this; omega)
                (by
                  have h6 : Below w.heap.size w W3 := hW3 ▸ below_put6 (((hbs.bel.trans (hWb.mono hbz)).drew).trans (hb2.mono (by show w.heap.size ≤ W.heap.size; omega))) _ _ _ (by omega)
                  exact Below.grown (h6.alloc h6.size _) hgrow (by simp; omega) (fun b hb => by have := (hbs.own.lt b hb).1; omega))
                hown' (by
                  rcases hat with e | e
                  · exact .inl e
                  · exact .inr ⟨_, e, by simp; omega⟩)
              simpa using hrel
            case measure => have := HY.out.2.2.2.2.2; omega
          · obtain rfl : gk = 0 := by omega
            have HE := Lib.hid (inner_end HRel.out (by omega))
            clear HRel hI2 hlt hbs h5 hH5 hov5 hs2 hok2 hjk
            go_wp2_with fail
            go_roundg (gK - 1)
            case rel => exact HE.out
            case measure => have := HX.out.2.2; rw [stSize_append] at this; have := vsize_pos (.mk 5 dy dn_ dt dl dm); simp only [stSize] at *; omega
      · have hla : pla = 0 := by
          by_cases k4 : pk = 4
          · rw [if_pos k4] at a2
            have : dl = [] := Classical.byContradiction fun h => hB ⟨k4, h⟩
            rw [a2.1, this]; rfl
          · rw [if_neg k4] at a2; exact a2.2.1
        have hlb : plb = 0 := by
          by_cases k5 : pk = 5
          · rw [if_pos k5] at a3
            have : dm = [] := Classical.byContradiction fun h => hC ⟨k5, h⟩
            rw [a3.1, this]; rfl
          · rw [if_neg k5] at a3; exact a3.2.1
        have hnode : nodeOf (.mk pk dy dn_ dt dl dm) ⟨pk, py, pn, pt, pa, pla, pca, pb, plb, pcb⟩ = none := by
          dsimp only [nodeOf]
          by_cases k4 : pk = 4
          · have : dl = [] := Classical.byContradiction fun h => hB ⟨k4, h⟩
            rw [if_pos k4, if_pos this]
          · rw [if_neg k4]
            by_cases k5 : pk = 5
            · have : dm = [] := Classical.byContradiction fun h => hC ⟨k5, h⟩
              rw [if_pos k5, if_pos this]
            · rw [if_neg k5]
        have hvs : vsize (.mk pk dy dn_ dt dl dm) = 1 := by
          rw [vsize]
          by_cases k4 : pk = 4
          · have : dl = [] := Classical.byContradiction fun h => hB ⟨k4, h⟩
            rw [if_pos k4, if_neg (by omega), this]; rfl
          · rw [if_neg k4]
            by_cases k5 : pk = 5
            · have : dm = [] := Classical.byContradiction fun h => hC ⟨k5, h⟩
              rw [if_pos k5, this]; rfl
            · rw [if_neg k5]
        have HE := Lib.hid (copy_leaf HX.out.1 HX.out.2.1 HX.out.2.2 hkb hnode hvs)
        have hgk : 1 ≤ gk := by have := HX.out.2.2; rw [stSize_append] at this; have := vsize_pos (.mk pk dy dn_ dt dl dm); simp only [stSize] at *; omega
        subst hla
        subst hlb
        clear a2 a3 hB hC hnode
        refine wp_loop_rounds 1 ?_
        rw [rounds_succ]
        go_wp2_with fail
        refine wp_loop_rounds 1 ?_
        rw [rounds_succ]
        go_wp2_with fail
        go_roundg (gk - 1)
        case rel => exact HE.out
        case measure => omega
theorem Copy_any (d : V) (cs : Array Value) (B : Nat) (w : World) (hv : Val w (· < B) 1000000 d cs) (hB : B ≤ w.heap.size) (hsz : vsize d ≤ 1000000000) :
    Calls Tryd.prog 19 #[.agg cs] w fun e w' => (∃ o : C6, e = .returned (.agg o.arr) ∧ Val w' (fun b => w.heap.size ≤ b ∧ b < w'.heap.size) 1000000 (canon d) o.arr) ∧ Below w.heap.size w w' :=
  (Copy_made d cs B w hv hB hsz).mono fun _ _ ⟨⟨o, he, hm⟩, hb⟩ => ⟨⟨o, he, hm.val⟩, hb⟩
end Go.Proofs.YtpehddbpingobaaDoor
