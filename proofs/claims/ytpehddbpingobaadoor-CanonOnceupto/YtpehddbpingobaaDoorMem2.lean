/-
  value.Members, walked: a copy of the members, sorted; an error where a key stands twice.
-/
import Derived.Test.YtpehddbpingobaaDoorMem1
namespace Go.Proofs.YtpehddbpingobaaDoor
open Go.RowKit Go.Lib Go.Shelf Go.Sort
set_option linter.unusedVariables false
set_option linter.unusedSimpArgs false

theorem toList_inj {a b : ByteArray} (h : a.toList = b.toList) : a = b := by
  rw [Go.ByteArray.toList_eq, Go.ByteArray.toList_eq] at h
  exact ByteArray.ext (Array.toList_inj.1 h)
/-- The loop: the first j members were read. -/
def MemRel (W0 : World) (d : List KVC) (k : Nat) (i : Value) (wr : World) : Prop :=
  ∃ j : Nat, j + k = d.length ∧ i = .int .i64 j ∧ NoTwice (d.map (·.1)) j ∧ Below W0.heap.size W0 wr

theorem below_drewN {B : Nat} {w W : World} (h : Below B w W) (n : Nat) : Below B w (W.drewN n) := ⟨h.os, h.tape, h.output, h.size, h.block⟩

set_option maxRecDepth 100000 in
set_option maxHeartbeats 4000000 in
theorem Members_some (ms : List (ByteArray × V)) (A : Option Addr) (c B : Nat) (w : World) (hv : ValM w (· < B) 1000000 ms A 0) (hB : B ≤ w.heap.size) (hl : ms.length ≤ 1000000) (hc : ms.length ≤ c) (hA : A = none → c = 0) (hsz : vsizeM ms ≤ 900000000) (hne : ms ≠ []) :
    Calls Tryd.prog 10 #[.slice A ms.length c] w fun e w' => MemAns w w' ms e ∧ Below w.heap.size w w' := by
  have hval : Val w (· < B) 1000000 (.mk 5 false 0 ⟨#[]⟩ [] ms) #[.int .i64 5, .bool false, .int .i64 0, .string ⟨#[]⟩, .slice none 0 0, .slice A ms.length c] := by
    rw [Val]
    exact ⟨none, 0, A, c, by simp, ⟨by simp, hc, by simp [ByteArray.size], by simp, hl, fun _ => rfl, hA⟩, by rw [ValL]; trivial, hv⟩
  have HV := Lib.hid hval
  have hvs : vsize (.mk 5 false 0 ⟨#[]⟩ [] ms) ≤ 1000000000 := by rw [vsize, if_neg (by omega), if_pos rfl]; omega
  clear hval hv
  go_enter Tryd.func10, Tryd.ntmps10
  go_wp2_with fail
  refine (Copy_made _ _ B _ (HV.out.keep (fun p hp => Below.cell ((Below.refl w.heap.size w).alloc (Nat.le_refl _) _) (Nat.lt_of_lt_of_le hp hB)) (fun _ h => h)) (by simp; omega) hvs).mono ?_
  rintro e W1 ⟨⟨o, rfl, hm⟩, hb1⟩
  obtain ⟨g, cap, css, rfl, hcap, -, hgw, hgl, hcl, hrow, hkids⟩ := hm.members hne
  have hzA : (w.alloc (.cells zero6 39)).heap.size = w.heap.size + 1 := by simp
  have hb1' : Below (w.heap.size + 1) (w.alloc (.cells zero6 39)) W1 := hzA ▸ hb1
  have hgw' : w.heap.size + 1 ≤ g := hzA ▸ hgw
  have hres : Whole W1 w.heap.size 39 zero6 := (Whole.made w _ _).below hb1' (by omega)
  obtain ⟨d, hd⟩ : ∃ d, (canonM ms).zip css = d := ⟨_, rfl⟩
  have hdl : d.length = ms.length := by rw [← hd, List.length_zip, canonM_length]; omega
  rw [hd] at hrow hkids
  have hz1 : w.heap.size + 1 ≤ W1.heap.size := by have := hb1'.size; omega
  have HX := Lib.hid (And.intro hb1' (And.intro hres (And.intro hrow (And.intro hkids (And.intro hd hdl)))))
  have hgn : ¬ g = W1.heap.size := by omega
  clear hb1 hb1' hres hrow hkids hd hgw hm hcl hzA HV
  rw [← hdl] at hcap hl ⊢
  have hd0 : 0 < d.length := by rw [hdl]; exact List.length_pos_iff.2 hne
  clear hdl hc hA hsz hvs
  simp only [C6.arr]
  go_wp2_with fail
  refine (sort_some d g 0 cap _ (HX.out.2.2.1.keep (fun q => Below.cell ((Below.refl W1.heap.size W1).alloc (Nat.le_refl _) _) hgl) (fun q => Below.frozen ((Below.refl W1.heap.size W1).alloc (Nat.le_refl _) _) hgl)) (by simp; omega) hl).mono ?_
  rintro e W2 ⟨rfl, d', hp, hs, hrow', hon⟩
  have hx : Whole W2 w.heap.size 39 zero6 ∧ Whole W2 W1.heap.size 39 #[.int .i64 5, .bool false, .int .i64 0, .string ⟨#[]⟩, .slice none 0 0, .slice (some ⟨g, 0, none⟩) d'.length cap] ∧ Kids W2 (fun b => (w.heap.size + 1 ≤ b ∧ b < W2.heap.size)) d' ∧ Below w.heap.size w W2 ∧ W1.heap.size + 1 ≤ W2.heap.size := by
    obtain ⟨hb1, hres, hrow, hkids, hd, hdl⟩ := HX.out
    have h1 := hon.1
    simp only [World.alloc, Array.size_push] at h1
    refine ⟨(hon.2.1 _ (by simp; omega) (by omega)).trans (hres.alloc _), ?_, (hkids.perm hp).keep (fun p hp' => World.cell?_of_block ?_) (fun b hb => ?_), ?_, h1⟩
    · rw [hp.length_eq]
      exact (hon.2.1 _ (by simp) (fun e => hgn e.symm)).trans (Whole.made W1 _ _)
    · rw [hon.2.1 p.block (by have := hp'.1.2; simp; omega) hp'.2]
      exact Below.heap_alloc _ _ _ hp'.1.2
    · have h3 := hb.1.1; have h4 := hb.1.2; simp at h3; exact ⟨by omega, by omega⟩
    · refine hon.2.2 w.heap.size w (Below.alloc ?_ (by omega) _) (by omega) (by simp; omega)
      exact ((Below.refl w.heap.size w).alloc (Nat.le_refl _) _).trans (hb1.mono (by omega))
  obtain ⟨hr2, h42, hk2, hbw2, hz2⟩ := hx
  have hlen : d.length = d'.length := hp.length_eq.symm
  rw [hlen] at hl hcap hd0 ⊢
  have hperm : (d'.map (·.1)).Perm (canonM ms) := by
    have h1 := hp.map (·.1)
    have h2 : d.map (·.1) = canonM ms := by
      rw [← HX.out.2.2.2.2.1]
      apply List.map_fst_zip
      rw [canonM_length]
      have := HX.out.2.2.2.2
      rw [← this.1, List.length_zip, canonM_length] at this
      omega
    rwa [h2] at h1
  have HY := Lib.hid (And.intro hrow' (And.intro hk2 (And.intro hbw2 (And.intro hs (And.intro hperm (And.intro hr2 h42))))))
  obtain ⟨b0, b1, b2, b3, b4, b5⟩ := h42.six
  clear hrow' hk2 hbw2 hs hperm hr2 h42 HX hlen hon hp
  go_wp2_with fail
  go_loopg [16] d'.length (MemRel W2 d')
  case atStart => exact ⟨0, by simp, rfl, fun i h h0 => absurd h0 (by omega), Below.refl _ _⟩
  case round =>
    obtain ⟨j, hk, rfl, hno, hb⟩ := hrel
    by_cases hlt : j < d'.length
    · obtain ⟨hrow, hk2, hbw2, hs, hperm, hr2, h42⟩ := HY.out
      have hg2 : g < W2.heap.size := by omega
      have hck := (hb.cell (p := ⟨g, j * 7, none⟩) hg2).trans (hrow.cell0 j hlt)
      have hcj : ∀ q, q < 6 → wr.cell? ⟨g, j * 7 + (1 + q), none⟩ = d'[j].2.arr[q]? := fun q hq => (hb.cell (p := ⟨g, j * 7 + (1 + q), none⟩) hg2).trans (hrow.cells j hlt q hq)
      obtain ⟨ks, hks⟩ : ∃ ks, d'[j].1.1 = ks := ⟨_, rfl⟩
      obtain ⟨cj, hcjd⟩ : ∃ cj : C6, d'[j].2 = cj := ⟨_, rfl⟩
      rw [hks] at hck
      rw [hcjd] at hcj
      obtain ⟨xk, x0, x1, x2, x3, x4, x5⟩ := cells7 hck hcj rfl
      have y5 := (hb.cell (p := ⟨W1.heap.size, 5, none⟩) (show W1.heap.size < W2.heap.size by omega)).trans b5
      obtain ⟨jk, jy, jn, jt, ja, jla, jca, jb, jlb, jcb⟩ := cj
      dsimp only at x0 x1 x2 x3 x4 x5
      have hzr := hb.size
      have hgr : ¬ g = wr.heap.size := by omega
      have hWr : ¬ W1.heap.size = wr.heap.size := by omega
      cases j with
      | zero =>
        have HZ := Lib.hid (And.intro hno (And.intro hb (And.intro hks hcjd)))
        clear hno hb hks hcjd hrow hk2 hbw2 hs hperm hr2 h42 hck hcj b0 b1 b2 b3 b4 b5
        have hj0 : decide ((0 : Int) < ((0 : Nat) : Int)) = false := rfl
        go_wp2_with fail
        go_quiet (fail)
        go_wp2_with fail
        go_roundg (d'.length - 1)
        case rel => exact ⟨1, by omega, by go_num, fun i h h0 => absurd h0 (by omega), below_drewN (HZ.out.2.1.alloc hzr _) _⟩
        case measure => omega
      | succ i =>
        have hcp := (hb.cell (p := ⟨g, i * 7, none⟩) hg2).trans (hrow.cell0 i (by omega))
        obtain ⟨qs, hqs⟩ : ∃ qs, d'[i].1.1 = qs := ⟨_, rfl⟩
        rw [hqs] at hcp
        have hj0 : (0 : Int) < ((i + 1 : Nat) : Int) := by omega
        have hil : (i : Int) < (d'.length : Int) := by omega
        have HZ := Lib.hid (And.intro hno (And.intro hb (And.intro hks (And.intro hcjd hqs))))
        clear hno hb hks hcjd hqs hrow hk2 hbw2 hs hperm hr2 h42 hck hcj b0 b1 b2 b3 b4 b5
        by_cases heq : ks.toList = qs.toList
        · have h1b : (ks.toList == qs.toList) = true := by simp [heq]
          have H1 := Lib.hid heq
          clear heq
          go_wp2_with fail
          obtain ⟨W, hWd⟩ : ∃ W, wr.alloc (.cells #[.string ks, .int .i64 jk, .bool jy, .int .i64 jn, .string jt, .slice ja jla jca, .slice jb jlb jcb] 46) = W := ⟨_, rfl⟩
          rw [hWd]
          have hWb : Below wr.heap.size wr W := hWd ▸ (Below.refl _ _).alloc (Nat.le_refl _) _
          have hWz : wr.heap.size < W.heap.size := by rw [← hWd]; simp
          have zk : W.cell? ⟨wr.heap.size, 0, none⟩ = some (.string ks) := by rw [← hWd]; simp
          have z5 := (hWb.cell (p := ⟨W1.heap.size, 5, none⟩) (show W1.heap.size < wr.heap.size by omega)).trans y5
          have zp := (hWb.cell (p := ⟨g, i * 7, none⟩) (show g < wr.heap.size by omega)).trans hcp
          have HW := Lib.hid hWb
          clear hWd hWb xk x0 x1 x2 x3 x4 x5 y5 hcp
          go_quiet (fail)
          go_wp2_with fail
          obtain ⟨hno, hb, hks, hcjd, hqs⟩ := HZ.out
          refine (within_any ks [] 6 _ _ rfl).mono ?_
          rintro e W3 ⟨⟨v', rfl, hch⟩, hb3⟩
          have hbA : Below W2.heap.size W2 W3 := (below_drewN (hb.trans (HW.out.mono hzr)) _).trans (hb3.mono (show W2.heap.size ≤ W.heap.size by omega))
          have hres := HY.out.2.2.2.2.2.1.below hbA (show w.heap.size < W2.heap.size by omega)
          obtain ⟨a0, a1, a2, a3, a4, a5⟩ := hres.six
          have f0 := hres.frozen 0
          have f1 := hres.frozen 1
          have f2 := hres.frozen 2
          have f3 := hres.frozen 3
          have f4 := hres.frozen 4
          have f5 := hres.frozen 5
          have hzw : w.heap.size < W3.heap.size := hres.lt
          obtain ⟨T, x, rfl⟩ := hch.held
          have HR := Lib.hid (And.intro hch hbA)
          clear hch hbA hres hb hno hks hcjd hqs hb3 zk z5 zp h1b
          go_wp2_with fail
          obtain ⟨W4, hW4⟩ : ∃ W4, put6 W3 w.heap.size 0 ⟨0, false, 0, ⟨#[]⟩, none, 0, 0, none, 0, 0⟩ = W4 := ⟨_, rfl⟩
          have hW4' := hW4
          unfold put6 at hW4'
          simp only [Nat.zero_add] at hW4'
          rw [hW4']
          obtain ⟨m0, m1, m2, m3, m4, m5⟩ : W4.cell? ⟨w.heap.size, 0, none⟩ = some (.int .i64 0) ∧ W4.cell? ⟨w.heap.size, 1, none⟩ = some (.bool false) ∧ W4.cell? ⟨w.heap.size, 2, none⟩ = some (.int .i64 0) ∧ W4.cell? ⟨w.heap.size, 3, none⟩ = some (.string ⟨#[]⟩) ∧ W4.cell? ⟨w.heap.size, 4, none⟩ = some (.slice none 0 0) ∧ W4.cell? ⟨w.heap.size, 5, none⟩ = some (.slice none 0 0) := by
            rw [← hW4']
            simp [go_sem, a0, a1, a2, a3, a4, a5]
          clear hW4'
          refine bodyPost_ret (v := .tuple #[.agg #[.int .i64 0, .bool false, .int .i64 0, .string ⟨#[]⟩, .slice none 0 0, .slice none 0 0], .iface T x]) (by simp [results, Tryd.results10, go_sem, m0, m1, m2, m3, m4, m5]) rfl ⟨?_, ?_⟩
          · obtain ⟨hch, hbA⟩ := HR.out
            obtain ⟨hno, hb, hks, hcjd, hqs⟩ := HZ.out
            obtain ⟨hrow, hk2, hbw2, hs, hperm, hr2, h42⟩ := HY.out
            refine ⟨d'.map (·.1), hperm, fun i j hi hj hij => ?_, .inr ⟨i, _, by simpa using hlt, rfl, hno, ?_, ?_⟩⟩
            · rw [List.getElem_map, List.getElem_map]; exact hs i j (by simpa using hi) (by simpa using hj) hij
            · rw [List.getElem_map, List.getElem_map, hqs, hks]
              have := H1.out
              exact (toList_inj this).symm
            · rw [List.getElem_map, hks]
              obtain ⟨b, why, e, l0, l1, l2, l3⟩ := hch
              have hbn : w.heap.size ≠ b := fun e2 => by rw [← e2, a0] at l0; simp at l0
              have hf : ∀ q, W4.cell? ⟨b, q, none⟩ = W3.cell? ⟨b, q, none⟩ := fun q => hW4 ▸ cell_put6_far W3 _ _ _ ⟨b, q, none⟩ hbn
              exact ⟨b, why, e, (hf 0).trans l0, (hf 1).trans l1, (hf 2).trans l2, l3⟩
          · rw [← hW4]; exact below_put6 (HY.out.2.2.1.trans (HR.out.2.mono HY.out.2.2.1.size)) w.heap.size 0 ⟨0, false, 0, ⟨#[]⟩, none, 0, 0, none, 0, 0⟩ (Nat.le_refl _)
        · have h1b : (ks.toList == qs.toList) = false := by simp [heq]
          have H1 := Lib.hid heq
          clear heq
          go_wp2_with fail
          obtain ⟨W, hWd⟩ : ∃ W, wr.alloc (.cells #[.string ks, .int .i64 jk, .bool jy, .int .i64 jn, .string jt, .slice ja jla jca, .slice jb jlb jcb] 46) = W := ⟨_, rfl⟩
          rw [hWd]
          have hWb : Below wr.heap.size wr W := hWd ▸ (Below.refl _ _).alloc (Nat.le_refl _) _
          have hWz : wr.heap.size < W.heap.size := by rw [← hWd]; simp
          have zk : W.cell? ⟨wr.heap.size, 0, none⟩ = some (.string ks) := by rw [← hWd]; simp
          have z5 := (hWb.cell (p := ⟨W1.heap.size, 5, none⟩) (show W1.heap.size < wr.heap.size by omega)).trans y5
          have zp := (hWb.cell (p := ⟨g, i * 7, none⟩) (show g < wr.heap.size by omega)).trans hcp
          have HW := Lib.hid hWb
          clear hWd hWb xk x0 x1 x2 x3 x4 x5 y5 hcp
          go_quiet (fail)
          go_wp2_with fail
          go_roundg (d'.length - (i + 2))
          case rel =>
            obtain ⟨hno, hb, hks, hcjd, hqs⟩ := HZ.out
            refine ⟨i + 2, by omega, by go_num, fun k h h0 => ?_, below_drewN (hb.trans (HW.out.mono hzr)) _⟩
            by_cases hki : k = i
            · subst hki
              intro e
              rw [List.getElem_map, List.getElem_map, hqs, hks] at e
              exact H1.out (by rw [e])
            · exact hno k h (by omega)
          case measure => omega
    · obtain rfl : j = d'.length := by omega
      obtain ⟨hrow, hk2, hbw2, hs, hperm, hr2, h42⟩ := HY.out
      have hres := hr2.below hb (show w.heap.size < W2.heap.size by omega)
      have h4 := h42.below hb (show W1.heap.size < W2.heap.size by omega)
      obtain ⟨a0, a1, a2, a3, a4, a5⟩ := hres.six
      obtain ⟨c0, c1, c2, c3, c4, c5⟩ := h4.six
      have f0 := hres.frozen 0
      have f1 := hres.frozen 1
      have f2 := hres.frozen 2
      have f3 := hres.frozen 3
      have f4 := hres.frozen 4
      have f5 := hres.frozen 5
      have hzw : w.heap.size < wr.heap.size := hres.lt
      have HR := Lib.hid (And.intro hb hno)
      clear hrow hk2 hbw2 hs hperm hr2 h42 hres h4 hb hno b0 b1 b2 b3 b4 b5
      go_wp2_with fail
      obtain ⟨W4, hW4⟩ : ∃ W4, put6 wr w.heap.size 0 ⟨5, false, 0, ⟨#[]⟩, none, 0, 0, some ⟨g, 0, none⟩, d'.length, cap⟩ = W4 := ⟨_, rfl⟩
      have hW4' := hW4
      unfold put6 at hW4'
      simp only [Nat.zero_add] at hW4'
      rw [hW4']
      obtain ⟨m0, m1, m2, m3, m4, m5⟩ : W4.cell? ⟨w.heap.size, 0, none⟩ = some (.int .i64 5) ∧ W4.cell? ⟨w.heap.size, 1, none⟩ = some (.bool false) ∧ W4.cell? ⟨w.heap.size, 2, none⟩ = some (.int .i64 0) ∧ W4.cell? ⟨w.heap.size, 3, none⟩ = some (.string ⟨#[]⟩) ∧ W4.cell? ⟨w.heap.size, 4, none⟩ = some (.slice none 0 0) ∧ W4.cell? ⟨w.heap.size, 5, none⟩ = some (Value.slice (some ⟨g, 0, none⟩) d'.length cap) := by
        rw [← hW4']
        simp [go_sem, a0, a1, a2, a3, a4, a5]
      clear hW4'
      refine bodyPost_ret (v := .tuple #[.agg #[.int .i64 5, .bool false, .int .i64 0, .string ⟨#[]⟩, .slice none 0 0, .slice (some ⟨g, 0, none⟩) d'.length cap], .nilIface]) (by simp [results, Tryd.results10, go_sem, m0, m1, m2, m3, m4, m5]) rfl ⟨?_, ?_⟩
      · obtain ⟨hb, hno⟩ := HR.out
        obtain ⟨hrow, hk2, hbw2, hs, hperm, hr2, h42⟩ := HY.out
        have hg2 : g < W2.heap.size := by omega
        have hf : ∀ p : Addr, w.heap.size ≠ p.block → p.block < W2.heap.size → W4.cell? p = W2.cell? p := fun p h1 h2 => hW4 ▸ (cell_put6_far wr _ _ _ p h1).trans (hb.cell h2)
        have hfz : ∀ p : Addr, w.heap.size ≠ p.block → p.block < W2.heap.size → W4.frozen? p = W2.frozen? p := fun p h1 h2 => hW4 ▸ (World.frozen?_of_block (heap_put6_far wr _ _ _ p.block (fun e => h1 e.symm))).trans (hb.frozen h2)
        have hzp : W4.heap.size = wr.heap.size := hW4 ▸ size_put6 _ _ _ _
        have hzr := hb.size
        refine ⟨d'.map (·.1), hperm, fun i j hi hj hij => ?_, .inl ⟨⟨5, false, 0, ⟨#[]⟩, none, 0, 0, some ⟨g, 0, none⟩, d'.length, cap⟩, rfl, by simpa using hno, ?_⟩⟩
        · rw [List.getElem_map, List.getElem_map]; exact hs i j (by simpa using hi) (by simpa using hj) hij
        · exact (hrow.keep (fun q => hf ⟨g, q, none⟩ (by show w.heap.size ≠ g; omega) hg2) (fun q => hfz ⟨g, q, none⟩ (by show w.heap.size ≠ g; omega) hg2)).val (hk2.keep (fun p hp => hf p (by have := hp.1; omega) hp.2) (fun b hb => ⟨by have := hb.1; omega, by have := hb.2; exact Nat.lt_of_lt_of_le this (by rw [← hzp] at hzr; exact hzr)⟩)) ⟨by omega, Nat.lt_of_lt_of_le hg2 (by rw [← hzp] at hzr; exact hzr)⟩ hcap hl
      · rw [← hW4]; exact below_put6 (HY.out.2.2.1.trans (HR.out.1.mono HY.out.2.2.1.size)) w.heap.size 0 ⟨5, false, 0, ⟨#[]⟩, none, 0, 0, some ⟨g, 0, none⟩, d'.length, cap⟩ (Nat.le_refl _)
end Go.Proofs.YtpehddbpingobaaDoor
