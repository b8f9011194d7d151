/-
  RecordBlocks, walked: the block of any piece, with any mark, or what is wrong with it, is the document's, and is read as it.
-/
import Derived.Test.YtmejpjknofbffaaDoorAw7
import Derived.Test.YtmejpjknofbffaaDoorRl0
import Derived.Test.YtmejpjknofbffaaDoorRd5
import Derived.Test.YtmejpjknofbffaaDoorRd1
import Derived.Test.YtmejpjknofbffaaDoorCp
import Derived.Test.YtmejpjknofbffaaDoorStp
import Derived.Deep.RegionHeld3
import Derived.Deep.RegionWith
namespace Go.Proofs.YtmejpjknofbffaaDoor
open Go.RowKit Go.Lib
set_option linter.unusedVariables false
set_option linter.unusedSimpArgs false

theorem newbs_at {w w' : World} {x : List UInt8} {A : Option Addr} {n c : Nat} (h : NewBs w w' x (.slice A n c)) : Bt w' A x := by
  obtain ⟨A', c', e, h1, -⟩ := h
  injection e with e1 e2 e3
  subst e1
  exact h1
theorem refblock_pc (p : Pc) (m : UInt8) (h : p.Ok) (w : World) :
    Calls Tryd.prog 11 #[p.dv, .int .u8 (m.toNat : Int)] w fun e w' => e = .returned (.string ⟨(p.blk m).toArray⟩) ∧ Below w.heap.size w w' := by
  have h' := h
  obtain ⟨h1, h2, h3, h4, h5, h6, h7, h8, h9, h10, h11, h12⟩ := h'
  obtain ⟨kd, ep, nu, pa, ps, da⟩ := p
  simp only at h1 h2 h3 h4 h5 h6 h7 h8 h9 h10 h11 h12
  obtain ⟨k, rfl⟩ := Int.eq_ofNat_of_zero_le (show 0 ≤ kd by omega)
  obtain ⟨e, rfl⟩ := Int.eq_ofNat_of_zero_le (show 0 ≤ ep by omega)
  obtain ⟨u, rfl⟩ := Int.eq_ofNat_of_zero_le (show 0 ≤ nu by omega)
  obtain ⟨a, rfl⟩ := Int.eq_ofNat_of_zero_le (show 0 ≤ pa by omega)
  obtain ⟨s, rfl⟩ := Int.eq_ofNat_of_zero_le (show 0 ≤ ps by omega)
  exact refblock_any k e u a s da m (by omega) (by omega) (by omega) (by omega) (by omega) h.d1 w
theorem eC_0 {p : Pc} : eC p = 0 ↔ p.bad = 0 := by
  unfold eC
  split
  · rename_i h; exact ⟨fun _ => h, fun _ => rfl⟩
  · rename_i h; exact ⟨fun x => absurd x (by decide), fun x => absurd x h⟩
theorem check_uni (p : Pc) (hf : p.Fit) (A : Option Addr) (c : Nat) (W : World) :
    Calls Tryd.prog 9 #[p.pv A c] W fun e w' => ∃ ev, e = .returned ev ∧ (∀ V, Below w'.heap.size w' V → ErrVar V → Calls Tryd.prog 8 #[ev] V fun e w2 => e = .returned (eV p) ∧ Below V.heap.size V w2) ∧ Below W.heap.size W w' := by
  refine (rcheck_any p A c W hf).mono ?_
  rintro e w' ⟨ev, rfl, hc, hb⟩
  refine ⟨ev, rfl, fun V hV hE => tell_chk p V ev ?_ hE, hb⟩
  rcases hc with h | ⟨h, h2⟩
  · exact .inl h
  · exact .inr ⟨h, h2.below hV⟩
theorem block_uni (p : Pc) (hf : p.Fit) (A : Option Addr) (c : Nat) (m : UInt8) (W : World) (hB : Bt W A p.da) (hG : G7 W) :
    Calls Tryd.prog 7 #[p.pv A c, .int .u8 (m.toNat : Int)] W fun e w' => ∃ A' l ev, e = .returned (.tuple #[.slice A' l l, ev]) ∧ (∀ V, Below w'.heap.size w' V → ErrVar V → Calls Tryd.prog 8 #[ev] V fun e w2 => e = .returned (eV p) ∧ Below V.heap.size V w2) ∧
      (eC p ≠ 0 → l = 0) ∧ (eC p = 0 → l = 64 ∧ ∃ g, A' = some ⟨g, 0, none⟩ ∧ Bt w' A' (p.blk m)) ∧ Below W.heap.size W w' := by
  by_cases h0 : p.bad = 0
  · refine (block_yes p A c m W hf (Pc.ok_of h0) hB hG.1 hG.2).mono ?_
    rintro e w' ⟨g, rfl, -, hr, hb⟩
    refine ⟨_, 64, _, rfl, fun V hV hE => ?_, fun h => absurd (eC_0.2 h0) h, fun _ => ⟨rfl, g, rfl, hr.bt⟩, hb⟩
    rw [eV_no h0]
    exact tell_nil V
  · refine (block_no p A c m W hf h0).mono ?_
    rintro e w' ⟨ev, rfl, hc, hb⟩
    refine ⟨none, 0, ev, rfl, fun V hV hE => tell_chk p V ev ?_ hE, fun _ => rfl, fun h => absurd (eC_0.1 h) h0, hb⟩
    rcases hc with h | ⟨h, h2⟩
    · exact .inl h
    · exact .inr ⟨h, h2.below hV⟩
set_option maxRecDepth 100000 in
set_option maxHeartbeats 16000000 in
theorem lawBlocks_any (p : Pc) (m : UInt8) (w : World) (hp : p.Fit) (hG : G7 w) (hE : ErrVar w) :
    Calls Tryd.prog 3 #[p.dv, .int .u8 (m.toNat : Int)] w fun e w' => e = .returned (.bool true) ∧ Below w.heap.size w w' := by
  have HAw := Lib.hid (fun W (hW : Below w.heap.size w W) => awake7_any W (hG.below hW))
  have HG := Lib.hid (fun W (hW : Below w.heap.size w W) => hG.below hW)
  have HEr := Lib.hid (fun W (hW : Below w.heap.size w W) => hE.below hW)
  have hCk := fun W => refrcheck_any p W hp
  have hRe := fun W => real_pc p W
  have hBl := fun A c W (hB : Bt W A p.da) (hG : G7 W) => block_uni p hp A c m W hB hG
  have hPk := fun A c W => check_uni p hp A c W
  have hIs := fun A c W (hB : Bt W A p.da) => is_pc p A c W hB
  have hRb := fun (h : p.Ok) W => refblock_pc p m h W
  have hRd := fun (W : World) (A : Option Addr) (c : Nat) (hc : 64 ≤ c) (hm : c ≤ 9223372036854775807) (h : Bt W A (p.blk m)) (hA : ∀ ad, A = some ad → ∃ g q, ad = ⟨g, q, none⟩) (hG : G7 W) (ho : p.Ok) => (show Calls Tryd.prog 10 #[.slice A 64 c] W fun e w' => ∃ A9 c9, e = .returned (.tuple #[p.pv A9 c9, .int .u8 (m.toNat : Int), .nilIface]) ∧ Bt w' A9 p.da ∧ Below W.heap.size W w' by
    have hl := Pc.blk_len ho.d1 m
    have h1 := rread_any W A c (p.blk m) (by rw [hl]; exact hc) hm h hA hG.1 hG.2
    rw [hl] at h1
    obtain ⟨q1, q2, q3⟩ := blk_read (m := m) ho
    refine h1.mono fun e w' h => ?_
    obtain ⟨A3, c3, rfl, h1, h2, h3, h4⟩ := h
    rw [q2] at h1
    refine ⟨A3, c3, ?_, h1, h4⟩
    rw [q1, q2, q3]
    rfl)
  have hlen := fun (ho : p.Ok) => Pc.blk_len ho.d1 m
  have hOk := fun (h : eC p = 0) => Pc.ok_of (eC_0.1 h)
  have hz : (⟨p.da.toArray⟩ : ByteArray).size = p.da.length := List.size_toArray
  unfold eV at hCk hBl hPk
  unfold Pc.dv at hCk hRe hIs hRb ⊢
  unfold Pc.pv at hRe hBl hPk hIs hRd
  obtain ⟨SS, hSS⟩ : ∃ S : ByteArray, (⟨p.da.toArray⟩ : ByteArray) = S := ⟨_, rfl⟩
  rw [hSS] at hCk hRe hIs hRb hz ⊢
  obtain ⟨n, hn⟩ : ∃ n, p.da.length = n := ⟨_, rfl⟩
  obtain ⟨ec, hec⟩ : ∃ n, eC p = n := ⟨_, rfl⟩
  obtain ⟨es, hes⟩ : ∃ n, eP p = n := ⟨_, rfl⟩
  obtain ⟨mm, hmm⟩ : ∃ z : Int, (m.toNat : Int) = z := ⟨_, rfl⟩
  obtain ⟨bk, hbk⟩ : ∃ z, p.blk m = z := ⟨_, rfl⟩
  simp only [hn] at hRe hBl hPk hIs hRd hz
  simp only [hec, hes] at hCk hBl hPk hOk
  simp only [hbk] at hBl hRb hRd hlen
  simp only [hmm] at hBl hRb hRd ⊢
  obtain ⟨SB, hSB⟩ : ∃ S : ByteArray, (⟨bk.toArray⟩ : ByteArray) = S := ⟨_, rfl⟩
  rw [hSB] at hRb
  have hcv := fun (W : World) (g : Nat) (h : Bt W (some ⟨g, 0, none⟩) bk) => str_of h 64
  rw [hSB] at hcv
  have HCk := Lib.hid hCk
  have HRe := Lib.hid hRe
  have HBl := Lib.hid hBl
  have HPk := Lib.hid hPk
  have HIs := Lib.hid hIs
  have HRb0 := Lib.hid hRb
  have HRd := Lib.hid hRd
  have HCv := Lib.hid hcv
  have HLn := Lib.hid hlen
  have HOk := Lib.hid hOk
  have HN := Lib.hid (And.intro hn (And.intro hec hes))
  have h1b := new_below w (.cells #[.int .i64 p.kd, .int .i64 p.ep, .int .i64 p.nu, .int .i64 p.pa, .int .i64 p.ps, .string SS] 23)
  have HAw1 := Lib.hid (HAw.out _ h1b)
  clear hCk hRe hBl hPk hIs hRb hRd hcv hlen hOk hn hec hes hmm hbk hSB hSS hG hE hp
  go_enter Tryd.func3, Tryd.ntmps3
  by_cases hbd : 300 < n
  · have d1 : decide ((300 : Int) < (n : Int)) = true := decide_eq_true (by omega)
    have d3 : decide (300 < n) = true := decide_eq_true hbd
    clear hbd
    go_wp2_with (first
      | (go_at_call 4; go_must ((first | with_reducible refine (HAw1.out).mono ?_ | with_reducible refine (HAw.out _ HB1.out).mono ?_); rintro e W1 ⟨rfl, hb1⟩; (first | (have HB1 := Lib.hid (HB1.out.trans (hb1.mono HB1.out.size))) | (have HB1 := Lib.hid (h1b.trans (hb1.mono h1b.size)); have x5 := ((hd_new w [.int .i64 p.kd, .int .i64 p.ep, .int .i64 p.nu, .int .i64 p.pa, .int .i64 p.ps, .string SS] 23).keep (by simp) hb1).cell 5 _ rfl)); clear hb1)))
    go_ret
    exact ⟨rfl, HB1.out⟩
  · have d1 : decide ((300 : Int) < (n : Int)) = false := decide_eq_false (by omega)
    have d3 : decide (300 < n) = false := decide_eq_false hbd
    have hn9 : n ≤ 300 := by omega
    clear hbd
    go_upto_region 3 with (first
        | (go_at_call 4; go_must (with_reducible refine (HAw1.out).mono ?_; rintro e W1 ⟨rfl, hb1⟩; have HB1 := Lib.hid (h1b.trans (hb1.mono h1b.size)); have HD1 := Lib.hid ((hd_new w [.int .i64 p.kd, .int .i64 p.ep, .int .i64 p.nu, .int .i64 p.pa, .int .i64 p.ps, .string SS] 23).keep (by simp) hb1); have x5 := HD1.out.cell 5 _ rfl; clear hb1)))
    have x0 := HD1.out.cell 0 _ rfl
    have x1 := HD1.out.cell 1 _ rfl
    have x2 := HD1.out.cell 2 _ rfl
    have x3 := HD1.out.cell 3 _ rfl
    have x4 := HD1.out.cell 4 _ rfl
    go_upto_region 4 with (first
        | (go_at_call 5; go_must (with_reducible refine (HCk.out _).mono ?_; rintro e W2 ⟨rfl, hb2⟩; have HB2 := Lib.hid (HB1.out.trans (hb2.mono HB1.out.size)); have HD2 := Lib.hid (HD1.out.keep (HD1.out.lt (by simp)) hb2); clear hb2)))
    obtain ⟨W3, hW3⟩ : ∃ W3, W3 = W2.alloc (.cells #[.int .i64 ec, .int .i64 (-1), .string es] 26) := ⟨_, rfl⟩
    rw [← hW3]
    obtain ⟨gE, hgE⟩ : ∃ g, W2.heap.size = g := ⟨_, rfl⟩
    have hE3 : HdD W3 gE [.int .i64 ec, .int .i64 (-1), .string es] := by rw [hW3, ← hgE]; exact hd_new W2 _ _
    have b23 : Below W2.heap.size W2 W3 := by rw [hW3]; exact new_below W2 _
    have HB3 := Lib.hid (HB2.out.trans (b23.mono HB2.out.size))
    have hD3 := HD2.out.keep (HD2.out.lt (by simp)) b23
    rw [hgE]
    have HC3 := Lib.hid (fun V (hV : Below W3.heap.size W3 V) => show V.cell? ⟨w.heap.size, 0, none⟩ = some (.int .i64 p.kd) ∧ V.cell? ⟨w.heap.size, 1, none⟩ = some (.int .i64 p.ep) ∧ V.cell? ⟨w.heap.size, 2, none⟩ = some (.int .i64 p.nu) ∧ V.cell? ⟨w.heap.size, 3, none⟩ = some (.int .i64 p.pa) ∧ V.cell? ⟨w.heap.size, 4, none⟩ = some (.int .i64 p.ps) ∧ V.cell? ⟨w.heap.size, 5, none⟩ = some (.string SS) ∧ V.cell? ⟨gE, 0, none⟩ = some (.int .i64 ec) ∧ V.cell? ⟨gE, 1, none⟩ = some (.int .i64 (-1)) ∧ V.cell? ⟨gE, 2, none⟩ = some (.string es) from by
      have h := hD3.keep (hD3.lt (by simp)) hV
      have k := hE3.keep (hE3.lt (by simp)) hV
      exact ⟨h.cell 0 _ rfl, h.cell 1 _ rfl, h.cell 2 _ rfl, h.cell 3 _ rfl, h.cell 4 _ rfl, h.cell 5 _ rfl, k.cell 0 _ rfl, k.cell 1 _ rfl, k.cell 2 _ rfl⟩)
    clear x0 x1 x2 x3 x4 x5 hE3 b23 hD3 hW3 hgE h1b
    obtain ⟨x0, x1, x2, x3, x4, x5, y0, y1, y2⟩ := HC3.out _ (Below.refl _ _)
    go_upto_region 5 with (first
        | (go_at_call 6; go_must (with_reducible refine (HRe.out _).mono ?_; rintro e W4 ⟨A4, c4, rfl, hnb, hb4⟩; have HNb := Lib.hid (newbs_at hnb); have HB4 := Lib.hid (HB3.out.trans (hb4.mono HB3.out.size)); have HB34 := Lib.hid hb4; clear hnb hb4))
        | (go_at_call 7; go_must (with_reducible refine (HBl.out A4 c4 _ HNb.out (HG.out _ HB4.out)).mono ?_; rintro e W5 ⟨A5, l5, ev, rfl, ht5, hl5, hg5, hb5⟩; have HT5 := Lib.hid ht5; have HL5 := Lib.hid (And.intro hl5 hg5); have HB5 := Lib.hid (HB4.out.trans (hb5.mono HB4.out.size)); have HB35 := Lib.hid (HB34.out.trans (hb5.mono HB34.out.size)); clear ht5 hl5 hg5 hb5)))
    have HC5 := Lib.hid (fun V (hV : Below W5.heap.size W5 V) => HC3.out V (HB35.out.trans (hV.mono HB35.out.size)))
    clear x0 x1 x2 x3 x4 x5 y0 y1 y2
    go_cut [40] from 29 to 40 (fun v40 wx => v40 = .bool false ∧ Below W5.heap.size W5 wx)
    case first =>
      have HB := Lib.hid (show Below W5.heap.size W5 W5.drew from (Below.refl _ _).drew)
      refine wp_region_held_drew (S := (fun V => Below W5.heap.size W5 V)) (by kernel_rfl) HB.out (fun hS => ?_)
      refine wpAnyH_take (i := 0) (v := ev) rfl (by kernel_rfl) (by kernel_rfl) (by kernel_rfl) (fun _ _ _ h => h) (Or.inl ⟨by rfl, ?_⟩) hS ?_
      · intro w hSw
        obtain ⟨x0, x1, x2, x3, x4, x5, y0, y1, y2⟩ := HC5.out _ hSw
        go_simp
      try simp only [List.getElem_toArray, List.getElem_cons_succ, List.getElem_cons_zero, Act.put, List.setIfInBounds_toArray, List.set_cons_zero, List.set_cons_succ]
      refine wpAnyH_take (i := 2) (v := .agg #[.int .i64 ec, .int .i64 (-1), .string es]) rfl (by kernel_rfl) (by kernel_rfl) (by kernel_rfl) (fun _ _ _ h => h) (Or.inl ⟨by rfl, ?_⟩) hS ?_
      · intro w hSw
        obtain ⟨x0, x1, x2, x3, x4, x5, y0, y1, y2⟩ := HC5.out _ hSw
        go_simp
      try simp only [List.getElem_toArray, List.getElem_cons_succ, List.getElem_cons_zero, Act.put, List.setIfInBounds_toArray, List.set_cons_zero, List.set_cons_succ]
      refine wpAnyH_ready (rs := [1]) (by kernel_rfl) (by simp) ?_
      refine AllReadyH.cons rfl (fun K hK => ?_) (AllReadyH.nil)
      go_simp
      with_reducible refine (HT5.out _ HB.out (HEr.out _ (HB5.out.trans (HB.out.mono HB5.out.size)))).mono ?_
      rintro e W7 ⟨rfl, hb7⟩
      have HB := Lib.hid (HB.out.trans (hb7.mono HB.out.size))
      clear hb7
      refine hK.out _ _ HB.out (fun hS => ?_)
      clear hK K
      try simp only [List.getElem_toArray, List.getElem_cons_succ, List.getElem_cons_zero, Act.put, List.setIfInBounds_toArray, List.set_cons_zero, List.set_cons_succ]
      refine wpAnyH_take (i := 3) (v := .bool false) rfl (by kernel_rfl) (by kernel_rfl) (by kernel_rfl) (fun _ _ _ h => h) (Or.inl ⟨by rfl, ?_⟩) hS ?_
      · intro w hSw
        obtain ⟨x0, x1, x2, x3, x4, x5, y0, y1, y2⟩ := HC5.out _ hSw
        go_simp
      try simp only [List.getElem_toArray, List.getElem_cons_succ, List.getElem_cons_zero, Act.put, List.setIfInBounds_toArray, List.set_cons_zero, List.set_cons_succ]
      refine wpAnyH_take (i := 4) (v := .bool false) rfl (by kernel_rfl) (by kernel_rfl) (by kernel_rfl) (fun _ _ _ h => h) (Or.inl ⟨by rfl, ?_⟩) hS ?_
      · intro w hSw
        obtain ⟨x0, x1, x2, x3, x4, x5, y0, y1, y2⟩ := HC5.out _ hSw
        go_simp
      try simp only [List.getElem_toArray, List.getElem_cons_succ, List.getElem_cons_zero, Act.put, List.setIfInBounds_toArray, List.set_cons_zero, List.set_cons_succ]
      refine wpAnyH_take (i := 5) (v := .agg #[.int .i64 p.kd, .int .i64 p.ep, .int .i64 p.nu, .int .i64 p.pa, .int .i64 p.ps, .string SS]) rfl (by kernel_rfl) (by kernel_rfl) (by kernel_rfl) (fun _ _ _ h => h) (Or.inl ⟨by rfl, ?_⟩) hS ?_
      · intro w hSw
        obtain ⟨x0, x1, x2, x3, x4, x5, y0, y1, y2⟩ := HC5.out _ hSw
        go_simp
      try simp only [List.getElem_toArray, List.getElem_cons_succ, List.getElem_cons_zero, Act.put, List.setIfInBounds_toArray, List.set_cons_zero, List.set_cons_succ]
      refine wpAnyH_take (i := 9) (v := .agg #[.int .i64 ec, .int .i64 (-1), .string es]) rfl (by kernel_rfl) (by kernel_rfl) (by kernel_rfl) (fun _ _ _ h => h) (Or.inl ⟨by rfl, ?_⟩) hS ?_
      · intro w hSw
        obtain ⟨x0, x1, x2, x3, x4, x5, y0, y1, y2⟩ := HC5.out _ hSw
        go_simp
      try simp only [List.getElem_toArray, List.getElem_cons_succ, List.getElem_cons_zero, Act.put, List.setIfInBounds_toArray, List.set_cons_zero, List.set_cons_succ]
      refine wpAnyH_ready (rs := [6]) (by kernel_rfl) (by simp) ?_
      refine AllReadyH.cons rfl (fun K hK => ?_) (AllReadyH.nil)
      go_simp
      with_reducible refine (HRe.out _).mono ?_
      rintro e W7 ⟨A7, c7, rfl, -, hb7⟩
      have HB := Lib.hid (HB.out.trans (hb7.mono HB.out.size))
      clear hb7
      refine hK.out _ _ HB.out (fun hS => ?_)
      clear hK K
      try simp only [List.getElem_toArray, List.getElem_cons_succ, List.getElem_cons_zero, Act.put, List.setIfInBounds_toArray, List.set_cons_zero, List.set_cons_succ]
      refine wpAnyH_ready (rs := [7]) (by kernel_rfl) (by simp) ?_
      refine AllReadyH.cons rfl (fun K hK => ?_) (AllReadyH.nil)
      go_simp
      with_reducible refine (HPk.out A7 c7 _).mono ?_
      rintro e W8 ⟨ev8, rfl, ht8, hb8⟩
      have HT8 := Lib.hid ht8
      have HB := Lib.hid (HB.out.trans (hb8.mono HB.out.size))
      clear hb8 ht8
      refine hK.out _ _ HB.out (fun hS => ?_)
      clear hK K
      try simp only [List.getElem_toArray, List.getElem_cons_succ, List.getElem_cons_zero, Act.put, List.setIfInBounds_toArray, List.set_cons_zero, List.set_cons_succ]
      refine wpAnyH_ready (rs := [8]) (by kernel_rfl) (by simp) ?_
      refine AllReadyH.cons rfl (fun K hK => ?_) (AllReadyH.nil)
      go_simp
      with_reducible refine (HT8.out _ (Below.refl _ _) (HEr.out _ (HB5.out.trans (HB.out.mono HB5.out.size)))).mono ?_
      rintro e W7 ⟨rfl, hb7⟩
      have HB := Lib.hid (HB.out.trans (hb7.mono HB.out.size))
      clear hb7
      refine hK.out _ _ HB.out (fun hS => ?_)
      clear hK K
      try simp only [List.getElem_toArray, List.getElem_cons_succ, List.getElem_cons_zero, Act.put, List.setIfInBounds_toArray, List.set_cons_zero, List.set_cons_succ]
      refine wpAnyH_take (i := 10) (v := .bool false) rfl (by kernel_rfl) (by kernel_rfl) (by kernel_rfl) (fun _ _ _ h => h) (Or.inl ⟨by rfl, ?_⟩) hS ?_
      · intro w hSw
        obtain ⟨x0, x1, x2, x3, x4, x5, y0, y1, y2⟩ := HC5.out _ hSw
        go_simp
      try simp only [List.getElem_toArray, List.getElem_cons_succ, List.getElem_cons_zero, Act.put, List.setIfInBounds_toArray, List.set_cons_zero, List.set_cons_succ]
      refine wpAnyH_take (i := 11) (v := .bool false) rfl (by kernel_rfl) (by kernel_rfl) (by kernel_rfl) (fun _ _ _ h => h) (Or.inl ⟨by rfl, ?_⟩) hS ?_
      · intro w hSw
        obtain ⟨x0, x1, x2, x3, x4, x5, y0, y1, y2⟩ := HC5.out _ hSw
        go_simp
      try simp only [List.getElem_toArray, List.getElem_cons_succ, List.getElem_cons_zero, Act.put, List.setIfInBounds_toArray, List.set_cons_zero, List.set_cons_succ]
      refine wpAnyH_done (by kernel_rfl) ?_ _
      go_wp2_with fail
      go_meet
      exact ⟨rfl, HB.out⟩
    case rest =>
      obtain ⟨rfl, hby⟩ := hcut
      have HBy := Lib.hid hby
      have HBw := Lib.hid (HB5.out.trans (hby.mono HB5.out.size))
      obtain ⟨x0, x1, x2, x3, x4, x5, y0, y1, y2⟩ := HC5.out _ hby
      by_cases hec : ec = 0
      rotate_left
      · have d5 : (ec != 0) = true := by rw [bne_iff_ne]; exact hec
        have d6 : (ec == 0) = false := by rw [beq_eq_false_iff_ne]; exact hec
        obtain rfl : l5 = 0 := HL5.out.1 hec
        clear hec hby
        go_wp2_with fail
        go_ret
        exact ⟨rfl, HBw.out⟩
      subst hec
      obtain ⟨rfl, g5, rfl, hbt5⟩ := HL5.out.2 rfl
      have hok := HOk.out rfl
      have HRb := Lib.hid (HRb0.out hok)
      have HRdo := Lib.hid (fun W A c h1 h2 h3 h4 h5 => HRd.out W A c h1 h2 h3 h4 h5 hok)
      have hlb := HLn.out hok
      have HLb := Lib.hid hlb
      have hbty := hbt5.keep hby
      have HBt5 := Lib.hid hbty
      obtain ⟨g2, c2, w', hr, hl2, hm2, hB2, hb2⟩ := app_copy2 64 hbty (by rw [hlb]; decide) 28
      rw [hlb] at hr hl2
      have hbn := build_noneB wc
      have HB2' := Lib.hid (HBw.out.trans (hb2.mono HBw.out.size))
      have HRdx := Lib.hid (HRdo.out w' (some ⟨g2, 0, none⟩) c2 hl2 hm2 hB2 (fun ad e => by cases e; exact ⟨_, _, rfl⟩) (HG.out w' HB2'.out))
      have HBy2 := Lib.hid hb2
      clear hby hbt5 hok hlb hbty hl2 hm2 hB2 hb2
      go_upto_region 10 with (first
        | ((with_reducible refine at_slot 50 ?_); go_must (refine wpList_runH rfl (.slice (some ⟨g2, 0, none⟩) 64 c2) w' ?_ ?_; exact append_exec _ rfl rfl hr; intro W6 HW6; have hW6 := HW6.out; subst hW6; clear HW6 hr hbn))
        | (go_at_call 10; go_must (with_reducible refine HRdx.out.mono ?_; rintro e W7 ⟨A9, c9, rfl, hB9, hb9⟩; have HBy7 := Lib.hid (HBy2.out.trans (hb9.mono HBy2.out.size)); have HBt7 := Lib.hid hB9; clear hB9 hb9)))
      obtain ⟨W8, hW8⟩ : ∃ W8, W8 = W7.alloc (.cells #[.int .i64 p.kd, .int .i64 p.ep, .int .i64 p.nu, .int .i64 p.pa, .int .i64 p.ps, .slice A9 n c9] 33) := ⟨_, rfl⟩
      rw [← hW8]
      obtain ⟨gP, hgP⟩ : ∃ g, W7.heap.size = g := ⟨_, rfl⟩
      have hE8 : HdD W8 gP [.int .i64 p.kd, .int .i64 p.ep, .int .i64 p.nu, .int .i64 p.pa, .int .i64 p.ps, .slice A9 n c9] := by rw [hW8, ← hgP]; exact hd_new W7 _ _
      have b78 : Below W7.heap.size W7 W8 := by rw [hW8]; exact new_below W7 _
      rw [hgP]
      have HB8 := Lib.hid (HBy7.out.trans (b78.mono HBy7.out.size))
      have HBt9 := Lib.hid (HBt7.out.keep b78)
      have HC10 := Lib.hid (fun V (hV : Below W8.heap.size W8 V) => show V.cell? ⟨w.heap.size, 0, none⟩ = some (.int .i64 p.kd) ∧ V.cell? ⟨w.heap.size, 1, none⟩ = some (.int .i64 p.ep) ∧ V.cell? ⟨w.heap.size, 2, none⟩ = some (.int .i64 p.nu) ∧ V.cell? ⟨w.heap.size, 3, none⟩ = some (.int .i64 p.pa) ∧ V.cell? ⟨w.heap.size, 4, none⟩ = some (.int .i64 p.ps) ∧ V.cell? ⟨w.heap.size, 5, none⟩ = some (.string SS) ∧ V.cell? ⟨gP, 0, none⟩ = some (.int .i64 p.kd) ∧ V.cell? ⟨gP, 1, none⟩ = some (.int .i64 p.ep) ∧ V.cell? ⟨gP, 2, none⟩ = some (.int .i64 p.nu) ∧ V.cell? ⟨gP, 3, none⟩ = some (.int .i64 p.pa) ∧ V.cell? ⟨gP, 4, none⟩ = some (.int .i64 p.ps) ∧ V.cell? ⟨gP, 5, none⟩ = some (.slice A9 n c9) from by
        obtain ⟨x0, x1, x2, x3, x4, x5, -⟩ := HC5.out V (HBy.out.trans ((HB8.out.trans (hV.mono HB8.out.size)).mono HBy.out.size))
        have k := hE8.keep (hE8.lt (by simp)) hV
        exact ⟨x0, x1, x2, x3, x4, x5, k.cell 0 _ rfl, k.cell 1 _ rfl, k.cell 2 _ rfl, k.cell 3 _ rfl, k.cell 4 _ rfl, k.cell 5 _ rfl⟩)
      have HSb := Lib.hid (fun V (hV : Below W8.heap.size W8 V) => by
        have h := HCv.out V g5 (HBt5.out.keep (HB8.out.trans (hV.mono HB8.out.size)))
        rw [HLb.out] at h
        exact h)
      clear x0 x1 x2 x3 x4 x5 y0 y1 y2 hE8 b78 hW8 hgP
      go_cut [4] from 55 to 74 (fun v4 wx => v4 = .bool true ∧ Below W8.heap.size W8 wx)
      case first =>
        have HB := Lib.hid (show Below W8.heap.size W8 W8.drew from (Below.refl _ _).drew)
        refine wp_region_held_drew (S := (fun V => Below W8.heap.size W8 V)) (by kernel_rfl) HB.out (fun hS => ?_)
        refine wpAnyH_take (i := 0) (v := .slice (some ⟨g5, 0, none⟩) 64 64) rfl (by kernel_rfl) (by kernel_rfl) (by kernel_rfl) (fun _ _ _ h => h) (Or.inl ⟨by rfl, ?_⟩) hS ?_
        · intro w hSw
          go_simp
        try simp only [List.getElem_toArray, List.getElem_cons_succ, List.getElem_cons_zero, Act.put, List.setIfInBounds_toArray, List.set_cons_zero, List.set_cons_succ]
        refine wpAnyH_take (i := 1) (v := .string SB) rfl (by kernel_rfl) (by kernel_rfl) (by kernel_rfl) (fun _ _ _ h => h) (Or.inl ⟨by rfl, ?_⟩) hS ?_
        · intro w hSw
          exact conv_exec _ rfl (HSb.out _ hSw)
        try simp only [List.getElem_toArray, List.getElem_cons_succ, List.getElem_cons_zero, Act.put, List.setIfInBounds_toArray, List.set_cons_zero, List.set_cons_succ]
        refine wpAnyH_take (i := 2) (v := .agg #[.int .i64 p.kd, .int .i64 p.ep, .int .i64 p.nu, .int .i64 p.pa, .int .i64 p.ps, .string SS]) rfl (by kernel_rfl) (by kernel_rfl) (by kernel_rfl) (fun _ _ _ h => h) (Or.inl ⟨by rfl, ?_⟩) hS ?_
        · intro w hSw
          obtain ⟨x0, x1, x2, x3, x4, x5, z0, z1, z2, z3, z4, z5⟩ := HC10.out _ hSw
          go_simp
        try simp only [List.getElem_toArray, List.getElem_cons_succ, List.getElem_cons_zero, Act.put, List.setIfInBounds_toArray, List.set_cons_zero, List.set_cons_succ]
        refine wpAnyH_take (i := 3) (v := .int .u8 mm) rfl (by kernel_rfl) (by kernel_rfl) (by kernel_rfl) (fun _ _ _ h => h) (Or.inl ⟨by rfl, ?_⟩) hS ?_
        · intro w hSw
          go_simp
        try simp only [List.getElem_toArray, List.getElem_cons_succ, List.getElem_cons_zero, Act.put, List.setIfInBounds_toArray, List.set_cons_zero, List.set_cons_succ]
        refine wpAnyH_ready (rs := [4]) (by kernel_rfl) (by simp) ?_
        refine AllReadyH.cons rfl (fun K hK => ?_) (AllReadyH.nil)
        go_simp
        with_reducible refine (HRb.out _).mono ?_
        rintro e W8 ⟨rfl, hb8⟩
        have HB := Lib.hid (HB.out.trans (hb8.mono HB.out.size))
        clear hb8
        refine hK.out _ _ HB.out (fun hS => ?_)
        clear hK K
        try simp only [List.getElem_toArray, List.getElem_cons_succ, List.getElem_cons_zero, Act.put, List.setIfInBounds_toArray, List.set_cons_zero, List.set_cons_succ]
        refine wpAnyH_take (i := 5) (v := .bool true) rfl (by kernel_rfl) (by kernel_rfl) (by kernel_rfl) (fun _ _ _ h => h) (Or.inl ⟨by rfl, ?_⟩) hS ?_
        · intro w hSw
          go_simp
        try simp only [List.getElem_toArray, List.getElem_cons_succ, List.getElem_cons_zero, Act.put, List.setIfInBounds_toArray, List.set_cons_zero, List.set_cons_succ]
        refine wpAnyH_take (i := 6) (v := .bool true) rfl (by kernel_rfl) (by kernel_rfl) (by kernel_rfl) (fun _ _ _ h => h) (Or.inl ⟨by rfl, ?_⟩) hS ?_
        · intro w hSw
          go_simp
        try simp only [List.getElem_toArray, List.getElem_cons_succ, List.getElem_cons_zero, Act.put, List.setIfInBounds_toArray, List.set_cons_zero, List.set_cons_succ]
        refine wpAnyH_take (i := 7) (v := .nilIface) rfl (by kernel_rfl) (by kernel_rfl) (by kernel_rfl) (fun _ _ _ h => h) (Or.inl ⟨by rfl, ?_⟩) hS ?_
        · intro w hSw
          go_simp
        try simp only [List.getElem_toArray, List.getElem_cons_succ, List.getElem_cons_zero, Act.put, List.setIfInBounds_toArray, List.set_cons_zero, List.set_cons_succ]
        refine wpAnyH_take (i := 8) (v := .bool true) rfl (by kernel_rfl) (by kernel_rfl) (by kernel_rfl) (fun _ _ _ h => h) (Or.inl ⟨by rfl, ?_⟩) hS ?_
        · intro w hSw
          go_simp
        try simp only [List.getElem_toArray, List.getElem_cons_succ, List.getElem_cons_zero, Act.put, List.setIfInBounds_toArray, List.set_cons_zero, List.set_cons_succ]
        refine wpAnyH_take (i := 9) (v := .bool true) rfl (by kernel_rfl) (by kernel_rfl) (by kernel_rfl) (fun _ _ _ h => h) (Or.inl ⟨by rfl, ?_⟩) hS ?_
        · intro w hSw
          go_simp
        try simp only [List.getElem_toArray, List.getElem_cons_succ, List.getElem_cons_zero, Act.put, List.setIfInBounds_toArray, List.set_cons_zero, List.set_cons_succ]
        refine wpAnyH_take (i := 10) (v := .bool true) rfl (by kernel_rfl) (by kernel_rfl) (by kernel_rfl) (fun _ _ _ h => h) (Or.inl ⟨by rfl, ?_⟩) hS ?_
        · intro w hSw
          go_simp
        try simp only [List.getElem_toArray, List.getElem_cons_succ, List.getElem_cons_zero, Act.put, List.setIfInBounds_toArray, List.set_cons_zero, List.set_cons_succ]
        refine wpAnyH_take (i := 11) (v := .int .u8 mm) rfl (by kernel_rfl) (by kernel_rfl) (by kernel_rfl) (fun _ _ _ h => h) (Or.inl ⟨by rfl, ?_⟩) hS ?_
        · intro w hSw
          go_simp
        try simp only [List.getElem_toArray, List.getElem_cons_succ, List.getElem_cons_zero, Act.put, List.setIfInBounds_toArray, List.set_cons_zero, List.set_cons_succ]
        refine wpAnyH_take (i := 12) (v := .int .u8 mm) rfl (by kernel_rfl) (by kernel_rfl) (by kernel_rfl) (fun _ _ _ h => h) (Or.inl ⟨by rfl, ?_⟩) hS ?_
        · intro w hSw
          go_simp
        try simp only [List.getElem_toArray, List.getElem_cons_succ, List.getElem_cons_zero, Act.put, List.setIfInBounds_toArray, List.set_cons_zero, List.set_cons_succ]
        refine wpAnyH_take (i := 13) (v := .bool true) rfl (by kernel_rfl) (by kernel_rfl) (by kernel_rfl) (fun _ _ _ h => h) (Or.inl ⟨by rfl, ?_⟩) hS ?_
        · intro w hSw
          go_simp
        try simp only [List.getElem_toArray, List.getElem_cons_succ, List.getElem_cons_zero, Act.put, List.setIfInBounds_toArray, List.set_cons_zero, List.set_cons_succ]
        refine wpAnyH_take (i := 14) (v := .bool true) rfl (by kernel_rfl) (by kernel_rfl) (by kernel_rfl) (fun _ _ _ h => h) (Or.inl ⟨by rfl, ?_⟩) hS ?_
        · intro w hSw
          go_simp
        try simp only [List.getElem_toArray, List.getElem_cons_succ, List.getElem_cons_zero, Act.put, List.setIfInBounds_toArray, List.set_cons_zero, List.set_cons_succ]
        refine wpAnyH_take (i := 15) (v := .bool true) rfl (by kernel_rfl) (by kernel_rfl) (by kernel_rfl) (fun _ _ _ h => h) (Or.inl ⟨by rfl, ?_⟩) hS ?_
        · intro w hSw
          go_simp
        try simp only [List.getElem_toArray, List.getElem_cons_succ, List.getElem_cons_zero, Act.put, List.setIfInBounds_toArray, List.set_cons_zero, List.set_cons_succ]
        refine wpAnyH_take (i := 16) (v := .agg #[.int .i64 p.kd, .int .i64 p.ep, .int .i64 p.nu, .int .i64 p.pa, .int .i64 p.ps, .slice A9 n c9]) rfl (by kernel_rfl) (by kernel_rfl) (by kernel_rfl) (fun _ _ _ h => h) (Or.inl ⟨by rfl, ?_⟩) hS ?_
        · intro w hSw
          obtain ⟨x0, x1, x2, x3, x4, x5, z0, z1, z2, z3, z4, z5⟩ := HC10.out _ hSw
          go_simp
        try simp only [List.getElem_toArray, List.getElem_cons_succ, List.getElem_cons_zero, Act.put, List.setIfInBounds_toArray, List.set_cons_zero, List.set_cons_succ]
        refine wpAnyH_take (i := 17) (v := .agg #[.int .i64 p.kd, .int .i64 p.ep, .int .i64 p.nu, .int .i64 p.pa, .int .i64 p.ps, .string SS]) rfl (by kernel_rfl) (by kernel_rfl) (by kernel_rfl) (fun _ _ _ h => h) (Or.inl ⟨by rfl, ?_⟩) hS ?_
        · intro w hSw
          obtain ⟨x0, x1, x2, x3, x4, x5, z0, z1, z2, z3, z4, z5⟩ := HC10.out _ hSw
          go_simp
        try simp only [List.getElem_toArray, List.getElem_cons_succ, List.getElem_cons_zero, Act.put, List.setIfInBounds_toArray, List.set_cons_zero, List.set_cons_succ]
        refine wpAnyH_ready (rs := [18]) (by kernel_rfl) (by simp) ?_
        refine AllReadyH.cons rfl (fun K hK => ?_) (AllReadyH.nil)
        go_simp
        with_reducible refine (HIs.out A9 c9 _ (HBt9.out.keep HB.out)).mono ?_
        rintro e W8 ⟨rfl, hb8⟩
        have HB := Lib.hid (HB.out.trans (hb8.mono HB.out.size))
        clear hb8
        refine hK.out _ _ HB.out (fun hS => ?_)
        clear hK K
        try simp only [List.getElem_toArray, List.getElem_cons_succ, List.getElem_cons_zero, Act.put, List.setIfInBounds_toArray, List.set_cons_zero, List.set_cons_succ]
        refine wpAnyH_take (i := 19) (v := .bool true) rfl (by kernel_rfl) (by kernel_rfl) (by kernel_rfl) (fun _ _ _ h => h) (Or.inl ⟨by rfl, ?_⟩) hS ?_
        · intro w hSw
          go_simp
        try simp only [List.getElem_toArray, List.getElem_cons_succ, List.getElem_cons_zero, Act.put, List.setIfInBounds_toArray, List.set_cons_zero, List.set_cons_succ]
        refine wpAnyH_take (i := 20) (v := .bool true) rfl (by kernel_rfl) (by kernel_rfl) (by kernel_rfl) (fun _ _ _ h => h) (Or.inl ⟨by rfl, ?_⟩) hS ?_
        · intro w hSw
          go_simp
        try simp only [List.getElem_toArray, List.getElem_cons_succ, List.getElem_cons_zero, Act.put, List.setIfInBounds_toArray, List.set_cons_zero, List.set_cons_succ]
        refine wpAnyH_done (by kernel_rfl) ?_ _
        go_wp2_with fail
        go_meet
        exact ⟨rfl, HB.out⟩
      case rest =>
        obtain ⟨rfl, hbz⟩ := hcut
        have HBz := Lib.hid (HBw.out.trans ((HB8.out.trans (hbz.mono HB8.out.size)).mono HBw.out.size))
        clear hbz
        go_wp2_with fail
        go_ret
        exact ⟨rfl, HBz.out⟩
end Go.Proofs.YtmejpjknofbffaaDoor
