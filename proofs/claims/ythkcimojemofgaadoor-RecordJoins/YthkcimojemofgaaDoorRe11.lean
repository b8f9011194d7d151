/-
  Pieces joined, by the program.
-/
import Derived.Test.YthkcimojemofgaaDoorRe11a
namespace Go.Proofs.YthkcimojemofgaaDoor
open Go.RowKit Go.Lib
set_option linter.unusedVariables false
set_option linter.unusedSimpArgs false

theorem jn_iff {a b c X : Prop} [Decidable X] {bs : Bool} (ha : a) (hb : b) (hc : c) (h : decide X = bs) : ((!bs) = false ↔ (a ∧ b ∧ c ∧ X)) := by
  subst h
  simp [ha, hb, hc]
set_option maxHeartbeats 4000000 in
set_option maxRecDepth 100000 in
theorem rjoin_any (w : World) (A : Option Addr) (c : Nat) (l : List Pc) (lim : Nat) (h : Ps w A l lim) (hf : ∀ p ∈ l, p.Fit) (hl : l.length ≤ 1000000) :
    Calls Tryd.prog 21 #[.slice A l.length c] w (JnAns w l) := by
  rcases Nat.eq_zero_or_pos l.length with h0 | h0
  · have hl0 : l = [] := List.eq_nil_of_length_eq_zero h0
    subst hl0
    exact join_none w A c
  obtain ⟨g, q, rfl, -⟩ := h h0
  have HPs := Lib.hid h
  have HF := Lib.hid hf
  obtain ⟨n, hn⟩ : ∃ n, l.length = n := ⟨_, rfl⟩
  have HN := Lib.hid hn
  rw [hn] at h0 hl ⊢
  have hb0 : ((n : Int) == 0) = false := by rw [beq_eq_false_iff_ne]; omega
  clear h hf hn
  go_enter Tryd.func21, Tryd.ntmps21
  go_wp2_with fail
  go_loopg [4, 13] n (JnRel w l (some ⟨g, q, none⟩) lim)
  case atStart => exact ⟨0, by have := HN.out; omega, rfl, by simp [joinB, bcs]; exact World.ownsRow_nil _ _ _ _, fun j h => absurd h (Nat.not_lt_zero _), HPs.out, Below.refl _ _⟩
  case round =>
    obtain ⟨k, hk, rfl, how, hgd, hps, hbl⟩ := hrel
    rw [HN.out] at hk
    by_cases hlt : k < n
    · have hkl : k < l.length := by rw [HN.out]; exact hlt
      obtain ⟨g', q', e', hps'⟩ := hps (by rw [HN.out]; exact h0)
      cases e'
      obtain ⟨B, cb, hc, hB, hBn, hBl, hBg⟩ := hps' k hkl
      obtain ⟨B0, cb0, hc0, -⟩ := hps' 0 (by omega)
      obtain ⟨p, hp⟩ : ∃ p, l[k] = p := ⟨_, rfl⟩
      obtain ⟨p0, hp0⟩ : ∃ p, l[0]'(by omega) = p := ⟨_, rfl⟩
      rw [hp] at hc hB hBn hBl
      rw [hp0] at hc0
      have y0 := hc 0 _ rfl
      have y1 := hc 1 _ rfl
      have y2 := hc 2 _ rfl
      have y3 := hc 3 _ rfl
      have y4 := hc 4 _ rfl
      have y5 := hc 5 _ rfl
      simp only [Nat.add_zero] at y0
      have HR := Lib.hid (And.intro hk (And.intro how (And.intro hgd (And.intro hps hbl))))
      have HC := Lib.hid (And.intro hc (And.intro hc0 hB))
      clear hk how hgd hps hbl hps' hc hc0 hB hBn hBl hBg
      go_upto_region 7 with (fail)
      obtain ⟨W2, hW2⟩ : ∃ W2, W2 = wr.alloc (.cells #[.int .i64 p.kd, .int .i64 p.ep, .int .i64 p.nu, .int .i64 p.pa, .int .i64 p.ps, .slice B p.da.length cb] 33) := ⟨_, rfl⟩
      rw [← hW2]
      have hd2 : HdD W2 wr.heap.size (pcs p B cb) := by rw [hW2]; exact hd_new wr (pcs p B cb) 33
      have HB2 := Lib.hid (show Below wr.heap.size wr W2 by rw [hW2]; exact new_below wr _)
      have hgl : g < wr.heap.size := block_lt_of_cell (a := ⟨g, q + 0 * 6 + 0, none⟩) (HC.out.2.1 0 _ rfl)
      obtain ⟨b2, hb2⟩ : ∃ b2, wr.heap.size = b2 := ⟨_, rfl⟩
      rw [hb2] at hd2 hgl ⊢
      have HGL := Lib.hid (And.intro hb2 hgl)
      have H3 := Lib.hid (fun V (hV : Below W2.heap.size W2 V) => show V.cell? ⟨b2, 0, none⟩ = some (.int .i64 p.kd) ∧ V.cell? ⟨b2, 1, none⟩ = some (.int .i64 p.ep) ∧ V.cell? ⟨b2, 2, none⟩ = some (.int .i64 p.nu) ∧ V.cell? ⟨b2, 3, none⟩ = some (.int .i64 p.pa) ∧ V.cell? ⟨b2, 4, none⟩ = some (.int .i64 p.ps) ∧ V.cell? ⟨b2, 5, none⟩ = some (.slice B p.da.length cb) ∧ V.cell? ⟨g, q, none⟩ = some (.int .i64 p0.kd) ∧ V.cell? ⟨g, q + 1, none⟩ = some (.int .i64 p0.ep) ∧ V.cell? ⟨g, q + 2, none⟩ = some (.int .i64 p0.nu) ∧ V.cell? ⟨g, q + 3, none⟩ = some (.int .i64 p0.pa) ∧ V.cell? ⟨g, q + 4, none⟩ = some (.int .i64 p0.ps) ∧ V.cell? ⟨g, q + 5, none⟩ = some (.slice B0 p0.da.length cb0) from by
        have h1 := hd2.keep (hd2.lt (Nat.succ_pos 5)) hV
        have h2 := fun j v hj => ((HB2.out.trans (hV.mono HB2.out.size)).cell (p := ⟨g, q + 0 * 6 + j, none⟩) (by rw [HGL.out.1]; exact HGL.out.2)).trans (HC.out.2.1 j v hj)
        simp only [Nat.zero_mul, Nat.add_zero] at h2
        exact ⟨h1.cell 0 _ rfl, h1.cell 1 _ rfl, h1.cell 2 _ rfl, h1.cell 3 _ rfl, h1.cell 4 _ rfl, h1.cell 5 _ rfl, h2 0 _ rfl, h2 1 _ rfl, h2 2 _ rfl, h2 3 _ rfl, h2 4 _ rfl, h2 5 _ rfl⟩)
      have HWr := Lib.hid (fun V => rwrong_any p B cb V (HF.out p (by rw [← hp]; exact List.getElem_mem _)))
      have HBs := Lib.hid (fun V => beside_any p p0 B B0 cb cb0 V)
      unfold Pc.pv at HWr HBs
      have hie := fieldOf_ie (p := p)
      have hz : p.bad = 0 → fieldOf p.bad = ⟨#[]⟩ := fun h => by rw [h]; rfl
      have HP := Lib.hid (And.intro hp hp0)
      have HD2 := Lib.hid hd2
      clear hd2 hW2 y0 y1 y2 y3 y4 y5 hp hp0 hb2 hgl
      go_cut [41] from 18 to 41 (fun v41 wx => ∃ b : Bool, v41 = .bool b ∧ (b = false ↔ (p.bad = 0 ∧ p.pa = (k : Int) ∧ p.ps = (n : Int) ∧ p.kd = p0.kd ∧ p.ep = p0.ep ∧ p.nu = p0.nu)) ∧ Below W2.heap.size W2 wx)
      case first =>
        obtain ⟨F, hF⟩ : ∃ F, fieldOf p.bad = F := ⟨_, rfl⟩
        rw [hF] at HWr hie hz

        by_cases c1 : p.bad = 0
        rotate_left
        · have hF1 := hie c1
          have HF1 := Lib.hid c1
          clear hie hz hF c1
          refine wp_region_held_drew (S := (fun V => V.cell? ⟨b2, 0, none⟩ = some (.int .i64 p.kd) ∧ V.cell? ⟨b2, 1, none⟩ = some (.int .i64 p.ep) ∧ V.cell? ⟨b2, 2, none⟩ = some (.int .i64 p.nu) ∧ V.cell? ⟨b2, 3, none⟩ = some (.int .i64 p.pa) ∧ V.cell? ⟨b2, 4, none⟩ = some (.int .i64 p.ps) ∧ V.cell? ⟨b2, 5, none⟩ = some (.slice B p.da.length cb) ∧ V.cell? ⟨g, q, none⟩ = some (.int .i64 p0.kd) ∧ V.cell? ⟨g, q + 1, none⟩ = some (.int .i64 p0.ep) ∧ V.cell? ⟨g, q + 2, none⟩ = some (.int .i64 p0.nu) ∧ V.cell? ⟨g, q + 3, none⟩ = some (.int .i64 p0.pa) ∧ V.cell? ⟨g, q + 4, none⟩ = some (.int .i64 p0.ps) ∧ V.cell? ⟨g, q + 5, none⟩ = some (.slice B0 p0.da.length cb0))) (by kernel_rfl) (H3.out _ (Below.drew (Below.refl _ _))) (fun hS => ?_)
          refine wpAnyH_take (i := 0) (v := .agg #[.int .i64 p.kd, .int .i64 p.ep, .int .i64 p.nu, .int .i64 p.pa, .int .i64 p.ps, .slice B p.da.length cb]) rfl (by kernel_rfl) (by kernel_rfl) (by kernel_rfl) (fun _ _ _ h => h) (Or.inl ⟨by rfl, ?_⟩) hS ?_
          · intro w hSw
            obtain ⟨x0, x1, x2, x3, x4, x5, x6, x7, x8, x9, x10, x11⟩ := hSw
            go_simp
          try simp only [List.getElem_toArray, List.getElem_cons_succ, List.getElem_cons_zero, Act.put, List.setIfInBounds_toArray, List.set_cons_zero, List.set_cons_succ, new_size]
          refine wpAnyH_ready (rs := [1]) (by kernel_rfl) (by simp) ?_
          refine AllReadyH.cons rfl (fun K hK => ?_) (AllReadyH.nil)
          go_simp
          refine (HWr.out _).mono ?_
          rintro e W3 ⟨rfl, hb3⟩
          have HB3 := Lib.hid (undrew hb3)
          clear hb3
          refine hK.out _ _ ?_ (fun hS => ?_)
          · exact H3.out _ HB3.out
          clear hK K
          try simp only [List.getElem_toArray, List.getElem_cons_succ, List.getElem_cons_zero, Act.put, List.setIfInBounds_toArray, List.set_cons_zero, List.set_cons_succ, new_size]
          refine wpAnyH_take (i := 2) (v := .bool true) rfl (by kernel_rfl) (by kernel_rfl) (by kernel_rfl) (fun _ _ _ h => h) (Or.inl ⟨by rfl, ?_⟩) hS ?_
          · intro w hSw
            obtain ⟨x0, x1, x2, x3, x4, x5, x6, x7, x8, x9, x10, x11⟩ := hSw
            go_simp
          try simp only [List.getElem_toArray, List.getElem_cons_succ, List.getElem_cons_zero, Act.put, List.setIfInBounds_toArray, List.set_cons_zero, List.set_cons_succ, new_size]
          refine wpAnyH_take (i := 3) (v := .bool true) rfl (by kernel_rfl) (by kernel_rfl) (by kernel_rfl) (fun _ _ _ h => h) (Or.inl ⟨by rfl, ?_⟩) hS ?_
          · intro w hSw
            obtain ⟨x0, x1, x2, x3, x4, x5, x6, x7, x8, x9, x10, x11⟩ := hSw
            go_simp
          try simp only [List.getElem_toArray, List.getElem_cons_succ, List.getElem_cons_zero, Act.put, List.setIfInBounds_toArray, List.set_cons_zero, List.set_cons_succ, new_size]
          refine wpAnyH_take (i := 4) (v := undef) rfl (by kernel_rfl) (by kernel_rfl) (by kernel_rfl) (fun _ _ _ h => h) (Or.inr ⟨by rfl, rfl⟩) hS ?_
          try simp only [List.getElem_toArray, List.getElem_cons_succ, List.getElem_cons_zero, Act.put, List.setIfInBounds_toArray, List.set_cons_zero, List.set_cons_succ, new_size]
          refine wpAnyH_take (i := 5) (v := undef) rfl (by kernel_rfl) (by kernel_rfl) (by kernel_rfl) (fun _ _ _ h => h) (Or.inr ⟨by rfl, rfl⟩) hS ?_
          try simp only [List.getElem_toArray, List.getElem_cons_succ, List.getElem_cons_zero, Act.put, List.setIfInBounds_toArray, List.set_cons_zero, List.set_cons_succ, new_size]
          refine wpAnyH_take (i := 6) (v := undef) rfl (by kernel_rfl) (by kernel_rfl) (by kernel_rfl) (fun _ _ _ h => h) (Or.inr ⟨by rfl, rfl⟩) hS ?_
          try simp only [List.getElem_toArray, List.getElem_cons_succ, List.getElem_cons_zero, Act.put, List.setIfInBounds_toArray, List.set_cons_zero, List.set_cons_succ, new_size]
          refine wpAnyH_take (i := 7) (v := undef) rfl (by kernel_rfl) (by kernel_rfl) (by kernel_rfl) (fun _ _ _ h => h) (Or.inr ⟨by rfl, rfl⟩) hS ?_
          try simp only [List.getElem_toArray, List.getElem_cons_succ, List.getElem_cons_zero, Act.put, List.setIfInBounds_toArray, List.set_cons_zero, List.set_cons_succ, new_size]
          refine wpAnyH_take (i := 8) (v := .bool true) rfl (by kernel_rfl) (by kernel_rfl) (by kernel_rfl) (fun _ _ _ h => h) (Or.inl ⟨by rfl, ?_⟩) hS ?_
          · intro w hSw
            obtain ⟨x0, x1, x2, x3, x4, x5, x6, x7, x8, x9, x10, x11⟩ := hSw
            go_simp
          try simp only [List.getElem_toArray, List.getElem_cons_succ, List.getElem_cons_zero, Act.put, List.setIfInBounds_toArray, List.set_cons_zero, List.set_cons_succ, new_size]
          refine wpAnyH_take (i := 9) (v := .bool true) rfl (by kernel_rfl) (by kernel_rfl) (by kernel_rfl) (fun _ _ _ h => h) (Or.inl ⟨by rfl, ?_⟩) hS ?_
          · intro w hSw
            obtain ⟨x0, x1, x2, x3, x4, x5, x6, x7, x8, x9, x10, x11⟩ := hSw
            go_simp
          try simp only [List.getElem_toArray, List.getElem_cons_succ, List.getElem_cons_zero, Act.put, List.setIfInBounds_toArray, List.set_cons_zero, List.set_cons_succ, new_size]
          refine wpAnyH_take (i := 10) (v := undef) rfl (by kernel_rfl) (by kernel_rfl) (by kernel_rfl) (fun _ _ _ h => h) (Or.inr ⟨by rfl, rfl⟩) hS ?_
          try simp only [List.getElem_toArray, List.getElem_cons_succ, List.getElem_cons_zero, Act.put, List.setIfInBounds_toArray, List.set_cons_zero, List.set_cons_succ, new_size]
          refine wpAnyH_take (i := 11) (v := undef) rfl (by kernel_rfl) (by kernel_rfl) (by kernel_rfl) (fun _ _ _ h => h) (Or.inr ⟨by rfl, rfl⟩) hS ?_
          try simp only [List.getElem_toArray, List.getElem_cons_succ, List.getElem_cons_zero, Act.put, List.setIfInBounds_toArray, List.set_cons_zero, List.set_cons_succ, new_size]
          refine wpAnyH_take (i := 12) (v := undef) rfl (by kernel_rfl) (by kernel_rfl) (by kernel_rfl) (fun _ _ _ h => h) (Or.inr ⟨by rfl, rfl⟩) hS ?_
          try simp only [List.getElem_toArray, List.getElem_cons_succ, List.getElem_cons_zero, Act.put, List.setIfInBounds_toArray, List.set_cons_zero, List.set_cons_succ, new_size]
          refine wpAnyH_take (i := 13) (v := undef) rfl (by kernel_rfl) (by kernel_rfl) (by kernel_rfl) (fun _ _ _ h => h) (Or.inr ⟨by rfl, rfl⟩) hS ?_
          try simp only [List.getElem_toArray, List.getElem_cons_succ, List.getElem_cons_zero, Act.put, List.setIfInBounds_toArray, List.set_cons_zero, List.set_cons_succ, new_size]
          refine wpAnyH_take (i := 14) (v := undef) rfl (by kernel_rfl) (by kernel_rfl) (by kernel_rfl) (fun _ _ _ h => h) (Or.inr ⟨by rfl, rfl⟩) hS ?_
          try simp only [List.getElem_toArray, List.getElem_cons_succ, List.getElem_cons_zero, Act.put, List.setIfInBounds_toArray, List.set_cons_zero, List.set_cons_succ, new_size]
          refine wpAnyH_take (i := 15) (v := .bool true) rfl (by kernel_rfl) (by kernel_rfl) (by kernel_rfl) (fun _ _ _ h => h) (Or.inl ⟨by rfl, ?_⟩) hS ?_
          · intro w hSw
            obtain ⟨x0, x1, x2, x3, x4, x5, x6, x7, x8, x9, x10, x11⟩ := hSw
            go_simp
          try simp only [List.getElem_toArray, List.getElem_cons_succ, List.getElem_cons_zero, Act.put, List.setIfInBounds_toArray, List.set_cons_zero, List.set_cons_succ, new_size]
          refine wpAnyH_take (i := 16) (v := .bool true) rfl (by kernel_rfl) (by kernel_rfl) (by kernel_rfl) (fun _ _ _ h => h) (Or.inl ⟨by rfl, ?_⟩) hS ?_
          · intro w hSw
            obtain ⟨x0, x1, x2, x3, x4, x5, x6, x7, x8, x9, x10, x11⟩ := hSw
            go_simp
          try simp only [List.getElem_toArray, List.getElem_cons_succ, List.getElem_cons_zero, Act.put, List.setIfInBounds_toArray, List.set_cons_zero, List.set_cons_succ, new_size]
          refine wpAnyH_take (i := 17) (v := undef) rfl (by kernel_rfl) (by kernel_rfl) (by kernel_rfl) (fun _ _ _ h => h) (Or.inr ⟨by rfl, rfl⟩) hS ?_
          try simp only [List.getElem_toArray, List.getElem_cons_succ, List.getElem_cons_zero, Act.put, List.setIfInBounds_toArray, List.set_cons_zero, List.set_cons_succ, new_size]
          refine wpAnyH_take (i := 18) (v := undef) rfl (by kernel_rfl) (by kernel_rfl) (by kernel_rfl) (fun _ _ _ h => h) (Or.inr ⟨by rfl, rfl⟩) hS ?_
          try simp only [List.getElem_toArray, List.getElem_cons_succ, List.getElem_cons_zero, Act.put, List.setIfInBounds_toArray, List.set_cons_zero, List.set_cons_succ, new_size]
          refine wpAnyH_take (i := 19) (v := undef) rfl (by kernel_rfl) (by kernel_rfl) (by kernel_rfl) (fun _ _ _ h => h) (Or.inr ⟨by rfl, rfl⟩) hS ?_
          try simp only [List.getElem_toArray, List.getElem_cons_succ, List.getElem_cons_zero, Act.put, List.setIfInBounds_toArray, List.set_cons_zero, List.set_cons_succ, new_size]
          refine wpAnyH_take (i := 20) (v := undef) rfl (by kernel_rfl) (by kernel_rfl) (by kernel_rfl) (fun _ _ _ h => h) (Or.inr ⟨by rfl, rfl⟩) hS ?_
          try simp only [List.getElem_toArray, List.getElem_cons_succ, List.getElem_cons_zero, Act.put, List.setIfInBounds_toArray, List.set_cons_zero, List.set_cons_succ, new_size]
          refine wpAnyH_take (i := 21) (v := undef) rfl (by kernel_rfl) (by kernel_rfl) (by kernel_rfl) (fun _ _ _ h => h) (Or.inr ⟨by rfl, rfl⟩) hS ?_
          try simp only [List.getElem_toArray, List.getElem_cons_succ, List.getElem_cons_zero, Act.put, List.setIfInBounds_toArray, List.set_cons_zero, List.set_cons_succ, new_size]
          refine wpAnyH_take (i := 22) (v := undef) rfl (by kernel_rfl) (by kernel_rfl) (by kernel_rfl) (fun _ _ _ h => h) (Or.inr ⟨by rfl, rfl⟩) hS ?_
          try simp only [List.getElem_toArray, List.getElem_cons_succ, List.getElem_cons_zero, Act.put, List.setIfInBounds_toArray, List.set_cons_zero, List.set_cons_succ, new_size]
          refine wpAnyH_take (i := 23) (v := .bool true) rfl (by kernel_rfl) (by kernel_rfl) (by kernel_rfl) (fun _ _ _ h => h) (Or.inl ⟨by rfl, ?_⟩) hS ?_
          · intro w hSw
            obtain ⟨x0, x1, x2, x3, x4, x5, x6, x7, x8, x9, x10, x11⟩ := hSw
            go_simp
          try simp only [List.getElem_toArray, List.getElem_cons_succ, List.getElem_cons_zero, Act.put, List.setIfInBounds_toArray, List.set_cons_zero, List.set_cons_succ, new_size]
          refine wpAnyH_done (by kernel_rfl) ?_ _
          go_wp2_with fail
          go_meet
          exact ⟨_, rfl, ⟨fun h => by simp at h, fun h => absurd h.1 HF1.out⟩, HB3.out⟩
        have hF0 := hz c1
        have hF2 : F = ⟨#[]⟩ := hF0
        subst hF2
        have HF1 := Lib.hid c1
        clear hie hz hF hF0 c1
        by_cases c2 : p.pa = (k : Int)
        rotate_left
        · have HC2 := Lib.hid c2
          have c21 : (p.pa == (k : Int)) = false := by rw [beq_eq_false_iff_ne]; exact c2
          have c22 : (p.pa != (k : Int)) = true := by rw [bne, c21]; rfl
          clear c2
          refine wp_region_held_drew (S := (fun V => V.cell? ⟨b2, 0, none⟩ = some (.int .i64 p.kd) ∧ V.cell? ⟨b2, 1, none⟩ = some (.int .i64 p.ep) ∧ V.cell? ⟨b2, 2, none⟩ = some (.int .i64 p.nu) ∧ V.cell? ⟨b2, 3, none⟩ = some (.int .i64 p.pa) ∧ V.cell? ⟨b2, 4, none⟩ = some (.int .i64 p.ps) ∧ V.cell? ⟨b2, 5, none⟩ = some (.slice B p.da.length cb) ∧ V.cell? ⟨g, q, none⟩ = some (.int .i64 p0.kd) ∧ V.cell? ⟨g, q + 1, none⟩ = some (.int .i64 p0.ep) ∧ V.cell? ⟨g, q + 2, none⟩ = some (.int .i64 p0.nu) ∧ V.cell? ⟨g, q + 3, none⟩ = some (.int .i64 p0.pa) ∧ V.cell? ⟨g, q + 4, none⟩ = some (.int .i64 p0.ps) ∧ V.cell? ⟨g, q + 5, none⟩ = some (.slice B0 p0.da.length cb0))) (by kernel_rfl) (H3.out _ (Below.drew (Below.refl _ _))) (fun hS => ?_)
          refine wpAnyH_take (i := 0) (v := .agg #[.int .i64 p.kd, .int .i64 p.ep, .int .i64 p.nu, .int .i64 p.pa, .int .i64 p.ps, .slice B p.da.length cb]) rfl (by kernel_rfl) (by kernel_rfl) (by kernel_rfl) (fun _ _ _ h => h) (Or.inl ⟨by rfl, ?_⟩) hS ?_
          · intro w hSw
            obtain ⟨x0, x1, x2, x3, x4, x5, x6, x7, x8, x9, x10, x11⟩ := hSw
            go_simp
          try simp only [List.getElem_toArray, List.getElem_cons_succ, List.getElem_cons_zero, Act.put, List.setIfInBounds_toArray, List.set_cons_zero, List.set_cons_succ, new_size]
          refine wpAnyH_ready (rs := [1]) (by kernel_rfl) (by simp) ?_
          refine AllReadyH.cons rfl (fun K hK => ?_) (AllReadyH.nil)
          go_simp
          refine (HWr.out _).mono ?_
          rintro e W3 ⟨rfl, hb3⟩
          have HB3 := Lib.hid (undrew hb3)
          clear hb3
          refine hK.out _ _ ?_ (fun hS => ?_)
          · exact H3.out _ HB3.out
          clear hK K
          try simp only [List.getElem_toArray, List.getElem_cons_succ, List.getElem_cons_zero, Act.put, List.setIfInBounds_toArray, List.set_cons_zero, List.set_cons_succ, new_size]
          refine wpAnyH_take (i := 2) (v := .bool false) rfl (by kernel_rfl) (by kernel_rfl) (by kernel_rfl) (fun _ _ _ h => h) (Or.inl ⟨by rfl, ?_⟩) hS ?_
          · intro w hSw
            obtain ⟨x0, x1, x2, x3, x4, x5, x6, x7, x8, x9, x10, x11⟩ := hSw
            go_simp
          try simp only [List.getElem_toArray, List.getElem_cons_succ, List.getElem_cons_zero, Act.put, List.setIfInBounds_toArray, List.set_cons_zero, List.set_cons_succ, new_size]
          refine wpAnyH_take (i := 3) (v := .bool false) rfl (by kernel_rfl) (by kernel_rfl) (by kernel_rfl) (fun _ _ _ h => h) (Or.inl ⟨by rfl, ?_⟩) hS ?_
          · intro w hSw
            obtain ⟨x0, x1, x2, x3, x4, x5, x6, x7, x8, x9, x10, x11⟩ := hSw
            go_simp
          try simp only [List.getElem_toArray, List.getElem_cons_succ, List.getElem_cons_zero, Act.put, List.setIfInBounds_toArray, List.set_cons_zero, List.set_cons_succ, new_size]
          refine wpAnyH_take (i := 4) (v := .pointer (some ⟨b2, 3, none⟩)) rfl (by kernel_rfl) (by kernel_rfl) (by kernel_rfl) (fun _ _ _ h => h) (Or.inl ⟨by rfl, ?_⟩) hS ?_
          · intro w hSw
            obtain ⟨x0, x1, x2, x3, x4, x5, x6, x7, x8, x9, x10, x11⟩ := hSw
            go_simp
          try simp only [List.getElem_toArray, List.getElem_cons_succ, List.getElem_cons_zero, Act.put, List.setIfInBounds_toArray, List.set_cons_zero, List.set_cons_succ, new_size]
          refine wpAnyH_take (i := 5) (v := .int .i64 p.pa) rfl (by kernel_rfl) (by kernel_rfl) (by kernel_rfl) (fun _ _ _ h => h) (Or.inl ⟨by rfl, ?_⟩) hS ?_
          · intro w hSw
            obtain ⟨x0, x1, x2, x3, x4, x5, x6, x7, x8, x9, x10, x11⟩ := hSw
            go_simp
          try simp only [List.getElem_toArray, List.getElem_cons_succ, List.getElem_cons_zero, Act.put, List.setIfInBounds_toArray, List.set_cons_zero, List.set_cons_succ, new_size]
          refine wpAnyH_take (i := 6) (v := .int .i64 (k : Int)) rfl (by kernel_rfl) (by kernel_rfl) (by kernel_rfl) (fun _ _ _ h => h) (Or.inl ⟨by rfl, ?_⟩) hS ?_
          · intro w hSw
            obtain ⟨x0, x1, x2, x3, x4, x5, x6, x7, x8, x9, x10, x11⟩ := hSw
            go_simp
          try simp only [List.getElem_toArray, List.getElem_cons_succ, List.getElem_cons_zero, Act.put, List.setIfInBounds_toArray, List.set_cons_zero, List.set_cons_succ, new_size]
          refine wpAnyH_take (i := 7) (v := .bool true) rfl (by kernel_rfl) (by kernel_rfl) (by kernel_rfl) (fun _ _ _ h => h) (Or.inl ⟨by rfl, ?_⟩) hS ?_
          · intro w hSw
            obtain ⟨x0, x1, x2, x3, x4, x5, x6, x7, x8, x9, x10, x11⟩ := hSw
            go_simp
          try simp only [List.getElem_toArray, List.getElem_cons_succ, List.getElem_cons_zero, Act.put, List.setIfInBounds_toArray, List.set_cons_zero, List.set_cons_succ, new_size]
          refine wpAnyH_take (i := 8) (v := .bool true) rfl (by kernel_rfl) (by kernel_rfl) (by kernel_rfl) (fun _ _ _ h => h) (Or.inl ⟨by rfl, ?_⟩) hS ?_
          · intro w hSw
            obtain ⟨x0, x1, x2, x3, x4, x5, x6, x7, x8, x9, x10, x11⟩ := hSw
            go_simp
          try simp only [List.getElem_toArray, List.getElem_cons_succ, List.getElem_cons_zero, Act.put, List.setIfInBounds_toArray, List.set_cons_zero, List.set_cons_succ, new_size]
          refine wpAnyH_take (i := 9) (v := .bool true) rfl (by kernel_rfl) (by kernel_rfl) (by kernel_rfl) (fun _ _ _ h => h) (Or.inl ⟨by rfl, ?_⟩) hS ?_
          · intro w hSw
            obtain ⟨x0, x1, x2, x3, x4, x5, x6, x7, x8, x9, x10, x11⟩ := hSw
            go_simp
          try simp only [List.getElem_toArray, List.getElem_cons_succ, List.getElem_cons_zero, Act.put, List.setIfInBounds_toArray, List.set_cons_zero, List.set_cons_succ, new_size]
          refine wpAnyH_take (i := 10) (v := undef) rfl (by kernel_rfl) (by kernel_rfl) (by kernel_rfl) (fun _ _ _ h => h) (Or.inr ⟨by rfl, rfl⟩) hS ?_
          try simp only [List.getElem_toArray, List.getElem_cons_succ, List.getElem_cons_zero, Act.put, List.setIfInBounds_toArray, List.set_cons_zero, List.set_cons_succ, new_size]
          refine wpAnyH_take (i := 11) (v := undef) rfl (by kernel_rfl) (by kernel_rfl) (by kernel_rfl) (fun _ _ _ h => h) (Or.inr ⟨by rfl, rfl⟩) hS ?_
          try simp only [List.getElem_toArray, List.getElem_cons_succ, List.getElem_cons_zero, Act.put, List.setIfInBounds_toArray, List.set_cons_zero, List.set_cons_succ, new_size]
          refine wpAnyH_take (i := 12) (v := undef) rfl (by kernel_rfl) (by kernel_rfl) (by kernel_rfl) (fun _ _ _ h => h) (Or.inr ⟨by rfl, rfl⟩) hS ?_
          try simp only [List.getElem_toArray, List.getElem_cons_succ, List.getElem_cons_zero, Act.put, List.setIfInBounds_toArray, List.set_cons_zero, List.set_cons_succ, new_size]
          refine wpAnyH_take (i := 13) (v := undef) rfl (by kernel_rfl) (by kernel_rfl) (by kernel_rfl) (fun _ _ _ h => h) (Or.inr ⟨by rfl, rfl⟩) hS ?_
          try simp only [List.getElem_toArray, List.getElem_cons_succ, List.getElem_cons_zero, Act.put, List.setIfInBounds_toArray, List.set_cons_zero, List.set_cons_succ, new_size]
          refine wpAnyH_take (i := 14) (v := undef) rfl (by kernel_rfl) (by kernel_rfl) (by kernel_rfl) (fun _ _ _ h => h) (Or.inr ⟨by rfl, rfl⟩) hS ?_
          try simp only [List.getElem_toArray, List.getElem_cons_succ, List.getElem_cons_zero, Act.put, List.setIfInBounds_toArray, List.set_cons_zero, List.set_cons_succ, new_size]
          refine wpAnyH_take (i := 15) (v := .bool true) rfl (by kernel_rfl) (by kernel_rfl) (by kernel_rfl) (fun _ _ _ h => h) (Or.inl ⟨by rfl, ?_⟩) hS ?_
          · intro w hSw
            obtain ⟨x0, x1, x2, x3, x4, x5, x6, x7, x8, x9, x10, x11⟩ := hSw
            go_simp
          try simp only [List.getElem_toArray, List.getElem_cons_succ, List.getElem_cons_zero, Act.put, List.setIfInBounds_toArray, List.set_cons_zero, List.set_cons_succ, new_size]
          refine wpAnyH_take (i := 16) (v := .bool true) rfl (by kernel_rfl) (by kernel_rfl) (by kernel_rfl) (fun _ _ _ h => h) (Or.inl ⟨by rfl, ?_⟩) hS ?_
          · intro w hSw
            obtain ⟨x0, x1, x2, x3, x4, x5, x6, x7, x8, x9, x10, x11⟩ := hSw
            go_simp
          try simp only [List.getElem_toArray, List.getElem_cons_succ, List.getElem_cons_zero, Act.put, List.setIfInBounds_toArray, List.set_cons_zero, List.set_cons_succ, new_size]
          refine wpAnyH_take (i := 17) (v := undef) rfl (by kernel_rfl) (by kernel_rfl) (by kernel_rfl) (fun _ _ _ h => h) (Or.inr ⟨by rfl, rfl⟩) hS ?_
          try simp only [List.getElem_toArray, List.getElem_cons_succ, List.getElem_cons_zero, Act.put, List.setIfInBounds_toArray, List.set_cons_zero, List.set_cons_succ, new_size]
          refine wpAnyH_take (i := 18) (v := undef) rfl (by kernel_rfl) (by kernel_rfl) (by kernel_rfl) (fun _ _ _ h => h) (Or.inr ⟨by rfl, rfl⟩) hS ?_
          try simp only [List.getElem_toArray, List.getElem_cons_succ, List.getElem_cons_zero, Act.put, List.setIfInBounds_toArray, List.set_cons_zero, List.set_cons_succ, new_size]
          refine wpAnyH_take (i := 19) (v := undef) rfl (by kernel_rfl) (by kernel_rfl) (by kernel_rfl) (fun _ _ _ h => h) (Or.inr ⟨by rfl, rfl⟩) hS ?_
          try simp only [List.getElem_toArray, List.getElem_cons_succ, List.getElem_cons_zero, Act.put, List.setIfInBounds_toArray, List.set_cons_zero, List.set_cons_succ, new_size]
          refine wpAnyH_take (i := 20) (v := undef) rfl (by kernel_rfl) (by kernel_rfl) (by kernel_rfl) (fun _ _ _ h => h) (Or.inr ⟨by rfl, rfl⟩) hS ?_
          try simp only [List.getElem_toArray, List.getElem_cons_succ, List.getElem_cons_zero, Act.put, List.setIfInBounds_toArray, List.set_cons_zero, List.set_cons_succ, new_size]
          refine wpAnyH_take (i := 21) (v := undef) rfl (by kernel_rfl) (by kernel_rfl) (by kernel_rfl) (fun _ _ _ h => h) (Or.inr ⟨by rfl, rfl⟩) hS ?_
          try simp only [List.getElem_toArray, List.getElem_cons_succ, List.getElem_cons_zero, Act.put, List.setIfInBounds_toArray, List.set_cons_zero, List.set_cons_succ, new_size]
          refine wpAnyH_take (i := 22) (v := undef) rfl (by kernel_rfl) (by kernel_rfl) (by kernel_rfl) (fun _ _ _ h => h) (Or.inr ⟨by rfl, rfl⟩) hS ?_
          try simp only [List.getElem_toArray, List.getElem_cons_succ, List.getElem_cons_zero, Act.put, List.setIfInBounds_toArray, List.set_cons_zero, List.set_cons_succ, new_size]
          refine wpAnyH_take (i := 23) (v := .bool true) rfl (by kernel_rfl) (by kernel_rfl) (by kernel_rfl) (fun _ _ _ h => h) (Or.inl ⟨by rfl, ?_⟩) hS ?_
          · intro w hSw
            obtain ⟨x0, x1, x2, x3, x4, x5, x6, x7, x8, x9, x10, x11⟩ := hSw
            go_simp
          try simp only [List.getElem_toArray, List.getElem_cons_succ, List.getElem_cons_zero, Act.put, List.setIfInBounds_toArray, List.set_cons_zero, List.set_cons_succ, new_size]
          refine wpAnyH_done (by kernel_rfl) ?_ _
          go_wp2_with fail
          go_meet
          exact ⟨_, rfl, ⟨fun h => by simp at h, fun h => absurd h.2.1 HC2.out⟩, HB3.out⟩
        by_cases c3 : p.ps = (n : Int)
        rotate_left
        · have HC2 := Lib.hid c2
          have HC3 := Lib.hid c3
          have c21 : (p.pa == (k : Int)) = true := by rw [beq_iff_eq]; exact c2
          have c22 : (p.pa != (k : Int)) = false := by rw [bne, c21]; rfl
          have c31 : (p.ps == (n : Int)) = false := by rw [beq_eq_false_iff_ne]; exact c3
          have c32 : (p.ps != (n : Int)) = true := by rw [bne, c31]; rfl
          clear c2 c3
          refine wp_region_held_drew (S := (fun V => V.cell? ⟨b2, 0, none⟩ = some (.int .i64 p.kd) ∧ V.cell? ⟨b2, 1, none⟩ = some (.int .i64 p.ep) ∧ V.cell? ⟨b2, 2, none⟩ = some (.int .i64 p.nu) ∧ V.cell? ⟨b2, 3, none⟩ = some (.int .i64 p.pa) ∧ V.cell? ⟨b2, 4, none⟩ = some (.int .i64 p.ps) ∧ V.cell? ⟨b2, 5, none⟩ = some (.slice B p.da.length cb) ∧ V.cell? ⟨g, q, none⟩ = some (.int .i64 p0.kd) ∧ V.cell? ⟨g, q + 1, none⟩ = some (.int .i64 p0.ep) ∧ V.cell? ⟨g, q + 2, none⟩ = some (.int .i64 p0.nu) ∧ V.cell? ⟨g, q + 3, none⟩ = some (.int .i64 p0.pa) ∧ V.cell? ⟨g, q + 4, none⟩ = some (.int .i64 p0.ps) ∧ V.cell? ⟨g, q + 5, none⟩ = some (.slice B0 p0.da.length cb0))) (by kernel_rfl) (H3.out _ (Below.drew (Below.refl _ _))) (fun hS => ?_)
          refine wpAnyH_take (i := 0) (v := .agg #[.int .i64 p.kd, .int .i64 p.ep, .int .i64 p.nu, .int .i64 p.pa, .int .i64 p.ps, .slice B p.da.length cb]) rfl (by kernel_rfl) (by kernel_rfl) (by kernel_rfl) (fun _ _ _ h => h) (Or.inl ⟨by rfl, ?_⟩) hS ?_
          · intro w hSw
            obtain ⟨x0, x1, x2, x3, x4, x5, x6, x7, x8, x9, x10, x11⟩ := hSw
            go_simp
          try simp only [List.getElem_toArray, List.getElem_cons_succ, List.getElem_cons_zero, Act.put, List.setIfInBounds_toArray, List.set_cons_zero, List.set_cons_succ, new_size]
          refine wpAnyH_ready (rs := [1]) (by kernel_rfl) (by simp) ?_
          refine AllReadyH.cons rfl (fun K hK => ?_) (AllReadyH.nil)
          go_simp
          refine (HWr.out _).mono ?_
          rintro e W3 ⟨rfl, hb3⟩
          have HB3 := Lib.hid (undrew hb3)
          clear hb3
          refine hK.out _ _ ?_ (fun hS => ?_)
          · exact H3.out _ HB3.out
          clear hK K
          try simp only [List.getElem_toArray, List.getElem_cons_succ, List.getElem_cons_zero, Act.put, List.setIfInBounds_toArray, List.set_cons_zero, List.set_cons_succ, new_size]
          refine wpAnyH_take (i := 2) (v := .bool false) rfl (by kernel_rfl) (by kernel_rfl) (by kernel_rfl) (fun _ _ _ h => h) (Or.inl ⟨by rfl, ?_⟩) hS ?_
          · intro w hSw
            obtain ⟨x0, x1, x2, x3, x4, x5, x6, x7, x8, x9, x10, x11⟩ := hSw
            go_simp
          try simp only [List.getElem_toArray, List.getElem_cons_succ, List.getElem_cons_zero, Act.put, List.setIfInBounds_toArray, List.set_cons_zero, List.set_cons_succ, new_size]
          refine wpAnyH_take (i := 3) (v := .bool false) rfl (by kernel_rfl) (by kernel_rfl) (by kernel_rfl) (fun _ _ _ h => h) (Or.inl ⟨by rfl, ?_⟩) hS ?_
          · intro w hSw
            obtain ⟨x0, x1, x2, x3, x4, x5, x6, x7, x8, x9, x10, x11⟩ := hSw
            go_simp
          try simp only [List.getElem_toArray, List.getElem_cons_succ, List.getElem_cons_zero, Act.put, List.setIfInBounds_toArray, List.set_cons_zero, List.set_cons_succ, new_size]
          refine wpAnyH_take (i := 4) (v := .pointer (some ⟨b2, 3, none⟩)) rfl (by kernel_rfl) (by kernel_rfl) (by kernel_rfl) (fun _ _ _ h => h) (Or.inl ⟨by rfl, ?_⟩) hS ?_
          · intro w hSw
            obtain ⟨x0, x1, x2, x3, x4, x5, x6, x7, x8, x9, x10, x11⟩ := hSw
            go_simp
          try simp only [List.getElem_toArray, List.getElem_cons_succ, List.getElem_cons_zero, Act.put, List.setIfInBounds_toArray, List.set_cons_zero, List.set_cons_succ, new_size]
          refine wpAnyH_take (i := 5) (v := .int .i64 p.pa) rfl (by kernel_rfl) (by kernel_rfl) (by kernel_rfl) (fun _ _ _ h => h) (Or.inl ⟨by rfl, ?_⟩) hS ?_
          · intro w hSw
            obtain ⟨x0, x1, x2, x3, x4, x5, x6, x7, x8, x9, x10, x11⟩ := hSw
            go_simp
          try simp only [List.getElem_toArray, List.getElem_cons_succ, List.getElem_cons_zero, Act.put, List.setIfInBounds_toArray, List.set_cons_zero, List.set_cons_succ, new_size]
          refine wpAnyH_take (i := 6) (v := .int .i64 (k : Int)) rfl (by kernel_rfl) (by kernel_rfl) (by kernel_rfl) (fun _ _ _ h => h) (Or.inl ⟨by rfl, ?_⟩) hS ?_
          · intro w hSw
            obtain ⟨x0, x1, x2, x3, x4, x5, x6, x7, x8, x9, x10, x11⟩ := hSw
            go_simp
          try simp only [List.getElem_toArray, List.getElem_cons_succ, List.getElem_cons_zero, Act.put, List.setIfInBounds_toArray, List.set_cons_zero, List.set_cons_succ, new_size]
          refine wpAnyH_take (i := 7) (v := .bool false) rfl (by kernel_rfl) (by kernel_rfl) (by kernel_rfl) (fun _ _ _ h => h) (Or.inl ⟨by rfl, ?_⟩) hS ?_
          · intro w hSw
            obtain ⟨x0, x1, x2, x3, x4, x5, x6, x7, x8, x9, x10, x11⟩ := hSw
            go_simp
          try simp only [List.getElem_toArray, List.getElem_cons_succ, List.getElem_cons_zero, Act.put, List.setIfInBounds_toArray, List.set_cons_zero, List.set_cons_succ, new_size]
          refine wpAnyH_take (i := 8) (v := .bool false) rfl (by kernel_rfl) (by kernel_rfl) (by kernel_rfl) (fun _ _ _ h => h) (Or.inl ⟨by rfl, ?_⟩) hS ?_
          · intro w hSw
            obtain ⟨x0, x1, x2, x3, x4, x5, x6, x7, x8, x9, x10, x11⟩ := hSw
            go_simp
          try simp only [List.getElem_toArray, List.getElem_cons_succ, List.getElem_cons_zero, Act.put, List.setIfInBounds_toArray, List.set_cons_zero, List.set_cons_succ, new_size]
          refine wpAnyH_take (i := 9) (v := .bool false) rfl (by kernel_rfl) (by kernel_rfl) (by kernel_rfl) (fun _ _ _ h => h) (Or.inl ⟨by rfl, ?_⟩) hS ?_
          · intro w hSw
            obtain ⟨x0, x1, x2, x3, x4, x5, x6, x7, x8, x9, x10, x11⟩ := hSw
            go_simp
          try simp only [List.getElem_toArray, List.getElem_cons_succ, List.getElem_cons_zero, Act.put, List.setIfInBounds_toArray, List.set_cons_zero, List.set_cons_succ, new_size]
          refine wpAnyH_take (i := 10) (v := .pointer (some ⟨b2, 4, none⟩)) rfl (by kernel_rfl) (by kernel_rfl) (by kernel_rfl) (fun _ _ _ h => h) (Or.inl ⟨by rfl, ?_⟩) hS ?_
          · intro w hSw
            obtain ⟨x0, x1, x2, x3, x4, x5, x6, x7, x8, x9, x10, x11⟩ := hSw
            go_simp
          try simp only [List.getElem_toArray, List.getElem_cons_succ, List.getElem_cons_zero, Act.put, List.setIfInBounds_toArray, List.set_cons_zero, List.set_cons_succ, new_size]
          refine wpAnyH_take (i := 11) (v := .int .i64 p.ps) rfl (by kernel_rfl) (by kernel_rfl) (by kernel_rfl) (fun _ _ _ h => h) (Or.inl ⟨by rfl, ?_⟩) hS ?_
          · intro w hSw
            obtain ⟨x0, x1, x2, x3, x4, x5, x6, x7, x8, x9, x10, x11⟩ := hSw
            go_simp
          try simp only [List.getElem_toArray, List.getElem_cons_succ, List.getElem_cons_zero, Act.put, List.setIfInBounds_toArray, List.set_cons_zero, List.set_cons_succ, new_size]
          refine wpAnyH_take (i := 12) (v := .slice (some ⟨g, q, none⟩) n c) rfl (by kernel_rfl) (by kernel_rfl) (by kernel_rfl) (fun _ _ _ h => h) (Or.inl ⟨by rfl, ?_⟩) hS ?_
          · intro w hSw
            obtain ⟨x0, x1, x2, x3, x4, x5, x6, x7, x8, x9, x10, x11⟩ := hSw
            go_simp
          try simp only [List.getElem_toArray, List.getElem_cons_succ, List.getElem_cons_zero, Act.put, List.setIfInBounds_toArray, List.set_cons_zero, List.set_cons_succ, new_size]
          refine wpAnyH_take (i := 13) (v := .int .i64 (n : Int)) rfl (by kernel_rfl) (by kernel_rfl) (by kernel_rfl) (fun _ _ _ h => h) (Or.inl ⟨by rfl, ?_⟩) hS ?_
          · intro w hSw
            obtain ⟨x0, x1, x2, x3, x4, x5, x6, x7, x8, x9, x10, x11⟩ := hSw
            go_simp
          try simp only [List.getElem_toArray, List.getElem_cons_succ, List.getElem_cons_zero, Act.put, List.setIfInBounds_toArray, List.set_cons_zero, List.set_cons_succ, new_size]
          refine wpAnyH_take (i := 14) (v := .bool true) rfl (by kernel_rfl) (by kernel_rfl) (by kernel_rfl) (fun _ _ _ h => h) (Or.inl ⟨by rfl, ?_⟩) hS ?_
          · intro w hSw
            obtain ⟨x0, x1, x2, x3, x4, x5, x6, x7, x8, x9, x10, x11⟩ := hSw
            go_simp
          try simp only [List.getElem_toArray, List.getElem_cons_succ, List.getElem_cons_zero, Act.put, List.setIfInBounds_toArray, List.set_cons_zero, List.set_cons_succ, new_size]
          refine wpAnyH_take (i := 15) (v := .bool true) rfl (by kernel_rfl) (by kernel_rfl) (by kernel_rfl) (fun _ _ _ h => h) (Or.inl ⟨by rfl, ?_⟩) hS ?_
          · intro w hSw
            obtain ⟨x0, x1, x2, x3, x4, x5, x6, x7, x8, x9, x10, x11⟩ := hSw
            go_simp
          try simp only [List.getElem_toArray, List.getElem_cons_succ, List.getElem_cons_zero, Act.put, List.setIfInBounds_toArray, List.set_cons_zero, List.set_cons_succ, new_size]
          refine wpAnyH_take (i := 16) (v := .bool true) rfl (by kernel_rfl) (by kernel_rfl) (by kernel_rfl) (fun _ _ _ h => h) (Or.inl ⟨by rfl, ?_⟩) hS ?_
          · intro w hSw
            obtain ⟨x0, x1, x2, x3, x4, x5, x6, x7, x8, x9, x10, x11⟩ := hSw
            go_simp
          try simp only [List.getElem_toArray, List.getElem_cons_succ, List.getElem_cons_zero, Act.put, List.setIfInBounds_toArray, List.set_cons_zero, List.set_cons_succ, new_size]
          refine wpAnyH_take (i := 17) (v := undef) rfl (by kernel_rfl) (by kernel_rfl) (by kernel_rfl) (fun _ _ _ h => h) (Or.inr ⟨by rfl, rfl⟩) hS ?_
          try simp only [List.getElem_toArray, List.getElem_cons_succ, List.getElem_cons_zero, Act.put, List.setIfInBounds_toArray, List.set_cons_zero, List.set_cons_succ, new_size]
          refine wpAnyH_take (i := 18) (v := undef) rfl (by kernel_rfl) (by kernel_rfl) (by kernel_rfl) (fun _ _ _ h => h) (Or.inr ⟨by rfl, rfl⟩) hS ?_
          try simp only [List.getElem_toArray, List.getElem_cons_succ, List.getElem_cons_zero, Act.put, List.setIfInBounds_toArray, List.set_cons_zero, List.set_cons_succ, new_size]
          refine wpAnyH_take (i := 19) (v := undef) rfl (by kernel_rfl) (by kernel_rfl) (by kernel_rfl) (fun _ _ _ h => h) (Or.inr ⟨by rfl, rfl⟩) hS ?_
          try simp only [List.getElem_toArray, List.getElem_cons_succ, List.getElem_cons_zero, Act.put, List.setIfInBounds_toArray, List.set_cons_zero, List.set_cons_succ, new_size]
          refine wpAnyH_take (i := 20) (v := undef) rfl (by kernel_rfl) (by kernel_rfl) (by kernel_rfl) (fun _ _ _ h => h) (Or.inr ⟨by rfl, rfl⟩) hS ?_
          try simp only [List.getElem_toArray, List.getElem_cons_succ, List.getElem_cons_zero, Act.put, List.setIfInBounds_toArray, List.set_cons_zero, List.set_cons_succ, new_size]
          refine wpAnyH_take (i := 21) (v := undef) rfl (by kernel_rfl) (by kernel_rfl) (by kernel_rfl) (fun _ _ _ h => h) (Or.inr ⟨by rfl, rfl⟩) hS ?_
          try simp only [List.getElem_toArray, List.getElem_cons_succ, List.getElem_cons_zero, Act.put, List.setIfInBounds_toArray, List.set_cons_zero, List.set_cons_succ, new_size]
          refine wpAnyH_take (i := 22) (v := undef) rfl (by kernel_rfl) (by kernel_rfl) (by kernel_rfl) (fun _ _ _ h => h) (Or.inr ⟨by rfl, rfl⟩) hS ?_
          try simp only [List.getElem_toArray, List.getElem_cons_succ, List.getElem_cons_zero, Act.put, List.setIfInBounds_toArray, List.set_cons_zero, List.set_cons_succ, new_size]
          refine wpAnyH_take (i := 23) (v := .bool true) rfl (by kernel_rfl) (by kernel_rfl) (by kernel_rfl) (fun _ _ _ h => h) (Or.inl ⟨by rfl, ?_⟩) hS ?_
          · intro w hSw
            obtain ⟨x0, x1, x2, x3, x4, x5, x6, x7, x8, x9, x10, x11⟩ := hSw
            go_simp
          try simp only [List.getElem_toArray, List.getElem_cons_succ, List.getElem_cons_zero, Act.put, List.setIfInBounds_toArray, List.set_cons_zero, List.set_cons_succ, new_size]
          refine wpAnyH_done (by kernel_rfl) ?_ _
          go_wp2_with fail
          go_meet
          exact ⟨_, rfl, ⟨fun h => by simp at h, fun h => absurd h.2.2.1 HC3.out⟩, HB3.out⟩
        · have HC2 := Lib.hid c2
          have HC3 := Lib.hid c3
          obtain ⟨bs, hbs⟩ : ∃ b, decide (p.kd = p0.kd ∧ p.ep = p0.ep ∧ p.nu = p0.nu) = b := ⟨_, rfl⟩
          rw [hbs] at HBs
          have HBS := Lib.hid hbs
          have c21 : (p.pa == (k : Int)) = true := by rw [beq_iff_eq]; exact c2
          have c22 : (p.pa != (k : Int)) = false := by rw [bne, c21]; rfl
          have c31 : (p.ps == (n : Int)) = true := by rw [beq_iff_eq]; exact c3
          have c32 : (p.ps != (n : Int)) = false := by rw [bne, c31]; rfl
          clear c2 c3 hbs
          refine wp_region_held_drew (S := (fun V => V.cell? ⟨b2, 0, none⟩ = some (.int .i64 p.kd) ∧ V.cell? ⟨b2, 1, none⟩ = some (.int .i64 p.ep) ∧ V.cell? ⟨b2, 2, none⟩ = some (.int .i64 p.nu) ∧ V.cell? ⟨b2, 3, none⟩ = some (.int .i64 p.pa) ∧ V.cell? ⟨b2, 4, none⟩ = some (.int .i64 p.ps) ∧ V.cell? ⟨b2, 5, none⟩ = some (.slice B p.da.length cb) ∧ V.cell? ⟨g, q, none⟩ = some (.int .i64 p0.kd) ∧ V.cell? ⟨g, q + 1, none⟩ = some (.int .i64 p0.ep) ∧ V.cell? ⟨g, q + 2, none⟩ = some (.int .i64 p0.nu) ∧ V.cell? ⟨g, q + 3, none⟩ = some (.int .i64 p0.pa) ∧ V.cell? ⟨g, q + 4, none⟩ = some (.int .i64 p0.ps) ∧ V.cell? ⟨g, q + 5, none⟩ = some (.slice B0 p0.da.length cb0))) (by kernel_rfl) (H3.out _ (Below.drew (Below.refl _ _))) (fun hS => ?_)
          refine wpAnyH_take (i := 0) (v := .agg #[.int .i64 p.kd, .int .i64 p.ep, .int .i64 p.nu, .int .i64 p.pa, .int .i64 p.ps, .slice B p.da.length cb]) rfl (by kernel_rfl) (by kernel_rfl) (by kernel_rfl) (fun _ _ _ h => h) (Or.inl ⟨by rfl, ?_⟩) hS ?_
          · intro w hSw
            obtain ⟨x0, x1, x2, x3, x4, x5, x6, x7, x8, x9, x10, x11⟩ := hSw
            go_simp
          try simp only [List.getElem_toArray, List.getElem_cons_succ, List.getElem_cons_zero, Act.put, List.setIfInBounds_toArray, List.set_cons_zero, List.set_cons_succ, new_size]
          refine wpAnyH_ready (rs := [1]) (by kernel_rfl) (by simp) ?_
          refine AllReadyH.cons rfl (fun K hK => ?_) (AllReadyH.nil)
          go_simp
          refine (HWr.out _).mono ?_
          rintro e W3 ⟨rfl, hb3⟩
          have HB3 := Lib.hid (undrew hb3)
          clear hb3
          refine hK.out _ _ ?_ (fun hS => ?_)
          · exact H3.out _ HB3.out
          clear hK K
          try simp only [List.getElem_toArray, List.getElem_cons_succ, List.getElem_cons_zero, Act.put, List.setIfInBounds_toArray, List.set_cons_zero, List.set_cons_succ, new_size]
          refine wpAnyH_take (i := 2) (v := .bool false) rfl (by kernel_rfl) (by kernel_rfl) (by kernel_rfl) (fun _ _ _ h => h) (Or.inl ⟨by rfl, ?_⟩) hS ?_
          · intro w hSw
            obtain ⟨x0, x1, x2, x3, x4, x5, x6, x7, x8, x9, x10, x11⟩ := hSw
            go_simp
          try simp only [List.getElem_toArray, List.getElem_cons_succ, List.getElem_cons_zero, Act.put, List.setIfInBounds_toArray, List.set_cons_zero, List.set_cons_succ, new_size]
          refine wpAnyH_take (i := 3) (v := .bool false) rfl (by kernel_rfl) (by kernel_rfl) (by kernel_rfl) (fun _ _ _ h => h) (Or.inl ⟨by rfl, ?_⟩) hS ?_
          · intro w hSw
            obtain ⟨x0, x1, x2, x3, x4, x5, x6, x7, x8, x9, x10, x11⟩ := hSw
            go_simp
          try simp only [List.getElem_toArray, List.getElem_cons_succ, List.getElem_cons_zero, Act.put, List.setIfInBounds_toArray, List.set_cons_zero, List.set_cons_succ, new_size]
          refine wpAnyH_take (i := 4) (v := .pointer (some ⟨b2, 3, none⟩)) rfl (by kernel_rfl) (by kernel_rfl) (by kernel_rfl) (fun _ _ _ h => h) (Or.inl ⟨by rfl, ?_⟩) hS ?_
          · intro w hSw
            obtain ⟨x0, x1, x2, x3, x4, x5, x6, x7, x8, x9, x10, x11⟩ := hSw
            go_simp
          try simp only [List.getElem_toArray, List.getElem_cons_succ, List.getElem_cons_zero, Act.put, List.setIfInBounds_toArray, List.set_cons_zero, List.set_cons_succ, new_size]
          refine wpAnyH_take (i := 5) (v := .int .i64 p.pa) rfl (by kernel_rfl) (by kernel_rfl) (by kernel_rfl) (fun _ _ _ h => h) (Or.inl ⟨by rfl, ?_⟩) hS ?_
          · intro w hSw
            obtain ⟨x0, x1, x2, x3, x4, x5, x6, x7, x8, x9, x10, x11⟩ := hSw
            go_simp
          try simp only [List.getElem_toArray, List.getElem_cons_succ, List.getElem_cons_zero, Act.put, List.setIfInBounds_toArray, List.set_cons_zero, List.set_cons_succ, new_size]
          refine wpAnyH_take (i := 6) (v := .int .i64 (k : Int)) rfl (by kernel_rfl) (by kernel_rfl) (by kernel_rfl) (fun _ _ _ h => h) (Or.inl ⟨by rfl, ?_⟩) hS ?_
          · intro w hSw
            obtain ⟨x0, x1, x2, x3, x4, x5, x6, x7, x8, x9, x10, x11⟩ := hSw
            go_simp
          try simp only [List.getElem_toArray, List.getElem_cons_succ, List.getElem_cons_zero, Act.put, List.setIfInBounds_toArray, List.set_cons_zero, List.set_cons_succ, new_size]
          refine wpAnyH_take (i := 7) (v := .bool false) rfl (by kernel_rfl) (by kernel_rfl) (by kernel_rfl) (fun _ _ _ h => h) (Or.inl ⟨by rfl, ?_⟩) hS ?_
          · intro w hSw
            obtain ⟨x0, x1, x2, x3, x4, x5, x6, x7, x8, x9, x10, x11⟩ := hSw
            go_simp
          try simp only [List.getElem_toArray, List.getElem_cons_succ, List.getElem_cons_zero, Act.put, List.setIfInBounds_toArray, List.set_cons_zero, List.set_cons_succ, new_size]
          refine wpAnyH_take (i := 8) (v := .bool false) rfl (by kernel_rfl) (by kernel_rfl) (by kernel_rfl) (fun _ _ _ h => h) (Or.inl ⟨by rfl, ?_⟩) hS ?_
          · intro w hSw
            obtain ⟨x0, x1, x2, x3, x4, x5, x6, x7, x8, x9, x10, x11⟩ := hSw
            go_simp
          try simp only [List.getElem_toArray, List.getElem_cons_succ, List.getElem_cons_zero, Act.put, List.setIfInBounds_toArray, List.set_cons_zero, List.set_cons_succ, new_size]
          refine wpAnyH_take (i := 9) (v := .bool false) rfl (by kernel_rfl) (by kernel_rfl) (by kernel_rfl) (fun _ _ _ h => h) (Or.inl ⟨by rfl, ?_⟩) hS ?_
          · intro w hSw
            obtain ⟨x0, x1, x2, x3, x4, x5, x6, x7, x8, x9, x10, x11⟩ := hSw
            go_simp
          try simp only [List.getElem_toArray, List.getElem_cons_succ, List.getElem_cons_zero, Act.put, List.setIfInBounds_toArray, List.set_cons_zero, List.set_cons_succ, new_size]
          refine wpAnyH_take (i := 10) (v := .pointer (some ⟨b2, 4, none⟩)) rfl (by kernel_rfl) (by kernel_rfl) (by kernel_rfl) (fun _ _ _ h => h) (Or.inl ⟨by rfl, ?_⟩) hS ?_
          · intro w hSw
            obtain ⟨x0, x1, x2, x3, x4, x5, x6, x7, x8, x9, x10, x11⟩ := hSw
            go_simp
          try simp only [List.getElem_toArray, List.getElem_cons_succ, List.getElem_cons_zero, Act.put, List.setIfInBounds_toArray, List.set_cons_zero, List.set_cons_succ, new_size]
          refine wpAnyH_take (i := 11) (v := .int .i64 p.ps) rfl (by kernel_rfl) (by kernel_rfl) (by kernel_rfl) (fun _ _ _ h => h) (Or.inl ⟨by rfl, ?_⟩) hS ?_
          · intro w hSw
            obtain ⟨x0, x1, x2, x3, x4, x5, x6, x7, x8, x9, x10, x11⟩ := hSw
            go_simp
          try simp only [List.getElem_toArray, List.getElem_cons_succ, List.getElem_cons_zero, Act.put, List.setIfInBounds_toArray, List.set_cons_zero, List.set_cons_succ, new_size]
          refine wpAnyH_take (i := 12) (v := .slice (some ⟨g, q, none⟩) n c) rfl (by kernel_rfl) (by kernel_rfl) (by kernel_rfl) (fun _ _ _ h => h) (Or.inl ⟨by rfl, ?_⟩) hS ?_
          · intro w hSw
            obtain ⟨x0, x1, x2, x3, x4, x5, x6, x7, x8, x9, x10, x11⟩ := hSw
            go_simp
          try simp only [List.getElem_toArray, List.getElem_cons_succ, List.getElem_cons_zero, Act.put, List.setIfInBounds_toArray, List.set_cons_zero, List.set_cons_succ, new_size]
          refine wpAnyH_take (i := 13) (v := .int .i64 (n : Int)) rfl (by kernel_rfl) (by kernel_rfl) (by kernel_rfl) (fun _ _ _ h => h) (Or.inl ⟨by rfl, ?_⟩) hS ?_
          · intro w hSw
            obtain ⟨x0, x1, x2, x3, x4, x5, x6, x7, x8, x9, x10, x11⟩ := hSw
            go_simp
          try simp only [List.getElem_toArray, List.getElem_cons_succ, List.getElem_cons_zero, Act.put, List.setIfInBounds_toArray, List.set_cons_zero, List.set_cons_succ, new_size]
          refine wpAnyH_take (i := 14) (v := .bool false) rfl (by kernel_rfl) (by kernel_rfl) (by kernel_rfl) (fun _ _ _ h => h) (Or.inl ⟨by rfl, ?_⟩) hS ?_
          · intro w hSw
            obtain ⟨x0, x1, x2, x3, x4, x5, x6, x7, x8, x9, x10, x11⟩ := hSw
            go_simp
          try simp only [List.getElem_toArray, List.getElem_cons_succ, List.getElem_cons_zero, Act.put, List.setIfInBounds_toArray, List.set_cons_zero, List.set_cons_succ, new_size]
          refine wpAnyH_take (i := 15) (v := .bool false) rfl (by kernel_rfl) (by kernel_rfl) (by kernel_rfl) (fun _ _ _ h => h) (Or.inl ⟨by rfl, ?_⟩) hS ?_
          · intro w hSw
            obtain ⟨x0, x1, x2, x3, x4, x5, x6, x7, x8, x9, x10, x11⟩ := hSw
            go_simp
          try simp only [List.getElem_toArray, List.getElem_cons_succ, List.getElem_cons_zero, Act.put, List.setIfInBounds_toArray, List.set_cons_zero, List.set_cons_succ, new_size]
          refine wpAnyH_take (i := 16) (v := .bool false) rfl (by kernel_rfl) (by kernel_rfl) (by kernel_rfl) (fun _ _ _ h => h) (Or.inl ⟨by rfl, ?_⟩) hS ?_
          · intro w hSw
            obtain ⟨x0, x1, x2, x3, x4, x5, x6, x7, x8, x9, x10, x11⟩ := hSw
            go_simp
          try simp only [List.getElem_toArray, List.getElem_cons_succ, List.getElem_cons_zero, Act.put, List.setIfInBounds_toArray, List.set_cons_zero, List.set_cons_succ, new_size]
          refine wpAnyH_take (i := 17) (v := .agg #[.int .i64 p.kd, .int .i64 p.ep, .int .i64 p.nu, .int .i64 p.pa, .int .i64 p.ps, .slice B p.da.length cb]) rfl (by kernel_rfl) (by kernel_rfl) (by kernel_rfl) (fun _ _ _ h => h) (Or.inl ⟨by rfl, ?_⟩) hS ?_
          · intro w hSw
            obtain ⟨x0, x1, x2, x3, x4, x5, x6, x7, x8, x9, x10, x11⟩ := hSw
            go_simp
          try simp only [List.getElem_toArray, List.getElem_cons_succ, List.getElem_cons_zero, Act.put, List.setIfInBounds_toArray, List.set_cons_zero, List.set_cons_succ, new_size]
          refine wpAnyH_take (i := 18) (v := .slice (some ⟨g, q, none⟩) n c) rfl (by kernel_rfl) (by kernel_rfl) (by kernel_rfl) (fun _ _ _ h => h) (Or.inl ⟨by rfl, ?_⟩) hS ?_
          · intro w hSw
            obtain ⟨x0, x1, x2, x3, x4, x5, x6, x7, x8, x9, x10, x11⟩ := hSw
            go_simp
          try simp only [List.getElem_toArray, List.getElem_cons_succ, List.getElem_cons_zero, Act.put, List.setIfInBounds_toArray, List.set_cons_zero, List.set_cons_succ, new_size]
          refine wpAnyH_take (i := 19) (v := .pointer (some ⟨g, q, none⟩)) rfl (by kernel_rfl) (by kernel_rfl) (by kernel_rfl) (fun _ _ _ h => h) (Or.inl ⟨by rfl, ?_⟩) hS ?_
          · intro w hSw
            obtain ⟨x0, x1, x2, x3, x4, x5, x6, x7, x8, x9, x10, x11⟩ := hSw
            go_simp
          try simp only [List.getElem_toArray, List.getElem_cons_succ, List.getElem_cons_zero, Act.put, List.setIfInBounds_toArray, List.set_cons_zero, List.set_cons_succ, new_size]
          refine wpAnyH_take (i := 20) (v := .agg #[.int .i64 p0.kd, .int .i64 p0.ep, .int .i64 p0.nu, .int .i64 p0.pa, .int .i64 p0.ps, .slice B0 p0.da.length cb0]) rfl (by kernel_rfl) (by kernel_rfl) (by kernel_rfl) (fun _ _ _ h => h) (Or.inl ⟨by rfl, ?_⟩) hS ?_
          · intro w hSw
            obtain ⟨x0, x1, x2, x3, x4, x5, x6, x7, x8, x9, x10, x11⟩ := hSw
            go_simp
          try simp only [List.getElem_toArray, List.getElem_cons_succ, List.getElem_cons_zero, Act.put, List.setIfInBounds_toArray, List.set_cons_zero, List.set_cons_succ, new_size]
          refine wpAnyH_ready (rs := [21]) (by kernel_rfl) (by simp) ?_
          refine AllReadyH.cons rfl (fun K hK => ?_) (AllReadyH.nil)
          go_simp
          refine (HBs.out _).mono ?_
          rintro e W4 ⟨rfl, hb4⟩
          have HB4 := Lib.hid (show Below W2.heap.size W2 W4 from HB3.out.trans (hb4.mono HB3.out.size))
          clear hb4
          refine hK.out _ _ ?_ (fun hS => ?_)
          · exact H3.out _ HB4.out
          clear hK K
          try simp only [List.getElem_toArray, List.getElem_cons_succ, List.getElem_cons_zero, Act.put, List.setIfInBounds_toArray, List.set_cons_zero, List.set_cons_succ, new_size]
          refine wpAnyH_take (i := 22) (v := .bool (!bs)) rfl (by kernel_rfl) (by kernel_rfl) (by kernel_rfl) (fun _ _ _ h => h) (Or.inl ⟨by rfl, ?_⟩) hS ?_
          · intro w hSw
            obtain ⟨x0, x1, x2, x3, x4, x5, x6, x7, x8, x9, x10, x11⟩ := hSw
            go_simp
          try simp only [List.getElem_toArray, List.getElem_cons_succ, List.getElem_cons_zero, Act.put, List.setIfInBounds_toArray, List.set_cons_zero, List.set_cons_succ, new_size]
          refine wpAnyH_take (i := 23) (v := .bool (!bs)) rfl (by kernel_rfl) (by kernel_rfl) (by kernel_rfl) (fun _ _ _ h => h) (Or.inl ⟨by rfl, ?_⟩) hS ?_
          · intro w hSw
            obtain ⟨x0, x1, x2, x3, x4, x5, x6, x7, x8, x9, x10, x11⟩ := hSw
            go_simp
          try simp only [List.getElem_toArray, List.getElem_cons_succ, List.getElem_cons_zero, Act.put, List.setIfInBounds_toArray, List.set_cons_zero, List.set_cons_succ, new_size]
          refine wpAnyH_done (by kernel_rfl) ?_ _
          go_wp2_with fail
          go_meet
          exact ⟨_, rfl, jn_iff HF1.out HC2.out HC3.out HBS.out, HB4.out⟩
      case rest =>
        obtain ⟨b, rfl, hbi, hbx⟩ := hcut
        have HBx := Lib.hid hbx
        have HBi := Lib.hid hbi
        have HBw := Lib.hid (show Below w.heap.size w wc from HR.out.2.2.2.2.trans ((HB2.out.trans (hbx.mono HB2.out.size)).mono HR.out.2.2.2.2.size))
        have HBr := Lib.hid (show Below wr.heap.size wr wc from HB2.out.trans (hbx.mono HB2.out.size))
        obtain ⟨x0, x1, x2, x3, x4, x5, x6, x7, x8, x9, x10, x11⟩ := H3.out _ hbx
        have HE0 := Lib.hid (show l.getD 0 zeroPc = p0 by rw [List.getD_eq_getElem?_getD, List.getElem?_eq_getElem (by rw [HN.out]; exact h0)]; exact HP.out.2)
        clear hbi hbx
        obtain ⟨m, hm⟩ : ∃ m, p.da.length = m := ⟨_, rfl⟩
        have HM := Lib.hid hm
        rw [hm] at x5 ⊢
        clear hm
        cases b with
        | true =>
          have hno : ¬ JoinOk l := fun hj => by
            obtain ⟨g1, g2, g3, g4, g5⟩ := hj.2 k hkl
            rw [HP.out.1] at g1 g2 g3 g4
            rw [HE0.out] at g4
            rw [HN.out] at g3
            exact absurd (HBi.out.2 ⟨g1, g2, g3, g4⟩) (by simp)
          have HNo := Lib.hid hno
          clear hno
          go_wp2_with fail
          go_ret2
          exact jn_no HNo.out HBw.out
        | false =>
          have HGd := Lib.hid (HBi.out.1 rfl)
          by_cases hk0 : 0 < k ∧ m = 0
          · have d1 : decide ((0 : Int) < (k : Int)) = true := decide_eq_true (by omega)
            have d2 : ((m : Int) == 0) = true := by rw [beq_iff_eq]; omega
            have HNo := Lib.hid (show ¬ JoinOk l from fun hj => by
              have g5 := (hj.2 k hkl).d hk0.1
              rw [HP.out.1, HM.out] at g5
              exact g5 hk0.2)
            obtain ⟨hk1, hm0⟩ := hk0
            have d3 : decide (0 < k) = true := decide_eq_true hk1
            subst hm0
            go_wp2_with fail
            go_ret2
            exact jn_no HNo.out HBw.out
          · have hp42 : p.da.length ≤ 42 := (Pc.ok_of HGd.out.1).d1
            have hlen : (joinB (l.take k)).length ≤ 42000000 := by
              have h1 := joinB_len (l := l.take k) (fun p hp => by
                obtain ⟨j, hj, rfl⟩ := List.getElem_of_mem hp
                rw [List.getElem_take]
                have hjk : j < k := by rw [List.length_take] at hj; omega
                exact (Pc.ok_of (HR.out.2.2.1 j hjk (by omega)).b).d1)
              have h2 : (l.take k).length ≤ 1000000 := by rw [List.length_take, HN.out]; omega
              omega
            obtain ⟨i8, hi8, hz0, hz1, hz2⟩ := info_parts info_u8
            obtain ⟨v', w', hr, ho, hg3, -⟩ := app_gen (P := Tryd.prog) w.heap.size 28 28 5 i8 _ 1 1 Tryd.underlying28 hi8 hz0 hz1 hz2 rfl (by decide) _ (joinB (l.take k)).length (bcs (joinB (l.take k))) (own_keepR HR.out.2.1 HBr.out) B p.da.length cb (bcs p.da) ((HC.out.2.2.keep HBr.out).srcs) (bcs_one _) (by simp only [maxLen]; omega) (by omega) HBw.out.size
            have HO := Lib.hid ho
            have HG3 := Lib.hid (show Below w.heap.size w w' from HBw.out.grown hg3 HBw.out.size (fun k hk => ((own_keepR HR.out.2.1 HBr.out).lt k hk).1))
            have HPs3 := Lib.hid (show Ps w' (some ⟨g, q, none⟩) l lim from HPs.out.keep (HBw.out.grown hg3 HBw.out.size (fun k hk => ((own_keepR HR.out.2.1 HBr.out).lt k hk).1)))
            rw [HM.out] at hr
            clear ho hg3 hlen hp42 hi8 hz0 hz1 hz2
            rcases Nat.eq_zero_or_pos k with hk1 | hk1
            · have d1 : decide ((0 : Int) < (k : Int)) = false := decide_eq_false (by omega)
              have d3 : decide (0 < k) = false := decide_eq_false (by omega)
              clear hk0
              go_wp2_with ((with_reducible refine at_slot 55 ?_); go_must (refine wpList_runH rfl v' w' ?_ ?_; exact append_exec _ rfl rfl hr; intro W4 HW4))
              go_roundg (n - (k + 1))
              case rel =>
                obtain ⟨q1, q2, q3, q4, q5⟩ := HR.out
                refine ⟨k + 1, by rw [HN.out]; omega, by go_num, ?_, fun j hj hl2 => ?_, ?_, ?_⟩
                · rw [HW4.out, joinB_take l k hkl, HP.out.1, List.length_append, bcs_app]
                  exact HO.out
                · rcases Nat.lt_or_ge j k with hjk | hjk
                  · exact q3 j hjk hl2
                  · obtain rfl : j = k := by omega
                    rw [HP.out.1]
                    obtain ⟨g1, g2, g3, g4⟩ := HGd.out
                    exact ⟨g1, g2, by rw [HN.out]; exact g3, by rw [HE0.out]; exact g4, fun h0 => by rw [HM.out]; omega⟩
                · rw [HW4.out]
                  exact HPs3.out
                · rw [HW4.out]
                  exact HG3.out
              case measure => have := HR.out.1; omega
            · have d1 : decide ((0 : Int) < (k : Int)) = true := decide_eq_true (by omega)
              have d2 : ((m : Int) == 0) = false := by rw [beq_eq_false_iff_ne]; omega
              have d3 : decide (0 < k) = true := decide_eq_true hk1
              have d4 : ¬ m = 0 := by omega
              clear hk0
              go_wp2_with ((with_reducible refine at_slot 55 ?_); go_must (refine wpList_runH rfl v' w' ?_ ?_; exact append_exec _ rfl rfl hr; intro W4 HW4))
              go_roundg (n - (k + 1))
              case rel =>
                obtain ⟨q1, q2, q3, q4, q5⟩ := HR.out
                refine ⟨k + 1, by rw [HN.out]; omega, by go_num, ?_, fun j hj hl2 => ?_, ?_, ?_⟩
                · rw [HW4.out, joinB_take l k hkl, HP.out.1, List.length_append, bcs_app]
                  exact HO.out
                · rcases Nat.lt_or_ge j k with hjk | hjk
                  · exact q3 j hjk hl2
                  · obtain rfl : j = k := by omega
                    rw [HP.out.1]
                    obtain ⟨g1, g2, g3, g4⟩ := HGd.out
                    exact ⟨g1, g2, by rw [HN.out]; exact g3, by rw [HE0.out]; exact g4, fun h0 => by rw [HM.out]; omega⟩
                · rw [HW4.out]
                  exact HPs3.out
                · rw [HW4.out]
                  exact HG3.out
              case measure => have := HR.out.1; omega
    · obtain rfl : k = n := by omega
      have hjo : JoinOk l := ⟨by rw [HN.out]; exact h0, fun i hi => hgd i (by rw [HN.out] at hi; exact hi) hi⟩
      rw [show l.take k = l from List.take_of_length_le (by rw [HN.out]; exact Nat.le_refl _)] at how
      obtain ⟨A', c', rfl, hB', hA'⟩ := own_slice how
      have HJ := Lib.hid (And.intro hjo (And.intro hB' (And.intro hA' hbl)))
      clear hjo hB' hA' hbl how hps hgd hk
      go_wp2_with fail
      go_ret2
      exact ⟨fun _ => ⟨_, _, rfl, HJ.out.2.1, HJ.out.2.2.1⟩, fun h => absurd HJ.out.1 h, HJ.out.2.2.2⟩
end Go.Proofs.YthkcimojemofgaaDoor
