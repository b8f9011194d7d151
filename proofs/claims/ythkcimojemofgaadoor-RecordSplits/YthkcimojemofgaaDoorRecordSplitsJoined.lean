/-
  Proved: the statement of the law RecordSplits (the pieces of any bytes, or what is wrong, are the document's; joined they are the bytes, in parts they aren't), for every input. Conditions: those of the given row alone (the listed package variables hold what their initialisers lay).
-/
import Derived.Test.YthkcimojemofgaaDoorRl4a
import Derived.Test.YthkcimojemofgaaDoorAw7
import Derived.Test.YthkcimojemofgaaDoorTell
import Derived.Test.YthkcimojemofgaaDoorCards
import Derived.Test.YthkcimojemofgaaDoorTie
import Derived.WalkKit
import Derived.ProofKit
import Derived.OpenShut
import Derived.Deep.DeepHandedRow
import Derived.Lib.LaidTab
import Derived.Lib.LaidIn
import Derived.Lib.LaidU8
import Derived.LaidHandle
import Derived.Test.YthkcimojemofgaaDoorReA
import Derived.Carry
import Derived.Deep.DeepWitnessRowRef
import Derived.SizedLaws
import Derived.ShutString
import Derived.ChangeMaps5
namespace Go.Proofs.YthkcimojemofgaaDoor
open Go.RowKit Go.Lib
set_option linter.unusedVariables false
set_option linter.unusedSimpArgs false

theorem str_bt {W : World} {A : Option Addr} {x : List UInt8} (c : Nat) (h : Bt W A x) : Sem.run Tryd.prog (convert 28 9 (.slice A x.length c)) W = .ok (.string ⟨x.toArray⟩) W := by
  rcases Nat.eq_zero_or_pos x.length with h0 | h0
  · have hx : x = [] := List.eq_nil_of_length_eq_zero h0
    rw [hx]
    exact str_none A c W
  · obtain ⟨ad, rfl, hc⟩ := h h0
    have h1 := hc 0 _ (by rw [bcs_get, List.getElem?_eq_getElem h0]; rfl)
    obtain ⟨g, q, s⟩ := ad
    obtain rfl : s = none := by simpa [Addr.add] using World.cell?_spot h1
    exact str_of h c
theorem jw_facts (j q : Nat) (h : j + 1 = q) (hq : j < 1000) : IntKind.i64.wrap ((j : Int) + 1) = (q : Int) ∧ wrap64 ((j : Int) + 1) = (q : Int) ∧ IntKind.i64.wrap (j : Int) = (j : Int) ∧ (j : Int) + 1 = (q : Int) ∧ IntKind.i64.wrap (q : Int) = (q : Int) := by
  have e : (j : Int) + 1 = (q : Int) := by omega
  rw [e]
  exact ⟨IntWalk.i64_in _ (by omega), w64_nat _ (by omega), IntWalk.i64_in _ (by omega), rfl, IntWalk.i64_in _ (by omega)⟩
def Lp4 (N : Nat) (Wy : World) (kk : Nat) (i : Value) (wr : World) : Prop := ∃ k : Nat, k + kk = N ∧ i = .int .i64 (k : Int) ∧ Below Wy.heap.size Wy wr
set_option maxRecDepth 100000 in
set_option maxHeartbeats 16000000 in
theorem lawSplits_any (A : Option Addr) (x : List UInt8) (cx : Nat) (h0 h1 h2 : Int) (m : UInt8) (w : World) (hB : Bt w A x) (hlc : x.length ≤ cx) (hcm : cx ≤ maxLen)
    (b0 : -9223372036854775808 ≤ h0 ∧ h0 ≤ 9223372036854775807) (b1 : -9223372036854775808 ≤ h1 ∧ h1 ≤ 9223372036854775807) (b2 : -9223372036854775808 ≤ h2 ∧ h2 ≤ 9223372036854775807) (hG : G7 w) (hE : ErrVar w) :
    Calls Tryd.prog 5 #[.slice A x.length cx, .agg #[.int .i64 h0, .int .i64 h1, .int .i64 h2], .int .u8 (m.toNat : Int)] w fun e w' => e = .returned (.bool true) ∧ Below w.heap.size w w' := by
  have HAw := Lib.hid (fun W (hW : Below w.heap.size w W) => awake7_any W (hG.below hW))
  have HEr := Lib.hid (fun W (hW : Below w.heap.size w W) => hE.below hW)
  have HX := Lib.hid (And.intro hB hlc)
  unfold maxLen at hcm
  obtain ⟨n, hxn⟩ : ∃ n, x.length = n := ⟨_, rfl⟩
  obtain ⟨mm, hmm⟩ : ∃ z : Nat, m.toNat = z := ⟨_, rfl⟩
  have hm256 : mm < 256 := by rw [← hmm]; exact m.toNat_lt
  rw [hxn] at hlc ⊢
  rw [hmm]
  have HN := Lib.hid (And.intro hxn (And.intro b0 (And.intro b1 b2)))
  clear hB hG hxn hmm b0 b1 b2 hE
  go_enter Tryd.func5, Tryd.ntmps5
  have h1b := new_below w (.cells #[.int .i64 h0, .int .i64 h1, .int .i64 h2] 46)
  have HAw1 := Lib.hid (HAw.out _ h1b)
  by_cases hbd : 9000 < n
  · have d1 : decide ((9000 : Int) < (n : Int)) = true := decide_eq_true (by omega)
    have d3 : decide (9000 < n) = true := decide_eq_true hbd
    clear hbd
    go_wp2_with (first
      | (go_at_call 9; go_must ((first | with_reducible refine (HAw1.out).mono ?_ | with_reducible refine (HAw.out _ HB1.out).mono ?_); rintro e W1 ⟨rfl, hb1⟩; (first | (have HB1 := Lib.hid (HB1.out.trans (hb1.mono HB1.out.size))) | (have HB1 := Lib.hid (h1b.trans (hb1.mono h1b.size)))); clear hb1)))
    go_ret
    exact ⟨rfl, HB1.out⟩
  · have d1 : decide ((9000 : Int) < (n : Int)) = false := decide_eq_false (by omega)
    have d3 : decide (9000 < n) = false := decide_eq_false hbd
    have hn9 : n ≤ 9000 := by omega
    go_upto_region 3 with (first
        | (go_at_call 9; go_must (with_reducible refine (HAw1.out).mono ?_; rintro e W1 ⟨rfl, hb1⟩; have HBw := Lib.hid (h1b.trans (hb1.mono h1b.size)); have H4 := Lib.hid ((hd_new w [.int .i64 h0, .int .i64 h1, .int .i64 h2] 46).keep (by simp) hb1); clear hb1)))
    obtain ⟨N, hN⟩ : ∃ N, lS h0 h1 h2 x = N := ⟨_, rfl⟩
    obtain ⟨ec, hec⟩ : ∃ z, ecS h0 h1 h2 x = z := ⟨_, rfl⟩
    obtain ⟨es, hes⟩ : ∃ z, esS h0 h1 h2 x = z := ⟨_, rfl⟩
    have HC := Lib.hid (fun V (hV : Below W1.heap.size W1 V) => show V.cell? ⟨w.heap.size, 0, none⟩ = some (.int .i64 h0) ∧ V.cell? ⟨w.heap.size, 1, none⟩ = some (.int .i64 h1) ∧ V.cell? ⟨w.heap.size, 2, none⟩ = some (.int .i64 h2) from by
      have h := H4.out.keep (H4.out.lt (by simp)) hV
      exact ⟨h.cell 0 _ rfl, h.cell 1 _ rfl, h.cell 2 _ rfl⟩)
    have hApp : ∀ (v : Value) (W : World), Tn W1 W v [] → ∃ v' w', (Builtin.append_ #[28, 28] 28 #[v, .slice A n cx]).run Tryd.prog W = .ok v' w' ∧ ∃ g c, v' = .slice (some ⟨g, 0, none⟩) n c ∧ Below W1.heap.size W1 w' ∧ Bt w' (some ⟨g, 0, none⟩) x ∧ n ≤ c := fun v W hT => by
      obtain ⟨v', w', hr, hT2, -⟩ := tn_app cx hT (HX.out.1.keep HBw.out) (by rw [HN.out.1]; simp; omega) 28
      obtain ⟨g, c, e, q1, q2, q3, -, -⟩ := hT2.out
      rw [List.nil_append] at e q1 q3
      rw [HN.out.1] at hr e q1
      exact ⟨v', w', hr, g, c, e, hT2.b, q3, q1⟩
    have HApp := Lib.hid hApp
    have hSp : ∀ W, Below w.heap.size w W → ∀ g c, Bt W (some ⟨g, 0, none⟩) x → n ≤ c → Calls Tryd.prog 19 #[.int .i64 h0, .int .i64 h1, .int .i64 h2, .slice (some ⟨g, 0, none⟩) n c] W fun e w' => ∃ A c v8, e = .returned (.tuple #[.slice A N c, v8]) ∧
        (∀ W, Below w'.heap.size w' W → ErrVar W → Calls Tryd.prog 13 #[v8] W fun e w2 => e = .returned (.agg #[.int .i64 ec, .int .i64 (-1), .string es]) ∧ Below W.heap.size W w2) ∧
        (ec = 0 → (∃ g, A = some ⟨g, 0, none⟩ ∧ c = N) ∧ ∃ lim, Ps w' A (splitL h0 h1 h2 x) lim) ∧ Below W.heap.size W w' := fun W hW g c hBt hc => by
      have h := rsplit_any W h0 h1 h2 (some ⟨g, 0, none⟩) c x hBt (by rw [HN.out.1]; exact hc) (fun ad e => by cases e; exact ⟨_, _, rfl⟩) (fun e => by cases e) HN.out.2.1 HN.out.2.2.1 HN.out.2.2.2
      rw [HN.out.1] at h
      refine h.mono fun e w' ha => ?_
      have hb := sp_uni ha
      rw [hN, hec, hes] at hb
      exact hb
    have HSp := Lib.hid hSp
    have HRs := Lib.hid (fun W => (rs_any h0 h1 h2 x (by rw [HN.out.1]; omega) HN.out.2.1 HN.out.2.2.1 HN.out.2.2.2 W).mono fun e w' ha => (by
      have hb := rs_uni ha
      rw [hN, hec, hes] at hb
      exact hb : ∃ A c, e = .returned (.tuple #[.slice A N c, .agg #[.int .i64 ec, .int .i64 (-1), .string es]]) ∧ (ec = 0 → (∃ g, A = some ⟨g, 0, none⟩) ∧ Dps w' A (splitL h0 h1 h2 x)) ∧ Below W.heap.size W w'))
    have HNE := Lib.hid (And.intro hN hec)
    clear hApp hSp hN hec hes hbd
    go_cut [7, 8] from 25 to 37 (fun v7 v8 wx => ∃ A7 c7, v7 = .slice A7 N c7 ∧ (∀ W, Below wx.heap.size wx W → ErrVar W → Calls Tryd.prog 13 #[v8] W fun e w2 => e = .returned (.agg #[.int .i64 ec, .int .i64 (-1), .string es]) ∧ Below W.heap.size W w2) ∧ (ec = 0 → (∃ g, A7 = some ⟨g, 0, none⟩ ∧ c7 = N) ∧ ∃ lim, Ps wx A7 (splitL h0 h1 h2 x) lim) ∧ Below W1.heap.size W1 wx)
    case first =>
        have HB := Lib.hid (show Below W1.heap.size W1 W1.drew from (Below.refl _ _).drew)
        refine wp_region_held_drew (S := (fun V => V.cell? ⟨w.heap.size, 0, none⟩ = some (.int .i64 h0) ∧ V.cell? ⟨w.heap.size, 1, none⟩ = some (.int .i64 h1) ∧ V.cell? ⟨w.heap.size, 2, none⟩ = some (.int .i64 h2))) (by kernel_rfl) (HC.out _ HB.out) (fun hS => ?_)
        refine wpAnyH_take (i := 0) (v := .pointer (some ⟨w.heap.size, 0, none⟩)) rfl (by kernel_rfl) (by kernel_rfl) (by kernel_rfl) (fun _ _ _ h => h) (Or.inl ⟨by rfl, ?_⟩) hS ?_
        · intro w hSw
          obtain ⟨x0, x1, x2⟩ := hSw
          go_simp
        try simp only [List.getElem_toArray, List.getElem_cons_succ, List.getElem_cons_zero, Act.put, List.setIfInBounds_toArray, List.set_cons_zero, List.set_cons_succ]
        refine wpAnyH_take (i := 1) (v := .int .i64 h0) rfl (by kernel_rfl) (by kernel_rfl) (by kernel_rfl) (fun _ _ _ h => h) (Or.inl ⟨by rfl, ?_⟩) hS ?_
        · intro w hSw
          obtain ⟨x0, x1, x2⟩ := hSw
          go_simp
        try simp only [List.getElem_toArray, List.getElem_cons_succ, List.getElem_cons_zero, Act.put, List.setIfInBounds_toArray, List.set_cons_zero, List.set_cons_succ]
        refine wpAnyH_take (i := 2) (v := .pointer (some ⟨w.heap.size, 1, none⟩)) rfl (by kernel_rfl) (by kernel_rfl) (by kernel_rfl) (fun _ _ _ h => h) (Or.inl ⟨by rfl, ?_⟩) hS ?_
        · intro w hSw
          obtain ⟨x0, x1, x2⟩ := hSw
          go_simp
        try simp only [List.getElem_toArray, List.getElem_cons_succ, List.getElem_cons_zero, Act.put, List.setIfInBounds_toArray, List.set_cons_zero, List.set_cons_succ]
        refine wpAnyH_take (i := 3) (v := .int .i64 h1) rfl (by kernel_rfl) (by kernel_rfl) (by kernel_rfl) (fun _ _ _ h => h) (Or.inl ⟨by rfl, ?_⟩) hS ?_
        · intro w hSw
          obtain ⟨x0, x1, x2⟩ := hSw
          go_simp
        try simp only [List.getElem_toArray, List.getElem_cons_succ, List.getElem_cons_zero, Act.put, List.setIfInBounds_toArray, List.set_cons_zero, List.set_cons_succ]
        refine wpAnyH_take (i := 4) (v := .pointer (some ⟨w.heap.size, 2, none⟩)) rfl (by kernel_rfl) (by kernel_rfl) (by kernel_rfl) (fun _ _ _ h => h) (Or.inl ⟨by rfl, ?_⟩) hS ?_
        · intro w hSw
          obtain ⟨x0, x1, x2⟩ := hSw
          go_simp
        try simp only [List.getElem_toArray, List.getElem_cons_succ, List.getElem_cons_zero, Act.put, List.setIfInBounds_toArray, List.set_cons_zero, List.set_cons_succ]
        refine wpAnyH_take (i := 5) (v := .int .i64 h2) rfl (by kernel_rfl) (by kernel_rfl) (by kernel_rfl) (fun _ _ _ h => h) (Or.inl ⟨by rfl, ?_⟩) hS ?_
        · intro w hSw
          obtain ⟨x0, x1, x2⟩ := hSw
          go_simp
        try simp only [List.getElem_toArray, List.getElem_cons_succ, List.getElem_cons_zero, Act.put, List.setIfInBounds_toArray, List.set_cons_zero, List.set_cons_succ]
        refine wpAnyH_take (i := 7) (v := .slice A n cx) rfl (by kernel_rfl) (by kernel_rfl) (by kernel_rfl) (fun _ _ _ h => h) (Or.inl ⟨by rfl, ?_⟩) hS ?_
        · intro w hSw
          obtain ⟨x0, x1, x2⟩ := hSw
          go_simp
        try simp only [List.getElem_toArray, List.getElem_cons_succ, List.getElem_cons_zero, Act.put, List.setIfInBounds_toArray, List.set_cons_zero, List.set_cons_succ]
        refine wpAnyH_ready (rs := [6]) (by kernel_rfl) (by simp) ?_
        refine AllReadyH.cons rfl (fun K hK => ?_) (AllReadyH.nil)
        refine step_sliceR rfl 28 0 _ rfl #[] (by simp) _ (tn_new HB.out) ?_
        rintro v6 W6 ⟨hT, -⟩
        have HT := Lib.hid hT
        have HB := Lib.hid hT.b
        clear hT
        refine hK.out _ _ (HC.out _ HB.out) (fun hS => ?_)
        clear hK K
        try simp only [List.getElem_toArray, List.getElem_cons_succ, List.getElem_cons_zero, Act.put, List.setIfInBounds_toArray, List.set_cons_zero, List.set_cons_succ]
        refine wpAnyH_ready (rs := [8]) (by kernel_rfl) (by simp) ?_
        refine AllReadyH.cons rfl (fun K hK => ?_) (AllReadyH.nil)
        refine step_app rfl (.tmp 32) (.tmp 33) 28 rfl _ _ rfl rfl _ (HApp.out _ _ HT.out) ?_
        rintro v6 W6 ⟨g6, c6, rfl, hb6, hB6, hl6⟩
        have HB := Lib.hid hb6
        have HSp6 := Lib.hid (HSp.out _ (HBw.out.trans (hb6.mono HBw.out.size)) g6 c6 hB6 hl6)
        clear hb6 hB6 hl6
        refine hK.out _ _ (HC.out _ HB.out) (fun hS => ?_)
        clear hK K
        try simp only [List.getElem_toArray, List.getElem_cons_succ, List.getElem_cons_zero, Act.put, List.setIfInBounds_toArray, List.set_cons_zero, List.set_cons_succ]
        refine wpAnyH_ready (rs := [9]) (by kernel_rfl) (by simp) ?_
        refine AllReadyH.cons rfl (fun K hK => ?_) (AllReadyH.nil)
        go_simp
        with_reducible refine HSp6.out.mono ?_
        rintro e W7 ⟨A7, c7, v8, rfl, ht, hg7, hb7⟩
        have HG7 := Lib.hid (And.intro ht hg7)
        have HB := Lib.hid (HB.out.trans (hb7.mono HB.out.size))
        clear hb7 ht hg7
        refine hK.out _ _ (HC.out _ HB.out) (fun hS => ?_)
        clear hK K
        try simp only [List.getElem_toArray, List.getElem_cons_succ, List.getElem_cons_zero, Act.put, List.setIfInBounds_toArray, List.set_cons_zero, List.set_cons_succ]
        refine wpAnyH_take (i := 10) (v := .tuple #[.slice A7 N c7, v8]) rfl (by kernel_rfl) (by kernel_rfl) (by kernel_rfl) (fun _ _ _ h => h) (Or.inl ⟨by rfl, ?_⟩) hS ?_
        · intro w hSw
          obtain ⟨x0, x1, x2⟩ := hSw
          go_simp
        try simp only [List.getElem_toArray, List.getElem_cons_succ, List.getElem_cons_zero, Act.put, List.setIfInBounds_toArray, List.set_cons_zero, List.set_cons_succ]
        refine wpAnyH_take (i := 11) (v := .slice A7 N c7) rfl (by kernel_rfl) (by kernel_rfl) (by kernel_rfl) (fun _ _ _ h => h) (Or.inl ⟨by rfl, ?_⟩) hS ?_
        · intro w hSw
          obtain ⟨x0, x1, x2⟩ := hSw
          go_simp
        try simp only [List.getElem_toArray, List.getElem_cons_succ, List.getElem_cons_zero, Act.put, List.setIfInBounds_toArray, List.set_cons_zero, List.set_cons_succ]
        refine wpAnyH_take (i := 12) (v := v8) rfl (by kernel_rfl) (by kernel_rfl) (by kernel_rfl) (fun _ _ _ h => h) (Or.inl ⟨by rfl, ?_⟩) hS ?_
        · intro w hSw
          obtain ⟨x0, x1, x2⟩ := hSw
          go_simp
        try simp only [List.getElem_toArray, List.getElem_cons_succ, List.getElem_cons_zero, Act.put, List.setIfInBounds_toArray, List.set_cons_zero, List.set_cons_succ]
        refine wpAnyH_take (i := 13) (v := .slice A7 N c7) rfl (by kernel_rfl) (by kernel_rfl) (by kernel_rfl) (fun _ _ _ h => h) (Or.inl ⟨by rfl, ?_⟩) hS ?_
        · intro w hSw
          obtain ⟨x0, x1, x2⟩ := hSw
          go_simp
        try simp only [List.getElem_toArray, List.getElem_cons_succ, List.getElem_cons_zero, Act.put, List.setIfInBounds_toArray, List.set_cons_zero, List.set_cons_succ]
        refine wpAnyH_take (i := 14) (v := v8) rfl (by kernel_rfl) (by kernel_rfl) (by kernel_rfl) (fun _ _ _ h => h) (Or.inl ⟨by rfl, ?_⟩) hS ?_
        · intro w hSw
          obtain ⟨x0, x1, x2⟩ := hSw
          go_simp
        try simp only [List.getElem_toArray, List.getElem_cons_succ, List.getElem_cons_zero, Act.put, List.setIfInBounds_toArray, List.set_cons_zero, List.set_cons_succ]
        refine wpAnyH_done (by kernel_rfl) ?_ _
        go_wp2_with fail
        go_meet
        exact ⟨A7, c7, rfl, HG7.out.1, HG7.out.2, HB.out⟩
    case rest =>
      obtain ⟨A7, c7, rfl, htl, hgd, hbx⟩ := hcut
      have HTl0 := Lib.hid htl
      have HGd := Lib.hid hgd
      have HBx := Lib.hid hbx
      have HBwx := Lib.hid (HBw.out.trans (hbx.mono HBw.out.size))
      obtain ⟨x0, x1, x2⟩ := HC.out _ hbx
      have hstx := fun W (hW : Below w.heap.size w W) => str_bt cx (HX.out.1.keep hW)
      rw [HN.out.1] at hstx
      obtain ⟨SX, hSX⟩ : ∃ S : ByteArray, (⟨x.toArray⟩ : ByteArray) = S := ⟨_, rfl⟩
      have hRs2 := HRs.out
      rw [hSX] at hstx hRs2
      have HSt := Lib.hid hstx
      have HRs2 := Lib.hid hRs2
      have HSX := Lib.hid hSX
      have hs46 := hstx wc HBwx.out
      clear htl hgd hbx hstx hRs2 hSX
      go_upto_region 5 with (first
        | (go_at_call 20; go_must (with_reducible refine (HRs2.out _).mono ?_; rintro e W5 ⟨A9, c9, rfl, hd9, hb9⟩; have HD9 := Lib.hid hd9; have HB9 := Lib.hid hb9; clear hd9 hb9)))
      obtain ⟨W6, hW6⟩ : ∃ W6, W6 = W5.alloc (.cells #[.int .i64 ec, .int .i64 (-1), .string es] 26) := ⟨_, rfl⟩
      rw [← hW6]
      obtain ⟨gE, hgE⟩ : ∃ g, W5.heap.size = g := ⟨_, rfl⟩
      have hE6 : HdD W6 gE [.int .i64 ec, .int .i64 (-1), .string es] := by rw [hW6, ← hgE]; exact hd_new W5 _ _
      have b56 : Below W5.heap.size W5 W6 := by rw [hW6]; exact new_below W5 _
      rw [hgE]
      have bc6 : Below wc.heap.size wc W6 := HB9.out.trans (b56.mono HB9.out.size)
      have HB6 := Lib.hid (HBwx.out.trans (bc6.mono HBwx.out.size))
      have HBc6 := Lib.hid bc6
      have HD6 := Lib.hid (fun h => (⟨(HD9.out h).1, (HD9.out h).2.keep b56⟩ : (∃ g, A9 = some ⟨g, 0, none⟩) ∧ Dps W6 A9 (splitL h0 h1 h2 x)))
      have HE6 := Lib.hid hE6
      have HC2 := Lib.hid (fun V (hV : Below W6.heap.size W6 V) => show V.cell? ⟨gE, 0, none⟩ = some (.int .i64 ec) ∧ V.cell? ⟨gE, 1, none⟩ = some (.int .i64 (-1)) ∧ V.cell? ⟨gE, 2, none⟩ = some (.string es) from by
        have h := HE6.out.keep (HE6.out.lt (by simp)) hV
        exact ⟨h.cell 0 _ rfl, h.cell 1 _ rfl, h.cell 2 _ rfl⟩)
      have HTl := Lib.hid (fun V (hV : Below W6.heap.size W6 V) => HTl0.out V (HBc6.out.trans (hV.mono HBc6.out.size)) (HEr.out V (HB6.out.trans (hV.mono HB6.out.size))))
      clear hE6 b56 bc6 hW6 hgE x0 x1 x2 hs46 HB9 HD9
      go_cut [60] from 50 to 60 (fun v60 wx => v60 = .bool false ∧ Below W6.heap.size W6 wx)
      case first =>
        have HB := Lib.hid (show Below W6.heap.size W6 W6.drew from (Below.refl _ _).drew)
        refine wp_region_held_drew (S := (fun V => V.cell? ⟨gE, 0, none⟩ = some (.int .i64 ec) ∧ V.cell? ⟨gE, 1, none⟩ = some (.int .i64 (-1)) ∧ V.cell? ⟨gE, 2, none⟩ = some (.string es))) (by kernel_rfl) (HC2.out _ HB.out) (fun hS => ?_)
        refine wpAnyH_take (i := 0) (v := u8) rfl (by kernel_rfl) (by kernel_rfl) (by kernel_rfl) (fun _ _ _ h => h) (Or.inl ⟨by rfl, ?_⟩) hS ?_
        · intro w hSw
          obtain ⟨x0, x1, x2⟩ := hSw
          go_simp
        try simp only [List.getElem_toArray, List.getElem_cons_succ, List.getElem_cons_zero, Act.put, List.setIfInBounds_toArray, List.set_cons_zero, List.set_cons_succ]
        refine wpAnyH_take (i := 2) (v := .agg #[.int .i64 ec, .int .i64 (-1), .string es]) rfl (by kernel_rfl) (by kernel_rfl) (by kernel_rfl) (fun _ _ _ h => h) (Or.inl ⟨by rfl, ?_⟩) hS ?_
        · intro w hSw
          obtain ⟨x0, x1, x2⟩ := hSw
          go_simp
        try simp only [List.getElem_toArray, List.getElem_cons_succ, List.getElem_cons_zero, Act.put, List.setIfInBounds_toArray, List.set_cons_zero, List.set_cons_succ]
        refine wpAnyH_ready (rs := [1]) (by kernel_rfl) (by simp) ?_
        refine AllReadyH.cons rfl (fun K hK => ?_) (AllReadyH.nil)
        go_simp
        with_reducible refine (HTl.out _ HB.out).mono ?_
        rintro e W7 ⟨rfl, hb7⟩
        have HB := Lib.hid (HB.out.trans (hb7.mono HB.out.size))
        clear hb7
        refine hK.out _ _ (HC2.out _ HB.out) (fun hS => ?_)
        clear hK K
        try simp only [List.getElem_toArray, List.getElem_cons_succ, List.getElem_cons_zero, Act.put, List.setIfInBounds_toArray, List.set_cons_zero, List.set_cons_succ]
        refine wpAnyH_take (i := 3) (v := .bool false) rfl (by kernel_rfl) (by kernel_rfl) (by kernel_rfl) (fun _ _ _ h => h) (Or.inl ⟨by rfl, ?_⟩) hS ?_
        · intro w hSw
          obtain ⟨x0, x1, x2⟩ := hSw
          go_simp
        try simp only [List.getElem_toArray, List.getElem_cons_succ, List.getElem_cons_zero, Act.put, List.setIfInBounds_toArray, List.set_cons_zero, List.set_cons_succ]
        refine wpAnyH_take (i := 4) (v := .bool false) rfl (by kernel_rfl) (by kernel_rfl) (by kernel_rfl) (fun _ _ _ h => h) (Or.inl ⟨by rfl, ?_⟩) hS ?_
        · intro w hSw
          obtain ⟨x0, x1, x2⟩ := hSw
          go_simp
        try simp only [List.getElem_toArray, List.getElem_cons_succ, List.getElem_cons_zero, Act.put, List.setIfInBounds_toArray, List.set_cons_zero, List.set_cons_succ]
        refine wpAnyH_take (i := 5) (v := .slice A7 N c7) rfl (by kernel_rfl) (by kernel_rfl) (by kernel_rfl) (fun _ _ _ h => h) (Or.inl ⟨by rfl, ?_⟩) hS ?_
        · intro w hSw
          obtain ⟨x0, x1, x2⟩ := hSw
          go_simp
        try simp only [List.getElem_toArray, List.getElem_cons_succ, List.getElem_cons_zero, Act.put, List.setIfInBounds_toArray, List.set_cons_zero, List.set_cons_succ]
        refine wpAnyH_take (i := 6) (v := .int .i64 (N : Int)) rfl (by kernel_rfl) (by kernel_rfl) (by kernel_rfl) (fun _ _ _ h => h) (Or.inl ⟨by rfl, ?_⟩) hS ?_
        · intro w hSw
          obtain ⟨x0, x1, x2⟩ := hSw
          go_simp
        try simp only [List.getElem_toArray, List.getElem_cons_succ, List.getElem_cons_zero, Act.put, List.setIfInBounds_toArray, List.set_cons_zero, List.set_cons_succ]
        refine wpAnyH_take (i := 7) (v := .slice A9 N c9) rfl (by kernel_rfl) (by kernel_rfl) (by kernel_rfl) (fun _ _ _ h => h) (Or.inl ⟨by rfl, ?_⟩) hS ?_
        · intro w hSw
          obtain ⟨x0, x1, x2⟩ := hSw
          go_simp
        try simp only [List.getElem_toArray, List.getElem_cons_succ, List.getElem_cons_zero, Act.put, List.setIfInBounds_toArray, List.set_cons_zero, List.set_cons_succ]
        refine wpAnyH_take (i := 8) (v := .int .i64 (N : Int)) rfl (by kernel_rfl) (by kernel_rfl) (by kernel_rfl) (fun _ _ _ h => h) (Or.inl ⟨by rfl, ?_⟩) hS ?_
        · intro w hSw
          obtain ⟨x0, x1, x2⟩ := hSw
          go_simp
        try simp only [List.getElem_toArray, List.getElem_cons_succ, List.getElem_cons_zero, Act.put, List.setIfInBounds_toArray, List.set_cons_zero, List.set_cons_succ]
        refine wpAnyH_take (i := 9) (v := .bool false) rfl (by kernel_rfl) (by kernel_rfl) (by kernel_rfl) (fun _ _ _ h => h) (Or.inl ⟨by rfl, ?_⟩) hS ?_
        · intro w hSw
          obtain ⟨x0, x1, x2⟩ := hSw
          go_simp
        try simp only [List.getElem_toArray, List.getElem_cons_succ, List.getElem_cons_zero, Act.put, List.setIfInBounds_toArray, List.set_cons_zero, List.set_cons_succ]
        refine wpAnyH_take (i := 10) (v := .bool false) rfl (by kernel_rfl) (by kernel_rfl) (by kernel_rfl) (fun _ _ _ h => h) (Or.inl ⟨by rfl, ?_⟩) hS ?_
        · intro w hSw
          obtain ⟨x0, x1, x2⟩ := hSw
          go_simp
        try simp only [List.getElem_toArray, List.getElem_cons_succ, List.getElem_cons_zero, Act.put, List.setIfInBounds_toArray, List.set_cons_zero, List.set_cons_succ]
        refine wpAnyH_done (by kernel_rfl) ?_ _
        go_wp2_with fail
        go_meet
        exact ⟨rfl, HB.out⟩
      case rest =>
      obtain ⟨rfl, hby⟩ := hcut
      have HBy := Lib.hid hby
      have HBwy := Lib.hid (HB6.out.trans (hby.mono HB6.out.size))
      obtain ⟨x0, x1, x2⟩ := HC2.out _ hby
      clear hby
      by_cases hec : ec = 0
      rotate_left
      · have d5 : (ec != 0) = true := by rw [bne_iff_ne]; exact hec
        have d6 : (ec == 0) = false := by rw [beq_eq_false_iff_ne]; exact hec
        clear hec
        go_wp2_with fail
        go_ret
        exact ⟨rfl, HBwy.out⟩
      subst hec
      obtain ⟨⟨g7, rfl, hc7⟩, lim, hps⟩ := HGd.out rfl
      have hc7 : N = c7 := hc7.symm
      subst hc7
      obtain ⟨⟨g9, rfl⟩, hdp⟩ := HD6.out rfl
      obtain ⟨hx84, hbad0⟩ := ecS_0 HNE.out.2
      have hNp : partsN n = N := by rw [← HNE.out.1, lS, if_neg (by omega), if_pos hbad0, HN.out.1]
      have hN1 : 1 ≤ N := by rw [← hNp]; exact parts_pos n
      have hN2 : N ≤ 200 := by rw [← hNp]; exact parts_le (by rw [← HN.out.1]; exact hx84)
      have hsl : (splitL h0 h1 h2 x).length = N := by rw [split_len, HN.out.1, hNp]
      obtain ⟨Wy, hWy⟩ : ∃ Wy : World, Wy = wc := ⟨wc, rfl⟩
      subst hWy
      have HPs := Lib.hid (hps.keep (HBc6.out.trans (HBy.out.mono HBc6.out.size)))
      have HDp := Lib.hid (hdp.keep HBy.out)
      have HSl := Lib.hid (And.intro hsl (And.intro hNp (And.intro hx84 hbad0)))
      clear hps hdp hx84 hbad0 hNp hsl
      go_wp2_with fail
      go_loopg [66] N (Lp4 N Wy)
      case atStart => exact ⟨0, by omega, rfl, Below.refl _ _⟩
      case round =>
        obtain ⟨k, hk, rfl, hbl⟩ := hrel
        have HBl := Lib.hid hbl
        have HBwl := Lib.hid (HBwy.out.trans (hbl.mono HBwy.out.size))
        clear hbl
        by_cases hlt : k < N
        · have d5 : decide ((k : Int) < (N : Int)) = true := decide_eq_true (by omega)
          have hkl : k < (splitL h0 h1 h2 x).length := by rw [HSl.out.1]; exact hlt
          obtain ⟨g', q', e', hp⟩ := (HPs.out.keep HBl.out) (by omega)
          cases e'
          obtain ⟨B, cb, hc, hBb, -⟩ := hp k hkl
          obtain ⟨g', q', e', hd⟩ := (HDp.out.keep HBl.out) (by omega)
          cases e'
          have hd := hd k hkl
          obtain ⟨p, hpp⟩ : ∃ p, (splitL h0 h1 h2 x)[k] = p := ⟨_, rfl⟩
          rw [hpp] at hc hBb hd
          obtain ⟨l, hl⟩ : ∃ l, p.da.length = l := ⟨_, rfl⟩
          obtain ⟨SP, hSP⟩ : ∃ S : ByteArray, (⟨p.da.toArray⟩ : ByteArray) = S := ⟨_, rfl⟩
          have hIs := fun W (hW : Below wr.heap.size wr W) => is_pc p B cb W (hBb.keep hW)
          unfold Pc.pv Pc.dv at hIs
          unfold pcs at hc
          unfold dcs at hd
          rw [hSP] at hIs hd
          simp only [hl] at hIs hc
          have HIs := Lib.hid hIs
          have H12 := Lib.hid (fun V (hV : Below wr.heap.size wr V) => show V.cell? ⟨g7, k * 6, none⟩ = some (.int .i64 p.kd) ∧ V.cell? ⟨g7, k * 6 + 1, none⟩ = some (.int .i64 p.ep) ∧ V.cell? ⟨g7, k * 6 + 2, none⟩ = some (.int .i64 p.nu) ∧ V.cell? ⟨g7, k * 6 + 3, none⟩ = some (.int .i64 p.pa) ∧ V.cell? ⟨g7, k * 6 + 4, none⟩ = some (.int .i64 p.ps) ∧ V.cell? ⟨g7, k * 6 + 5, none⟩ = some (.slice B l cb) ∧ V.cell? ⟨g9, k * 6, none⟩ = some (.int .i64 p.kd) ∧ V.cell? ⟨g9, k * 6 + 1, none⟩ = some (.int .i64 p.ep) ∧ V.cell? ⟨g9, k * 6 + 2, none⟩ = some (.int .i64 p.nu) ∧ V.cell? ⟨g9, k * 6 + 3, none⟩ = some (.int .i64 p.pa) ∧ V.cell? ⟨g9, k * 6 + 4, none⟩ = some (.int .i64 p.ps) ∧ V.cell? ⟨g9, k * 6 + 5, none⟩ = some (.string SP) from by
            have a := fun j v hj => (hV.cell (block_lt_of_cell (hc j v hj))).trans (hc j v hj)
            have b := fun j v hj => (hV.cell (block_lt_of_cell (hd j v hj))).trans (hd j v hj)
            simp only [Nat.zero_add] at a b
            exact ⟨a 0 _ rfl, a 1 _ rfl, a 2 _ rfl, a 3 _ rfl, a 4 _ rfl, a 5 _ rfl, b 0 _ rfl, b 1 _ rfl, b 2 _ rfl, b 3 _ rfl, b 4 _ rfl, b 5 _ rfl⟩)
          clear hp hc hBb hd hpp hl hSP hIs
          go_upto_region 12 with (fail)
          go_region_held3 (fun V => V.cell? ⟨g7, k * 6, none⟩ = some (.int .i64 p.kd) ∧ V.cell? ⟨g7, k * 6 + 1, none⟩ = some (.int .i64 p.ep) ∧ V.cell? ⟨g7, k * 6 + 2, none⟩ = some (.int .i64 p.nu) ∧ V.cell? ⟨g7, k * 6 + 3, none⟩ = some (.int .i64 p.pa) ∧ V.cell? ⟨g7, k * 6 + 4, none⟩ = some (.int .i64 p.ps) ∧ V.cell? ⟨g7, k * 6 + 5, none⟩ = some (.slice B l cb) ∧ V.cell? ⟨g9, k * 6, none⟩ = some (.int .i64 p.kd) ∧ V.cell? ⟨g9, k * 6 + 1, none⟩ = some (.int .i64 p.ep) ∧ V.cell? ⟨g9, k * 6 + 2, none⟩ = some (.int .i64 p.nu) ∧ V.cell? ⟨g9, k * 6 + 3, none⟩ = some (.int .i64 p.pa) ∧ V.cell? ⟨g9, k * 6 + 4, none⟩ = some (.int .i64 p.ps) ∧ V.cell? ⟨g9, k * 6 + 5, none⟩ = some (.string SP))
            (first | with_reducible exact H12.out _ HIb.out | with_reducible exact H12.out _ (Below.drew (Below.refl _ _)))
            (first
              | (go_at_call 17; go_must (with_reducible refine (HIs.out _ (Below.drew (Below.refl _ _))).mono ?_; rintro e W8 ⟨rfl, hb8⟩; have HIb := Lib.hid (undrew hb8); clear hb8)))
          go_wp2_with fail
          go_roundg (N - (k + 1))
          case rel => exact ⟨k + 1, by omega, by go_num, HBl.out.trans (HIb.out.mono HBl.out.size)⟩
          case measure => omega
        · obtain rfl : k = N := by omega
          have d5 : decide ((k : Int) < (k : Int)) = false := decide_eq_false (by omega)
          have hjo := join_of_split h0 h1 h2 x HSl.out.2.2.1 HSl.out.2.2.2
          have hjs := joinB_splitAll h0 h1 h2 x
          have hfs := split_fit HSl.out.2.2.1 HN.out.2.1 HN.out.2.2.1 HN.out.2.2.2
          have hj := join_yes (rjoin_any wr (some ⟨g7, 0, none⟩) k (splitL h0 h1 h2 x) lim (HPs.out.keep HBl.out) hfs (by rw [HSl.out.1]; omega)) hjo
          rw [HSl.out.1, hjs, HN.out.1] at hj
          have HJ := Lib.hid hj
          have HFs := Lib.hid hfs
          clear hjo hjs hfs hj
          go_upto_region 17 with (first
            | (go_at_call 21; go_must (with_reducible refine HJ.out.mono ?_; rintro e W8 ⟨Aj, cj, rfl, hbj, hb8⟩; have HBj := Lib.hid hbj.1; have HB8 := Lib.hid hb8; clear hbj hb8)))
          obtain ⟨j, hjm⟩ : ∃ j, mm % k = j := ⟨_, rfl⟩
          have hjk : j < k := by rw [← hjm]; exact Nat.mod_lt _ (by omega)
          have hji : ((mm : Int) % (k : Int)) = (j : Int) := by rw [← hjm]; omega
          rw [hji]
          have hp8 := HPs.out.keep (HBl.out.trans (HB8.out.mono HBl.out.size))
          have hB8w := HBwl.out.trans (HB8.out.mono HBwl.out.size)
          obtain ⟨zs, ez, hz, hc⟩ := hp8.zs
          obtain ⟨g', q', e', hc⟩ := hc (by rw [HSl.out.1]; omega)
          cases e'
          have hzl : zs.length = k := by rw [← HSl.out.1, ← ez, List.length_map]
          obtain ⟨q, hq⟩ : ∃ q, j + 1 = q := ⟨_, rfl⟩
          obtain ⟨A2, c2, hrl, hA2⟩ := run_winLP W8 g7 k q .i64 (by omega)
          have HS1 := Lib.hid (show Srcs W8 6 (some ⟨g7, 0, none⟩) j ((zs.take j).flatMap zcs) from by
            have h := srcs_part hc 0 j (by omega)
            simpa using h)
          have HS2 := Lib.hid (show Srcs W8 6 A2 (k - q) ((zs.drop q).flatMap zcs) from by
            rcases Nat.lt_or_ge q k with h | h
            · rw [hA2 h]
              have h2 := srcs_part hc q (k - q) (by omega)
              rw [List.take_of_length_le (by rw [List.length_drop]; omega), Nat.zero_add] at h2
              exact h2
            · have e0 : k - q = 0 := by omega
              rw [e0, List.drop_of_length_le (by omega)]
              exact ⟨rfl, fun h0 => absurd h0 (Nat.lt_irrefl 0)⟩)
          have HZ1 := Lib.hid (show (zs.take j).length = j by rw [List.length_take]; omega)
          have HZ2 := Lib.hid (show (zs.drop q).length = k - q by rw [List.length_drop]; omega)
          have HZ3 := Lib.hid (show ([] : List Zp).length + (zs.take j).length ≤ 1000000 by rw [List.length_take]; simp; omega)
          have HZ4 := Lib.hid (show ([] ++ zs.take j).length + (zs.drop q).length ≤ 1000000 by simp; omega)
          have HZ6 := Lib.hid (show ([] ++ zs.take j ++ zs.drop q).length ≤ 1000000 by simp; omega)
          have HZk := Lib.hid (show ∀ z ∈ ([] ++ zs.take j ++ zs.drop q), Zok W8 z from fun z hz' => by
            rw [List.nil_append] at hz'
            rcases List.mem_append.1 hz' with h | h
            · exact hz z (List.mem_of_mem_take h)
            · exact hz z (List.mem_of_mem_drop h))
          have hfA : ∀ z ∈ zs, z.1.Fit := fun z hz' => HFs.out z.1 (by rw [← ez]; exact List.mem_map_of_mem hz')
          have HFt := Lib.hid (show ∀ z ∈ ([] ++ zs.take j ++ zs.drop q), z.1.Fit from fun z hz' => by
            rw [List.nil_append] at hz'
            rcases List.mem_append.1 hz' with h | h
            · exact hfA z (List.mem_of_mem_take h)
            · exact hfA z (List.mem_of_mem_drop h))
          have HNo := Lib.hid (show ¬ JoinOk (([] ++ zs.take j ++ zs.drop q).map (fun z : Zp => z.1)) by
            rw [List.nil_append, List.map_append, List.map_take, List.map_drop, ez]
            rw [← hq]
            exact less_no (by rw [HN.out.1, HSl.out.2.1]; exact hjk))
          have hs1 := fun W => run_winHP W g7 k k j .i64 (by omega)
          obtain ⟨hw1, hw2, hw3, hw4, hw5⟩ := jw_facts j q hq (by omega)
          have HBjx := Lib.hid HBj.out
          have HB8w := Lib.hid hB8w
          clear hjm hji hq hp8 hB8w ez hz hc hzl hA2 hfA hk HJ hlt hN1 hN2
          go_cut [16] from 90 to 103 (fun v16 wx => v16 = .iface 55 (.int .i64 1) ∧ Below W8.heap.size W8 wx)
          case first =>
            have HB := Lib.hid (show Below W8.heap.size W8 W8.drew from (Below.refl _ _).drew)
            refine wp_region_held_drew (S := fun _ => True) (by kernel_rfl) trivial (fun hS => ?_)
            refine wpAnyH_take (i := 1) (v := .slice (some ⟨g7, 0, none⟩) k k) rfl (by kernel_rfl) (by kernel_rfl) (by kernel_rfl) (fun _ _ _ h => h) (Or.inl ⟨by rfl, ?_⟩) hS ?_
            · intro w hSw
              go_simp
            try simp only [List.getElem_toArray, List.getElem_cons_succ, List.getElem_cons_zero, Act.put, List.setIfInBounds_toArray, List.set_cons_zero, List.set_cons_succ]
            refine wpAnyH_take (i := 2) (v := .int .i64 (j : Int)) rfl (by kernel_rfl) (by kernel_rfl) (by kernel_rfl) (fun _ _ _ h => h) (Or.inl ⟨by rfl, ?_⟩) hS ?_
            · intro w hSw
              go_simp
            try simp only [List.getElem_toArray, List.getElem_cons_succ, List.getElem_cons_zero, Act.put, List.setIfInBounds_toArray, List.set_cons_zero, List.set_cons_succ]
            refine wpAnyH_take (i := 3) (v := .slice (some ⟨g7, 0, none⟩) j k) rfl (by kernel_rfl) (by kernel_rfl) (by kernel_rfl) (fun _ _ _ h => h) (Or.inl ⟨by rfl, ?_⟩) hS ?_
            · intro w hSw
              go_simp
            try simp only [List.getElem_toArray, List.getElem_cons_succ, List.getElem_cons_zero, Act.put, List.setIfInBounds_toArray, List.set_cons_zero, List.set_cons_succ]
            refine wpAnyH_take (i := 5) (v := .slice (some ⟨g7, 0, none⟩) k k) rfl (by kernel_rfl) (by kernel_rfl) (by kernel_rfl) (fun _ _ _ h => h) (Or.inl ⟨by rfl, ?_⟩) hS ?_
            · intro w hSw
              go_simp
            try simp only [List.getElem_toArray, List.getElem_cons_succ, List.getElem_cons_zero, Act.put, List.setIfInBounds_toArray, List.set_cons_zero, List.set_cons_succ]
            refine wpAnyH_take (i := 6) (v := .int .i64 (j : Int)) rfl (by kernel_rfl) (by kernel_rfl) (by kernel_rfl) (fun _ _ _ h => h) (Or.inl ⟨by rfl, ?_⟩) hS ?_
            · intro w hSw
              go_simp
            try simp only [List.getElem_toArray, List.getElem_cons_succ, List.getElem_cons_zero, Act.put, List.setIfInBounds_toArray, List.set_cons_zero, List.set_cons_succ]
            refine wpAnyH_take (i := 7) (v := .int .i64 (q : Int)) rfl (by kernel_rfl) (by kernel_rfl) (by kernel_rfl) (fun _ _ _ h => h) (Or.inl ⟨by rfl, ?_⟩) hS ?_
            · intro w hSw
              go_simp
            try simp only [List.getElem_toArray, List.getElem_cons_succ, List.getElem_cons_zero, Act.put, List.setIfInBounds_toArray, List.set_cons_zero, List.set_cons_succ]
            refine wpAnyH_take (i := 8) (v := .slice A2 (k - q) c2) rfl (by kernel_rfl) (by kernel_rfl) (by kernel_rfl) (fun _ _ _ h => h) (Or.inl ⟨by rfl, ?_⟩) hS ?_
            · intro w hSw
              have hrl2 := hrl w
              simp only [execOp, Act.eval]
              go_simp
            try simp only [List.getElem_toArray, List.getElem_cons_succ, List.getElem_cons_zero, Act.put, List.setIfInBounds_toArray, List.set_cons_zero, List.set_cons_succ]
            refine wpAnyH_ready (rs := [0]) (by kernel_rfl) (by simp) ?_
            refine AllReadyH.cons rfl (fun K hK => ?_) (AllReadyH.nil)
            refine step_sliceR rfl 47 0 _ rfl #[] (by simp) _ (tnp_new HB.out) ?_
            rintro v6 W9 ⟨hT, -⟩
            have HT := Lib.hid hT
            have HB := Lib.hid hT.b
            clear hT
            refine hK.out _ _ trivial (fun hS => ?_)
            clear hK K
            try simp only [List.getElem_toArray, List.getElem_cons_succ, List.getElem_cons_zero, Act.put, List.setIfInBounds_toArray, List.set_cons_zero, List.set_cons_succ]
            refine wpAnyH_ready (rs := [4]) (by kernel_rfl) (by simp) ?_
            refine AllReadyH.cons rfl (fun K hK => ?_) (AllReadyH.nil)
            refine step_app rfl (.tmp 91) (.tmp 94) 47 rfl _ _ rfl rfl _ (tnp_app _ HT.out (HS1.out.keep HB.out) HZ1.out HZ3.out _) ?_
            rintro v6 W9 ⟨hT, -⟩
            have HT := Lib.hid hT
            have HB := Lib.hid hT.b
            clear hT
            refine hK.out _ _ trivial (fun hS => ?_)
            clear hK K
            try simp only [List.getElem_toArray, List.getElem_cons_succ, List.getElem_cons_zero, Act.put, List.setIfInBounds_toArray, List.set_cons_zero, List.set_cons_succ]
            refine wpAnyH_ready (rs := [9]) (by kernel_rfl) (by simp) ?_
            refine AllReadyH.cons rfl (fun K hK => ?_) (AllReadyH.nil)
            refine step_app rfl (.tmp 95) (.tmp 99) 47 rfl _ _ rfl rfl _ (tnp_app _ HT.out (HS2.out.keep HB.out) HZ2.out HZ4.out _) ?_
            rintro v6 W9 ⟨hT, -⟩
            have HT := Lib.hid hT
            have HB := Lib.hid hT.b
            clear hT
            refine hK.out _ _ trivial (fun hS => ?_)
            clear hK K
            try simp only [List.getElem_toArray, List.getElem_cons_succ, List.getElem_cons_zero, Act.put, List.setIfInBounds_toArray, List.set_cons_zero, List.set_cons_succ]
            refine wpAnyH_ready (rs := [10]) (by kernel_rfl) (by simp) ?_
            refine AllReadyH.cons rfl (fun K hK => ?_) (AllReadyH.nil)
            obtain ⟨gv, cv, rfl, hj⟩ := join_row HT.out (fun z hz => (HZk.out z hz).keep HB.out) HFt.out HZ6.out
            have hrd := join_ans hj HNo.out
            obtain ⟨ln, hln⟩ : ∃ ln, ([] ++ zs.take j ++ zs.drop q).length = ln := ⟨_, rfl⟩
            simp only [hln] at hrd ⊢
            clear hj hln
            go_simp
            with_reducible refine hrd.mono ?_
            rintro e W9 ⟨rfl, hb9⟩
            have HB := Lib.hid (HB.out.trans (hb9.mono HB.out.size))
            clear hb9 hrd
            refine hK.out _ _ trivial (fun hS => ?_)
            clear hK K
            try simp only [List.getElem_toArray, List.getElem_cons_succ, List.getElem_cons_zero, Act.put, List.setIfInBounds_toArray, List.set_cons_zero, List.set_cons_succ]
            refine wpAnyH_take (i := 11) (v := .tuple #[.slice none 0 0, .iface 55 (.int .i64 1)]) rfl (by kernel_rfl) (by kernel_rfl) (by kernel_rfl) (fun _ _ _ h => h) (Or.inl ⟨by rfl, ?_⟩) hS ?_
            · intro w hSw
              go_simp
            try simp only [List.getElem_toArray, List.getElem_cons_succ, List.getElem_cons_zero, Act.put, List.setIfInBounds_toArray, List.set_cons_zero, List.set_cons_succ]
            refine wpAnyH_take (i := 12) (v := .slice none 0 0) rfl (by kernel_rfl) (by kernel_rfl) (by kernel_rfl) (fun _ _ _ h => h) (Or.inl ⟨by rfl, ?_⟩) hS ?_
            · intro w hSw
              go_simp
            try simp only [List.getElem_toArray, List.getElem_cons_succ, List.getElem_cons_zero, Act.put, List.setIfInBounds_toArray, List.set_cons_zero, List.set_cons_succ]
            refine wpAnyH_take (i := 13) (v := .iface 55 (.int .i64 1)) rfl (by kernel_rfl) (by kernel_rfl) (by kernel_rfl) (fun _ _ _ h => h) (Or.inl ⟨by rfl, ?_⟩) hS ?_
            · intro w hSw
              go_simp
            try simp only [List.getElem_toArray, List.getElem_cons_succ, List.getElem_cons_zero, Act.put, List.setIfInBounds_toArray, List.set_cons_zero, List.set_cons_succ]
            refine wpAnyH_take (i := 14) (v := .slice none 0 0) rfl (by kernel_rfl) (by kernel_rfl) (by kernel_rfl) (fun _ _ _ h => h) (Or.inl ⟨by rfl, ?_⟩) hS ?_
            · intro w hSw
              go_simp
            try simp only [List.getElem_toArray, List.getElem_cons_succ, List.getElem_cons_zero, Act.put, List.setIfInBounds_toArray, List.set_cons_zero, List.set_cons_succ]
            refine wpAnyH_take (i := 15) (v := .iface 55 (.int .i64 1)) rfl (by kernel_rfl) (by kernel_rfl) (by kernel_rfl) (fun _ _ _ h => h) (Or.inl ⟨by rfl, ?_⟩) hS ?_
            · intro w hSw
              go_simp
            try simp only [List.getElem_toArray, List.getElem_cons_succ, List.getElem_cons_zero, Act.put, List.setIfInBounds_toArray, List.set_cons_zero, List.set_cons_succ]
            refine wpAnyH_done (by kernel_rfl) ?_ _
            go_wp2_with fail
            go_meet
            exact ⟨rfl, HB.out⟩
          case rest =>
            obtain ⟨rfl, hbz⟩ := hcut
            have HBz := Lib.hid (HB8w.out.trans (hbz.mono HB8w.out.size))
            have hsa := HSt.out _ HBz.out
            have hsb := str_bt cj (HBjx.out.keep hbz)
            rw [HN.out.1, HSX.out] at hsb
            clear hbz
            go_wp2_with (first | (go_at_call 22; go_must (with_reducible refine (is_self 1 _).mono ?_; rintro e W9 ⟨rfl, rfl⟩)))
            go_ret
            exact ⟨by simp, HBz.out⟩
end Go.Proofs.YthkcimojemofgaaDoor

namespace Go.Proofs.YthkcimojemofgaaDoor
open Go.ChangeShapes Go.WideShapes Go.ChangeAt Go.RowKit Go.Lib
set_option linter.unusedVariables false
set_option linter.unusedSimpArgs false

theorem own : ownKnob Tryd.prog.godebug = none := by kernel_rfl
theorem et : Tryd.prog.globalNamed "errors.errorType" = some 0 := by kernel_rfl
theorem rt : (Tryd.prog.cutTypes.find? (·.1 == "internal/reflectlite.rtype")).map (·.2) = some 101 := by kernel_rfl
theorem nTypes : Tryd.prog.types.size = 187 := by kernel_rfl
theorem oneRow : ((List.range 187).filter fun t => Tryd.prog.rowNamed t [101, 114, 114, 111, 114]) = [30] := by kernel_rfl
theorem errHandle : typeHandle Tryd.prog 30 = .pointer (some ⟨7, 30, none⟩) := by kernel_rfl
/-- The variables that the rows list: with errors.errorType; without. -/
def laidA : List (String × DataW Unit) := [("math/bits.deBruijn32tab", Rows.laid_math_bits_deBruijn32tab), ("math/bits.deBruijn64tab", Rows.laid_math_bits_deBruijn64tab), ("internal/strconv.uint64pow10", Rows.laid_internal_strconv_uint64pow10), ("errors.errorType", Rows.laid_errors_errorType), ("strconv.ErrRange", Rows.laid_strconv_ErrRange), ("strconv.ErrSyntax", Rows.laid_strconv_ErrSyntax)]
def laidB : List (String × DataW Unit) := [("math/bits.deBruijn32tab", Rows.laid_math_bits_deBruijn32tab), ("math/bits.deBruijn64tab", Rows.laid_math_bits_deBruijn64tab), ("internal/strconv.uint64pow10", Rows.laid_internal_strconv_uint64pow10), ("strconv.ErrRange", Rows.laid_strconv_ErrRange), ("strconv.ErrSyntax", Rows.laid_strconv_ErrSyntax)]
/-- The numbers that a table's data tells. -/
def litNums : DataW Unit → List Int
  | .agg l => l.filterMap fun | .lit (.int _ z) => some z | _ => none
  | _ => []
def debTab : List Int := litNums Rows.laid_math_bits_deBruijn64tab
set_option maxRecDepth 100000 in
theorem deb_eq : Rows.laid_math_bits_deBruijn64tab = tabData (H := Unit) .u8 debTab := by kernel_rfl
theorem deb_15 : debTab.getD 15 0 = 4 := by kernel_rfl
theorem deb_named : Tryd.prog.globalNamed "math/bits.deBruijn64tab" = some 6 := by kernel_rfl
theorem g7_of {W : World} {l : List (String × DataW Unit)} (h : laidMet Tryd.prog l W) (hm : ("math/bits.deBruijn64tab", Rows.laid_math_bits_deBruijn64tab) ∈ l) : G7 W := by
  obtain ⟨g, t, cs, fuel, p, hg, hty, hvar, hd⟩ := Lib.laidMet.reads h (n := "math/bits.deBruijn64tab") (d := Rows.laid_math_bits_deBruijn64tab) hm
  rw [deb_eq] at hd
  obtain rfl := Option.some.inj (deb_named.symm.trans hg)
  obtain rfl := Option.some.inj ((show (Tryd.prog.globals[6]?).map (·.type) = some 160 by kernel_rfl).symm.trans hty)
  have htab : Lib.TabIs Tryd.prog W "math/bits.deBruijn64tab" .u8 debTab := by
    unfold TabIs
    rw [hvar, ← cells_of_tab Tryd.underlying160 Tryd.underlying5 (by kernel_rfl) (by kernel_rfl) hd]
  have hc := htab.cell deb_named 15 (by decide)
  have hD : Deb W := by
    unfold Deb
    rw [hc]
    rw [deb_15]
  exact ⟨hD, lt_of_cell hD⟩
theorem g7_of_A {W : World} (h : laidMetH Tryd.prog laidA W) : G7 W ∧ ErrVar W := by
  have h' : laidMet Tryd.prog laidB W ∧ handlesMet Tryd.prog [("errors.errorType", Rows.laid_errors_errorType)] W := h
  refine ⟨g7_of h'.1 (.tail _ (.head _)), ?_⟩
  obtain ⟨name, u, ty, e1, e2, e3, e4, e5⟩ := h'.2 _ (List.mem_singleton.2 rfl)
  have en : name = [101, 114, 114, 111, 114] := (Option.some.inj e1).symm
  subst en
  obtain rfl := Option.some.inj (rt.symm.trans e2)
  have hm : ty ∈ (List.range 187).filter fun t => Tryd.prog.rowNamed t [101, 114, 114, 111, 114] := List.mem_filter.2 ⟨List.mem_range.2 (by rw [← nTypes]; exact e3), e4⟩
  rw [oneRow] at hm
  obtain rfl := List.mem_singleton.1 hm
  rw [errHandle] at e5
  unfold ErrVar
  simpa using World.var?_cell et e5 0
theorem g7_of_B {W : World} (h : laidMetH Tryd.prog laidB W) : G7 W := by
  have h' : laidMet Tryd.prog laidB W := h
  exact g7_of h' (.tail _ (.head _))
/-- The cells that a table's data tells. -/
def litCells : DataW Unit → List Value
  | .agg l => l.filterMap fun | .lit (.int k z) => some (.int k z) | _ => none
  | _ => []
/-- The text behind an error's value. -/
def litText : DataW Unit → ByteArray
  | .iface _ (.ptr (.agg [.lit (.string l)])) => ⟨l.toArray⟩
  | _ => ⟨#[]⟩
/-- A world for the witness: the settled one, the listed variables holding what their initialisers lay. -/
noncomputable def laidWorld (os : Os) : World :=
  let w0 := World.holding Tryd.prog os ⟨#[], #[], []⟩
  let put (h : Array Obj) (g : Nat) (cs : Array Value) : Array Obj := h.modify g fun
    | .cells _ t frozen => .cells cs t frozen
    | o => o
  let h1 := put w0.heap 3 (litCells Rows.laid_internal_strconv_uint64pow10).toArray
  let h2 := put h1 5 (litCells Rows.laid_math_bits_deBruijn32tab).toArray
  let h3 := put h2 6 (litCells Rows.laid_math_bits_deBruijn64tab).toArray
  let h4 := put h3 0 #[.iface 101 (.agg #[.pointer (some ⟨7, 30, none⟩)])]
  let h5 := put h4 2 #[.iface 146 (.pointer (some ⟨w0.heap.size, 0, none⟩))]
  let h6 := put h5 1 #[.iface 146 (.pointer (some ⟨w0.heap.size + 1, 0, none⟩))]
  { w0 with heap := (h6.push (.cells #[.string (litText Rows.laid_strconv_ErrRange)] 148)).push (.cells #[.string (litText Rows.laid_strconv_ErrSyntax)] 148) }
set_option maxRecDepth 100000 in
theorem laid_metB (os : Os) (args : Array Value) : laidMetH Tryd.prog laidB ((laidWorld os).forCall (fun _ _ => 0) ⟨#[], args, []⟩).memory :=
  laidMetH_of_parts (laidMet_of_run' 8 (by kernel_rfl) (by kernel_rfl)) (by kernel_rfl)
set_option maxRecDepth 100000 in
theorem laid_metA (os : Os) (args : Array Value) : laidMetH Tryd.prog laidA ((laidWorld os).forCall (fun _ _ => 0) ⟨#[], args, []⟩).memory :=
  laidMetH_of_parts (laidMet_of_run' 8 (by kernel_rfl) (by kernel_rfl)) (by kernel_rfl)
end Go.Proofs.YthkcimojemofgaaDoor

namespace Go.Proofs.YthkcimojemofgaaDoor.recordSplits
open Go.ChangeMaps Go.ChangeShapes Go.WideShapes Go.ChangeAt Go.RowKit Go.Lib
set_option linter.unusedVariables false
set_option linter.unusedSimpArgs false

theorem laidOut : laidOutB Tryd.prog = true := by kernel_rfl

set_option maxRecDepth 100000 in
/-- What the walk gives, for every argument and every world that holds the variable. -/
theorem contract (H : Type) (enc : TypeId × Value → H) (W : World) (base : Nat) (args : Array Value) (ds gs : List (DataW H)) (before : List MemPlace)
    (hval : ∀ (j : Nat) t v, Tryd.f5.params[j]? = some t → args[j]? = some v → Value.okWide Tryd.prog W .any base t v)
    (hW : DataW.Whole enc Tryd.prog Tryd.f5.params.toList Rows.recordSplitsSpec.vars false W args.toList ds gs before) (hL : laidMetH Tryd.prog Rows.recordSplitsRow.laid W) :
    Calls Tryd.prog 5 args W fun e W' => ∃ v, e = .returned v ∧ Rows.recordSplitsSpec.post enc Tryd.prog Tryd.f5 false true false false W args v W' := by
  obtain ⟨hG, hE⟩ := g7_of_A hL
  have hW' := hW
  obtain ⟨p, q, hA0, hV, rfl, hfz, hnd⟩ := hW
  have hA : DataW.TrodAll enc Tryd.prog W 0 (fun _ => true) true Tryd.f5.params.toList args.toList ds p := hA0
  rw [Tryd.params5] at hA hval
  obtain ⟨v0, v1, v2, d0, d1, d2, p0, p1, p2, rfl, rfl, rfl, h0, h1, h2⟩ := trodAll_three hA
  obtain ⟨rfl, rfl⟩ := trodVars_none hV
  obtain ⟨a0, l0, c0, rfl⟩ := okWide_slice Tryd.underlying28 (hval 0 28 v0 rfl rfl)
  obtain ⟨c1, rfl, -⟩ := okWide_array Tryd.underlying46 (hval 1 46 v1 rfl rfl)
  obtain ⟨z2, rfl, rfl, rfl, w2⟩ := open_int Tryd.underlying5 (hval 2 5 v2 rfl rfl) h2
  have h0k := h0
  have h1k := h1
  obtain ⟨fuel0, hf0⟩ := h0
  obtain ⟨fuel1, hf1⟩ := h1
  clear hA0
  simp only [List.append_nil] at hW'
  obtain ⟨A, x, cx, hw0, hlc, hcm, -, hB⟩ := open_bytes hf0
  obtain ⟨q0, q1, q2, hp0, b0, b1, b2⟩ := open_head hf1
  obtain ⟨m, rfl⟩ := u8_of (bounds_u8 w2).1 (bounds_u8 w2).2
  have e2' : Value.slice a0 l0 c0 = .slice A x.length cx := by simpa [Value.cells] using hw0
  injection e2' with i4 i5 i6
  subst i4 i5 i6
  obtain rfl : c1 = #[.int .i64 q0, .int .i64 q1, .int .i64 q2] := Array.toList_inj.1 (show c1.toList = _ from hp0)
  have hlt0 : ∀ x ∈ p0, x.block < W.heap.size := fun x hx => hW'.lt x (by simp [hx])
  have hlt1 : ∀ x ∈ p1, x.block < W.heap.size := fun x hx => hW'.lt x (by simp [hx])
  have hW3 := hW'
  rw [show p0 ++ p1 = p0 ++ (p1 ++ []) by rw [List.append_nil]] at hW3
  refine (lawSplits_any _ x _ q0 q1 q2 m W hB hlc hcm b0 b1 b2 hG hE).mono fun e W' ⟨he, hb⟩ => ?_
  subst he
  refine ⟨_, rfl, _, _, _, [], p0 ++ (p1 ++ []), [], hW3, ?_, ?_, rfl, hb.frame _, fun h => by cases h⟩
  · exact trodAll_mk1 (shut_bool Tryd.underlying4 true)
  · exact trodAll_mk3 (Below.trod laidOut (by kernel_rfl) (of_decide_eq_true (by kernel_rfl)) h0k hb hlt0) (Below.trod laidOut (by kernel_rfl) (of_decide_eq_true (by kernel_rfl)) h1k hb hlt1) (shut_int Tryd.underlying5 w2)

abbrev zH : Value := .agg #[.int .i64 0, .int .i64 0, .int .i64 0]
theorem reads (os : Os) {H : Type} (enc : TypeId × Value → H) : ∃ places, DataW.whole enc Tryd.prog ((laidWorld os).forCall (fun _ _ => 0) ⟨#[], #[.slice none 0 0, zH, .int .u8 0], []⟩).memory Tryd.f5.params.toList Rows.recordSplitsSpec.vars false (#[.slice none 0 0, zH, .int .u8 0] : Array Value).toList 8 = some ([.nil, .agg [.lit (.int .i64 0), .lit (.int .i64 0), .lit (.int .i64 0)], .lit (.int .u8 0)], [], places) :=
  ⟨[], by kernel_rfl⟩

set_option maxRecDepth 100000 in
theorem lifted (os : Os) (started : os.Started) (H : Type) (enc : TypeId × Value → H) (F : Stop.Interp) :
    ReturnsInHanded {} Tryd.checked os 5 .any ((OpenSpec.ofChange Rows.recordSplitsSpec).preRow enc Tryd.prog Tryd.f5 Rows.recordSplitsRow.domain false Rows.recordSplitsRow.laid) (((OpenSpec.ofChange Rows.recordSplitsSpec).at F).post enc Tryd.prog Tryd.f5 false true false false) := by
  obtain ⟨places, hx⟩ := reads os enc
  refine returnsInHanded_of_row (C := Tryd.checked) (s := OpenSpec.ofChange Rows.recordSplitsSpec) own started (by kernel_rfl) Tryd.func5
    (witness_row_at (enc := enc) (C := Tryd.checked) false (laidWorld os) #[.slice none 0 0, zH, .int .u8 0] rfl (by kernel_rfl) (by kernel_rfl) (by kernel_rfl)
      (OpenSpec.preRow_of_cond 8 hx (by kernel_rfl) (fun k hk => by cases hk) (by kernel_rfl) (laid_metA os _))) ?_
  intro W base args ds gs before hval hW _ _ _ hL _ _
  exact contract H enc W base args ds gs before hval hW hL

theorem said : Rows.RecordSplitsSaid :=
  OpenClaim.holds_of_cond 5 Tryd.f5 rfl rfl rfl rfl rfl rfl rfl ⟨rfl, rfl, rfl, rfl, rfl⟩ rfl rfl rfl rfl rfl (by kernel_rfl) Tryd.func5 (by kernel_rfl)
    (of_decide_eq_true (by kernel_rfl)) (by unfold Func.isWrapper; first | (rw [if_pos (by decide +kernel)]; kernel_rfl) | (rw [if_neg (by decide +kernel)]; exact ⟨rfl, rfl⟩))
    (fun os started H enc _ F => by rw [OpenClaim.pre_eq_preRow]; exact lifted os started H enc F)

theorem plain (f : FuncId) (fn : Func) (hf : Tryd.pinned.checked.prog.funcNamed "enfilade/enfiladelaw07.RecordSplits" = some f) (hfn : Tryd.pinned.checked.prog.funcs[f]? = some fn) :
    true = Tryd.pinned.checked.prog.looks [] ∧ ∀ (j : Nat) t, fn.params[j]? = some t → Tryd.pinned.checked.prog.wantsStandIn t = false := by
  obtain rfl : f = 5 := Option.some.inj ((show Tryd.prog.funcNamed "enfilade/enfiladelaw07.RecordSplits" = some 5 by kernel_rfl).symm.trans hf) |>.symm
  obtain rfl : fn = Tryd.f5 := (Option.some.inj (Tryd.func5.symm.trans hfn)).symm
  refine ⟨by kernel_rfl, fun j t ht => ?_⟩
  rw [Tryd.params5] at ht
  have h : t = 28 ∨ t = 46 ∨ t = 5 := by simpa using Array.mem_of_getElem? ht
  rcases h with rfl | rfl | rfl
  · exact (show Tryd.prog.wantsStandIn 28 = false by kernel_rfl)
  · exact (show Tryd.prog.wantsStandIn 46 = false by kernel_rfl)
  · exact (show Tryd.prog.wantsStandIn 5 = false by kernel_rfl)

theorem card : Rows.RecordSplitsCardSaid :=
  Claim7.holds_tied_plain_at .later [] _ _ _ _ said (fun _ h => by cases h) (by kernel_rfl) (fun _ h => by cases h) recordSplits_row_tie rfl ⟨rfl, rfl⟩ (by kernel_rfl) rfl plain (by kernel_rfl)
end Go.Proofs.YthkcimojemofgaaDoor.recordSplits
namespace Go.Proofs.YthkcimojemofgaaDoor
theorem recordSplits_card : Rows.RecordSplitsCardSaid := recordSplits.card
end Go.Proofs.YthkcimojemofgaaDoor
