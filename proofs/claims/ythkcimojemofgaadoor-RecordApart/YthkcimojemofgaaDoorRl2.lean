/-
  RecordApart, walked: pieces of unlike epochs, numbers or kinds aren't joined.
-/
import Derived.Test.YthkcimojemofgaaDoorAw7
import Derived.Test.YthkcimojemofgaaDoorBkE
import Derived.Test.YthkcimojemofgaaDoorRj0
import Derived.Test.YthkcimojemofgaaDoorZr
namespace Go.Proofs.YthkcimojemofgaaDoor
open Go.RowKit Go.Lib
set_option linter.unusedVariables false
set_option linter.unusedSimpArgs false

theorem Bt.spot {w : World} {A : Option Addr} {x : List UInt8} (h : Bt w A x) (h0 : 0 < x.length) : ∀ ad, A = some ad → ∃ g q, ad = ⟨g, q, none⟩ := fun ad e => by
  obtain ⟨ad', e', hc⟩ := h h0
  rw [e] at e'
  cases e'
  have h1 := hc 0 _ (by rw [bcs_get, List.getElem?_eq_getElem h0]; rfl)
  obtain ⟨g, q, s⟩ := ad
  have h2 : s = none := by simpa [Addr.add] using World.cell?_spot h1
  exact ⟨g, q, by rw [h2]⟩
theorem Bt.some_ {w : World} {A : Option Addr} {x : List UInt8} (h : Bt w A x) (h0 : 0 < x.length) : A ≠ none := fun e => by
  obtain ⟨ad', e', hc⟩ := h h0
  rw [e] at e'
  cases e'
theorem head_k (h : Int) : ∃ k : Nat, wrap64 (1 + wrap64 ((IntKind.u64.wrap h).tmod 255)) = (k : Int) ∧ 1 ≤ k ∧ k ≤ 255 := by
  have h1 : ∃ v : Nat, IntKind.u64.wrap h = (v : Int) := ⟨(IntKind.u64.wrap h).toNat, by rw [IntKind.wrap_u64]; omega⟩
  obtain ⟨v, hv⟩ := h1
  refine ⟨1 + v % 255, ?_, by omega, by omega⟩
  rw [hv, Int.tmod_eq_emod_of_nonneg (by omega), show (v : Int) % 255 = ((v % 255 : Nat) : Int) by omega, w64_nat _ (by omega), show (1 : Int) + ((v % 255 : Nat) : Int) = ((1 + v % 255 : Nat) : Int) by omega, w64_nat _ (by omega)]
theorem head_e (h : Int) : ∃ k : Nat, wrap64 ((IntKind.u64.wrap h).tmod 1000) = (k : Int) ∧ k ≤ 999 := by
  have h1 : ∃ v : Nat, IntKind.u64.wrap h = (v : Int) := ⟨(IntKind.u64.wrap h).toNat, by rw [IntKind.wrap_u64]; omega⟩
  obtain ⟨v, hv⟩ := h1
  refine ⟨v % 1000, ?_, by omega⟩
  rw [hv, Int.tmod_eq_emod_of_nonneg (by omega), show (v : Int) % 1000 = ((v % 1000 : Nat) : Int) by omega, w64_nat _ (by omega)]
theorem idx0 (a b c d e f g h i : Int) (W : World) : Sem.run Tryd.prog (Instr.index 65 (.agg #[.int .i64 a, .int .i64 b, .int .i64 c, .int .i64 d, .int .i64 e, .int .i64 f, .int .i64 g, .int .i64 h, .int .i64 i]) (.int .u8 0)) W = .ok (.agg #[.int .i64 a, .int .i64 b, .int .i64 c]) W := by kernel_rfl
theorem idx1 (a b c d e f g h i : Int) (W : World) : Sem.run Tryd.prog (Instr.index 65 (.agg #[.int .i64 a, .int .i64 b, .int .i64 c, .int .i64 d, .int .i64 e, .int .i64 f, .int .i64 g, .int .i64 h, .int .i64 i]) (.int .u8 1)) W = .ok (.agg #[.int .i64 d, .int .i64 e, .int .i64 f]) W := by kernel_rfl
theorem idx2 (a b c d e f g h i : Int) (W : World) : Sem.run Tryd.prog (Instr.index 65 (.agg #[.int .i64 a, .int .i64 b, .int .i64 c, .int .i64 d, .int .i64 e, .int .i64 f, .int .i64 g, .int .i64 h, .int .i64 i]) (.int .u8 2)) W = .ok (.agg #[.int .i64 g, .int .i64 h, .int .i64 i]) W := by kernel_rfl
theorem apart_idx (k e u : Nat) (m : UInt8) (hk : 1 ≤ k ∧ k ≤ 255) (he : e ≤ 999 ∧ u ≤ 999) : ∃ o0 o1 o2 : Nat, (∀ W, Sem.run Tryd.prog (Instr.index 65 (.agg #[.int .i64 ((k : Int) % 255 + 1), .int .i64 e, .int .i64 u, .int .i64 k, .int .i64 (wrap64 ((e : Int) + 1)), .int .i64 u, .int .i64 k, .int .i64 e, .int .i64 (wrap64 ((u : Int) + 1))]) (.int .u8 ((m.toNat : Int).tmod 3))) W = .ok (.agg #[.int .i64 o0, .int .i64 o1, .int .i64 o2]) W) ∧ (1 ≤ o0 ∧ o0 ≤ 255) ∧ o1 ≤ 1000 ∧ o2 ≤ 1000 ∧ ¬ (o0 = k ∧ o1 = e ∧ o2 = u) := by
  have e1 : wrap64 ((e : Int) + 1) = ((e + 1 : Nat) : Int) := by rw [show (e : Int) + 1 = ((e + 1 : Nat) : Int) by omega, w64_nat _ (by omega)]
  have e2 : wrap64 ((u : Int) + 1) = ((u + 1 : Nat) : Int) := by rw [show (u : Int) + 1 = ((u + 1 : Nat) : Int) by omega, w64_nat _ (by omega)]
  have e3 : (k : Int) % 255 + 1 = ((k % 255 + 1 : Nat) : Int) := by omega
  have e4 : (m.toNat : Int).tmod 3 = ((m.toNat % 3 : Nat) : Int) := by rw [Int.tmod_eq_emod_of_nonneg (by omega)]; omega
  rw [e1, e2, e3, e4]
  clear e1 e2 e3 e4
  have h3 : m.toNat % 3 < 3 := Nat.mod_lt _ (by decide)
  generalize m.toNat % 3 = r at h3
  match r, h3 with
  | 0, _ => exact ⟨k % 255 + 1, e, u, fun W => idx0 _ _ _ _ _ _ _ _ _ W, by omega, by omega, by omega, by omega⟩
  | 1, _ => exact ⟨k, e + 1, u, fun W => idx1 _ _ _ _ _ _ _ _ _ W, by omega, by omega, by omega, by omega⟩
  | 2, _ => exact ⟨k, e, u + 1, fun W => idx2 _ _ _ _ _ _ _ _ _ W, by omega, by omega, by omega, by omega⟩
/-- What Split answers of a good head and so many bytes. -/
theorem sp_good {w w' : World} {k e u : Int} {x : List UInt8} {ed : Ending} (h : SpAns w k e u x ed w') (hx : x.length ≤ 8400) (hb : hbad k e u = 0) : ∃ g, ed = .returned (.tuple #[.slice (some ⟨g, 0, none⟩) (partsN x.length) (partsN x.length), .nilIface]) ∧ Ps w' (some ⟨g, 0, none⟩) (splitL k e u x) (g + 1) ∧ Below w.heap.size w w' := by
  rw [SpAns, if_neg (by omega), if_neg (by rw [piece_bad k e u x 0 hx (by have := parts_pos x.length; omega), hb]; simp), split_len] at h
  obtain ⟨g, rfl, -, hp, hb⟩ := h
  exact ⟨g, rfl, hp, hb⟩
set_option maxRecDepth 100000 in
set_option maxHeartbeats 8000000 in
theorem lawApart_any (A : Option Addr) (x : List UInt8) (cx : Nat) (h0 h1 h2 : Int) (m : UInt8) (w : World) (hB : Bt w A x) (hlc : x.length ≤ cx) (hcm : cx ≤ maxLen)
    (b0 : -9223372036854775808 ≤ h0 ∧ h0 ≤ 9223372036854775807) (b1 : -9223372036854775808 ≤ h1 ∧ h1 ≤ 9223372036854775807) (b2 : -9223372036854775808 ≤ h2 ∧ h2 ≤ 9223372036854775807) (hG : G7 w) :
    Calls Tryd.prog 8 #[.slice A x.length cx, .agg #[.int .i64 h0, .int .i64 h1, .int .i64 h2], .int .u8 (m.toNat : Int)] w fun e w' => e = .returned (.bool true) ∧ Below w.heap.size w w' := by
  have HAw := Lib.hid (fun W (hW : Below w.heap.size w W) => awake7_any W (hG.below hW))
  have HX0 := Lib.hid (And.intro hB hlc)
  unfold maxLen at hcm
  obtain ⟨n, hxn⟩ : ∃ n, x.length = n := ⟨_, rfl⟩
  obtain ⟨mm, hmm⟩ : ∃ z : Int, (m.toNat : Int) = z := ⟨_, rfl⟩
  rw [hxn] at hlc ⊢
  rw [hmm]
  have HN := Lib.hid (And.intro hxn (And.intro hmm (And.intro b0 (And.intro b1 b2))))
  clear hB hG hxn hmm b0 b1 b2
  go_enter Tryd.func8, Tryd.ntmps8
  have h1b := new_below w (.cells #[.int .i64 h0, .int .i64 h1, .int .i64 h2] 46)
  have HAw1 := Lib.hid (HAw.out _ h1b)
  by_cases hbd : n < 43 ∨ 1000 < n
  · have d : (decide ((n : Int) < 43) || decide ((1000 : Int) < (n : Int))) = true := by
      rcases hbd with h | h
      · rw [decide_eq_true (show (n : Int) < 43 by omega)]; rfl
      · rw [decide_eq_true (show (1000 : Int) < (n : Int) by omega), Bool.or_true]
    rcases Decidable.em (n < 43) with h43 | h43
    · have d1 : decide ((n : Int) < 43) = true := decide_eq_true (by omega)
      have d3 : decide (n < 43) = true := decide_eq_true h43
      clear hbd
      go_wp2_with (first
        | (go_at_call 9; go_must ((first | with_reducible refine (HAw1.out).mono ?_ | with_reducible refine (HAw.out _ HB1.out).mono ?_); rintro e W1 ⟨rfl, hb1⟩; (first | (have HB1 := Lib.hid (HB1.out.trans (hb1.mono HB1.out.size))) | (have HB1 := Lib.hid (h1b.trans (hb1.mono h1b.size)))); clear hb1)))
      go_ret
      exact ⟨rfl, HB1.out⟩
    · have d1 : decide ((n : Int) < 43) = false := decide_eq_false (by omega)
      have d3 : decide (n < 43) = false := decide_eq_false h43
      have d2 : decide ((1000 : Int) < (n : Int)) = true := decide_eq_true (by omega)
      have d4 : decide (1000 < n) = true := decide_eq_true (by omega)
      clear hbd
      go_wp2_with (first
        | (go_at_call 9; go_must ((first | with_reducible refine (HAw1.out).mono ?_ | with_reducible refine (HAw.out _ HB1.out).mono ?_); rintro e W1 ⟨rfl, hb1⟩; (first | (have HB1 := Lib.hid (HB1.out.trans (hb1.mono HB1.out.size))) | (have HB1 := Lib.hid (h1b.trans (hb1.mono h1b.size)))); clear hb1)))
      go_ret
      exact ⟨rfl, HB1.out⟩
  · have HX := Lib.hid (And.intro HX0.out.1 (And.intro HX0.out.2 (And.intro (HX0.out.1.spot (by rw [HN.out.1]; omega)) (fun (e : A = none) => (absurd e (HX0.out.1.some_ (by rw [HN.out.1]; omega)) : x.length = 0 ∧ cx = 0)))))
    have d1 : decide ((n : Int) < 43) = false := decide_eq_false (by omega)
    have d3 : decide (n < 43) = false := decide_eq_false (by omega)
    have d2 : decide ((1000 : Int) < (n : Int)) = false := decide_eq_false (by omega)
    have d4 : decide (1000 < n) = false := decide_eq_false (by omega)
    go_upto_region 3 with (first
        | (go_at_call 9; go_must (with_reducible refine (HAw1.out).mono ?_; rintro e W1 ⟨rfl, hb1⟩; have HB1 := Lib.hid (h1b.trans (hb1.mono h1b.size)); have H4 := Lib.hid ((hd_new w [.int .i64 h0, .int .i64 h1, .int .i64 h2] 46).keep (by simp) hb1); clear hb1)))
    have x0 := H4.out.cell 0 _ rfl
    have x1 := H4.out.cell 1 _ rfl
    have x2 := H4.out.cell 2 _ rfl
    go_region
    obtain ⟨k, ek, hk1, hk2⟩ := head_k h0
    obtain ⟨e, ee, he1⟩ := head_e h1
    obtain ⟨u, eu, hu1⟩ := head_e h2
    rw [ek, ee, eu]
    have hbk : hbad k e u = 0 := by unfold hbad; rw [if_neg (by omega), if_neg (by omega), if_neg (by omega)]
    have hsp := fun W (hW : Below w.heap.size w W) => (rsplit_any W k e u A cx x (HX.out.1.keep hW) HX.out.2.1 HX.out.2.2.1 HX.out.2.2.2 (by omega) (by omega) (by omega)).mono fun ed w' h => sp_good h (by rw [HN.out.1]; omega) hbk
    rw [HN.out.1] at hsp
    have HSp := Lib.hid hsp
    obtain ⟨o0, o1, o2, hidx, hok, ho1, ho2, hne⟩ := apart_idx k e u m ⟨hk1, hk2⟩ ⟨he1, hu1⟩
    rw [HN.out.2.1] at hidx
    have hbo : hbad o0 o1 o2 = 0 := by unfold hbad; rw [if_neg (by omega), if_neg (by omega), if_neg (by omega)]
    have hsq := fun W (hW : Below w.heap.size w W) => (rsplit_any W o0 o1 o2 A cx x (HX.out.1.keep hW) HX.out.2.1 HX.out.2.2.1 HX.out.2.2.2 (by omega) (by omega) (by omega)).mono fun ed w' h => sp_good h (by rw [HN.out.1]; omega) hbo
    rw [HN.out.1] at hsq
    have HSq := Lib.hid hsq
    have HNe := Lib.hid hne
    have HFa := Lib.hid (split_fit (x := x) (kd := k) (ep := e) (nu := u) (by rw [HN.out.1]; omega) (by omega) (by omega) (by omega))
    have HFb := Lib.hid (split_fit (x := x) (kd := o0) (ep := o1) (nu := o2) (by rw [HN.out.1]; omega) (by omega) (by omega) (by omega))
    have HK0 := Lib.hid (show (k : Int) < 9223372036854775807 by omega)
    obtain ⟨N, hN⟩ : ∃ N, partsN n = N := ⟨_, rfl⟩
    have hN2 : 2 ≤ N ∧ N ≤ 24 := by rw [← hN]; unfold partsN; omega
    rw [hN] at HSp HSq
    have HN2 := Lib.hid hN2
    have HNN := Lib.hid hN
    have HB2 := Lib.hid HB1.out.drew
    clear hsp hsq ek ee eu hbk hbo x0 x1 x2 hk2 he1 hu1 hne hok ho1 ho2 hN
    go_upto_region 9 with (first
        | (go_at_call 19; go_must (first
            | (with_reducible refine (HSq.out _ HB4.out).mono ?_; rintro _ W5 ⟨g5, rfl, hp5, hb5⟩; have HB5 := Lib.hid (HB4.out.trans (hb5.mono HB4.out.size)); have HP5 := Lib.hid hp5; have HP35 := Lib.hid ((HP3.out.keep (new_below _ _)).keep hb5); clear hp5 hb5)
            | (with_reducible refine (HSp.out _ HB2.out).mono ?_; rintro _ W3 ⟨g3, rfl, hp3, hb3⟩; have HB3 := Lib.hid (HB2.out.trans (hb3.mono HB2.out.size)); have HP3 := Lib.hid hp3; have HB4 := Lib.hid (HB3.out.alloc HB3.out.size (.cells #[.int .i64 o0, .int .i64 o1, .int .i64 o2] 46)); clear hp3 hb3))))
    obtain ⟨M, hM⟩ : ∃ M, N = M + 1 := ⟨N - 1, by omega⟩
    have hxl := HN.out.1
    have hpl : (splitL (k : Int) e u x).length = N := by rw [split_len, hxl]; exact HNN.out
    have hpl2 : (splitL (o0 : Int) o1 o2 x).length = N := by rw [split_len, hxl]; exact HNN.out
    obtain ⟨zs, ez, hz, hc⟩ := HP35.out.zs
    obtain ⟨g', q', e', hc⟩ := hc (by omega)
    cases e'
    obtain ⟨zs2, ez2, hz2, hc2⟩ := HP5.out.zs
    obtain ⟨g', q', e', hc2⟩ := hc2 (by omega)
    cases e'
    have hl1 : zs.length = N := by rw [← hpl, ← ez, List.length_map]
    have hl2 : zs2.length = N := by rw [← hpl2, ← ez2, List.length_map]
    have hMl : M < zs2.length := by omega
    obtain ⟨⟨p, B, c⟩, hZ⟩ : ∃ Z, zs2[M] = Z := ⟨_, rfl⟩
    have hcM := hc2 M hMl
    rw [hZ] at hcM
    have hpe : p = pieceN o0 o1 o2 x M := by
      have h1 : (zs2.map (·.1))[M]'(by rw [List.length_map]; exact hMl) = p := by rw [List.getElem_map, hZ]
      rw [← h1]
      simp only [ez2, split_at]
    have HS1 := Lib.hid (show Srcs W5 6 (some ⟨g3, 0, none⟩) M ((zs.take M).flatMap zcs) from by
      have h := srcs_part hc 0 M (by omega)
      simpa using h)
    have HZ1 := Lib.hid (show (zs.take M).length = M by rw [List.length_take]; omega)
    have HZ3 := Lib.hid (show ([] : List Zp).length + (zs.take M).length ≤ 1000000 by rw [List.length_take]; simp; omega)
    have HZ4 := Lib.hid (show ([] ++ zs.take M).length + [(p, B, c)].length ≤ 1000000 by simp; omega)
    have HZ5 := Lib.hid (show ([] ++ zs.take M ++ [(p, B, c)]).length = N by simp; omega)
    have HZ6 := Lib.hid (show ([] ++ zs.take M ++ [(p, B, c)]).length ≤ 1000000 by simp; omega)
    have HZk := Lib.hid (show ∀ z ∈ ([] ++ zs.take M ++ [(p, B, c)]), Zok W5 z from fun z hz' => by
      rw [List.nil_append] at hz'
      rcases List.mem_append.1 hz' with h | h
      · exact hz z (List.mem_of_mem_take h)
      · obtain rfl := List.mem_singleton.1 h
        exact hz2 _ (hZ ▸ List.getElem_mem hMl))
    have hx84 : x.length ≤ 8400 := by omega
    have hfA : ∀ z ∈ zs, z.1.Fit := fun z hz' => HFa.out z.1 (by rw [← ez]; exact List.mem_map_of_mem hz')
    have hfB : ∀ z ∈ zs2, z.1.Fit := fun z hz' => HFb.out z.1 (by rw [← ez2]; exact List.mem_map_of_mem hz')
    have HFt := Lib.hid (show ∀ z ∈ ([] ++ zs.take M ++ [(p, B, c)]), z.1.Fit from fun z hz' => by
      rw [List.nil_append] at hz'
      rcases List.mem_append.1 hz' with h | h
      · exact hfA z (List.mem_of_mem_take h)
      · obtain rfl := List.mem_singleton.1 h
        exact hfB _ (hZ ▸ List.getElem_mem hMl))
    have HNo := Lib.hid (show ¬ JoinOk (([] ++ zs.take M ++ [((p, B, c) : Zp)]).map (fun z : Zp => z.1)) by
      rw [List.nil_append, List.map_append, List.map_take, ez]
      show ¬ JoinOk ((splitL (k : Int) e u x).take M ++ [p])
      rw [hpe]
      exact apart_no (by rw [hxl, HNN.out, hM]) (by omega) (by have := HNe.out; omega))
    have H3 := Lib.hid (fun V (hV : Below W5.heap.size W5 V) => show V.cell? ⟨g5, M * 6, none⟩ = some (.int .i64 p.kd) ∧ V.cell? ⟨g5, M * 6 + 1, none⟩ = some (.int .i64 p.ep) ∧ V.cell? ⟨g5, M * 6 + 2, none⟩ = some (.int .i64 p.nu) ∧ V.cell? ⟨g5, M * 6 + 3, none⟩ = some (.int .i64 p.pa) ∧ V.cell? ⟨g5, M * 6 + 4, none⟩ = some (.int .i64 p.ps) ∧ V.cell? ⟨g5, M * 6 + 5, none⟩ = some (.slice B p.da.length c) from by
      have h := fun j v hj => (hV.cell (block_lt_of_cell (hcM j v hj))).trans (hcM j v hj)
      simp only [Nat.zero_add] at h
      exact ⟨h 0 _ rfl, h 1 _ rfl, h 2 _ rfl, h 3 _ rfl, h 4 _ rfl, h 5 _ rfl⟩)
    have hM1 : (N : Int) - 1 = (M : Int) := by omega
    have hM2 : wrap64 ((N : Int) - 1) = (M : Int) := by rw [hM1]; exact w64_nat M (by omega)
    have hM3 : IntKind.i64.wrap (M : Int) = (M : Int) := by rw [IntWalk.i64_left]; exact w64_nat M (by omega)
    have hMN : M < N := by omega
    have hs1 := fun W => run_winHP W g3 N N M .i64 (by omega)
    clear hM hxl hpl hpl2 ez hz hc ez2 hz2 hc2 hl1 hl2 hMl hZ hcM hpe hx84 hfA hfB
    go_cut [16] from 98 to 116 (fun v16 wx => v16 = .iface 55 (.int .i64 1) ∧ Below W5.heap.size W5 wx)
    case first =>
      have HB := Lib.hid (show Below W5.heap.size W5 W5.drew from (Below.refl _ _).drew)
      refine wp_region_held_drew (S := (fun V => V.cell? ⟨g5, M * 6, none⟩ = some (.int .i64 p.kd) ∧ V.cell? ⟨g5, M * 6 + 1, none⟩ = some (.int .i64 p.ep) ∧ V.cell? ⟨g5, M * 6 + 2, none⟩ = some (.int .i64 p.nu) ∧ V.cell? ⟨g5, M * 6 + 3, none⟩ = some (.int .i64 p.pa) ∧ V.cell? ⟨g5, M * 6 + 4, none⟩ = some (.int .i64 p.ps) ∧ V.cell? ⟨g5, M * 6 + 5, none⟩ = some (.slice B p.da.length c))) (by kernel_rfl) (H3.out _ HB.out) (fun hS => ?_)
      refine wpAnyH_take (i := 1) (v := .slice (some ⟨g3, 0, none⟩) N N) rfl (by kernel_rfl) (by kernel_rfl) (by kernel_rfl) (fun _ _ _ h => h) (Or.inl ⟨by rfl, ?_⟩) hS ?_
      · intro w hSw
        obtain ⟨x0, x1, x2, x3, x4, x5⟩ := hSw
        go_simp
      try simp only [List.getElem_toArray, List.getElem_cons_succ, List.getElem_cons_zero, Act.put, List.setIfInBounds_toArray, List.set_cons_zero, List.set_cons_succ]
      refine wpAnyH_take (i := 2) (v := .slice (some ⟨g3, 0, none⟩) N N) rfl (by kernel_rfl) (by kernel_rfl) (by kernel_rfl) (fun _ _ _ h => h) (Or.inl ⟨by rfl, ?_⟩) hS ?_
      · intro w hSw
        obtain ⟨x0, x1, x2, x3, x4, x5⟩ := hSw
        go_simp
      try simp only [List.getElem_toArray, List.getElem_cons_succ, List.getElem_cons_zero, Act.put, List.setIfInBounds_toArray, List.set_cons_zero, List.set_cons_succ]
      refine wpAnyH_take (i := 3) (v := .int .i64 (N : Int)) rfl (by kernel_rfl) (by kernel_rfl) (by kernel_rfl) (fun _ _ _ h => h) (Or.inl ⟨by rfl, ?_⟩) hS ?_
      · intro w hSw
        obtain ⟨x0, x1, x2, x3, x4, x5⟩ := hSw
        go_simp
      try simp only [List.getElem_toArray, List.getElem_cons_succ, List.getElem_cons_zero, Act.put, List.setIfInBounds_toArray, List.set_cons_zero, List.set_cons_succ]
      refine wpAnyH_take (i := 4) (v := .int .i64 (M : Int)) rfl (by kernel_rfl) (by kernel_rfl) (by kernel_rfl) (fun _ _ _ h => h) (Or.inl ⟨by rfl, ?_⟩) hS ?_
      · intro w hSw
        obtain ⟨x0, x1, x2, x3, x4, x5⟩ := hSw
        go_simp
      try simp only [List.getElem_toArray, List.getElem_cons_succ, List.getElem_cons_zero, Act.put, List.setIfInBounds_toArray, List.set_cons_zero, List.set_cons_succ]
      refine wpAnyH_take (i := 5) (v := .slice (some ⟨g3, 0, none⟩) M N) rfl (by kernel_rfl) (by kernel_rfl) (by kernel_rfl) (fun _ _ _ h => h) (Or.inl ⟨by rfl, ?_⟩) hS ?_
      · intro w hSw
        obtain ⟨x0, x1, x2, x3, x4, x5⟩ := hSw
        go_simp
      try simp only [List.getElem_toArray, List.getElem_cons_succ, List.getElem_cons_zero, Act.put, List.setIfInBounds_toArray, List.set_cons_zero, List.set_cons_succ]
      refine wpAnyH_take (i := 7) (v := .slice (some ⟨g5, 0, none⟩) N N) rfl (by kernel_rfl) (by kernel_rfl) (by kernel_rfl) (fun _ _ _ h => h) (Or.inl ⟨by rfl, ?_⟩) hS ?_
      · intro w hSw
        obtain ⟨x0, x1, x2, x3, x4, x5⟩ := hSw
        go_simp
      try simp only [List.getElem_toArray, List.getElem_cons_succ, List.getElem_cons_zero, Act.put, List.setIfInBounds_toArray, List.set_cons_zero, List.set_cons_succ]
      refine wpAnyH_take (i := 8) (v := .slice (some ⟨g5, 0, none⟩) N N) rfl (by kernel_rfl) (by kernel_rfl) (by kernel_rfl) (fun _ _ _ h => h) (Or.inl ⟨by rfl, ?_⟩) hS ?_
      · intro w hSw
        obtain ⟨x0, x1, x2, x3, x4, x5⟩ := hSw
        go_simp
      try simp only [List.getElem_toArray, List.getElem_cons_succ, List.getElem_cons_zero, Act.put, List.setIfInBounds_toArray, List.set_cons_zero, List.set_cons_succ]
      refine wpAnyH_take (i := 9) (v := .int .i64 (N : Int)) rfl (by kernel_rfl) (by kernel_rfl) (by kernel_rfl) (fun _ _ _ h => h) (Or.inl ⟨by rfl, ?_⟩) hS ?_
      · intro w hSw
        obtain ⟨x0, x1, x2, x3, x4, x5⟩ := hSw
        go_simp
      try simp only [List.getElem_toArray, List.getElem_cons_succ, List.getElem_cons_zero, Act.put, List.setIfInBounds_toArray, List.set_cons_zero, List.set_cons_succ]
      refine wpAnyH_take (i := 10) (v := .int .i64 (M : Int)) rfl (by kernel_rfl) (by kernel_rfl) (by kernel_rfl) (fun _ _ _ h => h) (Or.inl ⟨by rfl, ?_⟩) hS ?_
      · intro w hSw
        obtain ⟨x0, x1, x2, x3, x4, x5⟩ := hSw
        go_simp
      try simp only [List.getElem_toArray, List.getElem_cons_succ, List.getElem_cons_zero, Act.put, List.setIfInBounds_toArray, List.set_cons_zero, List.set_cons_succ]
      refine wpAnyH_take (i := 11) (v := .pointer (some ⟨g5, M * 6, none⟩)) rfl (by kernel_rfl) (by kernel_rfl) (by kernel_rfl) (fun _ _ _ h => h) (Or.inl ⟨by rfl, ?_⟩) hS ?_
      · intro w hSw
        obtain ⟨x0, x1, x2, x3, x4, x5⟩ := hSw
        go_simp
      try simp only [List.getElem_toArray, List.getElem_cons_succ, List.getElem_cons_zero, Act.put, List.setIfInBounds_toArray, List.set_cons_zero, List.set_cons_succ]
      refine wpAnyH_take (i := 12) (v := .agg #[.int .i64 p.kd, .int .i64 p.ep, .int .i64 p.nu, .int .i64 p.pa, .int .i64 p.ps, .slice B p.da.length c]) rfl (by kernel_rfl) (by kernel_rfl) (by kernel_rfl) (fun _ _ _ h => h) (Or.inl ⟨by rfl, ?_⟩) hS ?_
      · intro w hSw
        obtain ⟨x0, x1, x2, x3, x4, x5⟩ := hSw
        go_simp
      try simp only [List.getElem_toArray, List.getElem_cons_succ, List.getElem_cons_zero, Act.put, List.setIfInBounds_toArray, List.set_cons_zero, List.set_cons_succ]
      refine wpAnyH_ready (rs := [0, 13]) (by kernel_rfl) (by simp) ?_
      refine AllReadyH.cons rfl (fun K hK => ?_) ?_
      · refine step_sliceR rfl 47 0 _ rfl #[] (by simp) _ (tnp_new HB.out) ?_
        rintro v6 W6 ⟨hT, hR⟩
        have HT := Lib.hid hT
        have HB := Lib.hid hT.b
        clear hT hR
        refine hK.out _ _ (H3.out _ HB.out) (fun hS => ?_)
        clear hK K
        try simp only [List.getElem_toArray, List.getElem_cons_succ, List.getElem_cons_zero, Act.put, List.setIfInBounds_toArray, List.set_cons_zero, List.set_cons_succ]
        refine wpAnyH_ready (rs := [6, 13]) (by kernel_rfl) (by simp) ?_
        refine AllReadyH.cons rfl (fun K hK => ?_) ?_
        · refine step_app rfl (.tmp 99) (.tmp 104) 47 rfl _ _ rfl rfl _ (tnp_app _ HT.out (HS1.out.keep HB.out) HZ1.out HZ3.out _) ?_
          rintro v6 W6 ⟨hT, hR⟩
          have HT := Lib.hid hT
          have HB := Lib.hid hT.b
          clear hT hR
          refine hK.out _ _ (H3.out _ HB.out) (fun hS => ?_)
          clear hK K
          try simp only [List.getElem_toArray, List.getElem_cons_succ, List.getElem_cons_zero, Act.put, List.setIfInBounds_toArray, List.set_cons_zero, List.set_cons_succ]
          refine wpAnyH_ready (rs := [13]) (by kernel_rfl) (by simp) ?_
          refine AllReadyH.cons rfl (fun K hK => ?_) (AllReadyH.nil)
          refine step_sliceR rfl 47 1 _ rfl #[(0, .agg #[.int .i64 p.kd, .int .i64 p.ep, .int .i64 p.nu, .int .i64 p.pa, .int .i64 p.ps, .slice B p.da.length c])] (by first | rfl | (simp [Act.eval]; done) | (go_simp; done) | kernel_rfl) (fun v W => ∃ g, v = .slice (some ⟨g, 0, none⟩) 1 1 ∧ Tr W5 W (zcs (p, B, c)) v6 g ∧ Below W5.heap.size W5 W ∧ TnP W5 W v6 ([] ++ zs.take M)) ⟨_, _, build_oneP (p, B, c) _, _, rfl, tr_new _ _ HB.out.size (fun g e => (HT.out.o.lt g e).2), HB.out.alloc HB.out.size _, HT.out.keep (new_below _ _)⟩ ?_
          rintro _ W6 ⟨gr, rfl, ht, hb6, hT⟩
          have HTr := Lib.hid ht
          have HB := Lib.hid hb6
          have HT := Lib.hid hT
          clear ht hb6 hT
          refine hK.out _ _ (H3.out _ HB.out) (fun hS => ?_)
          clear hK K
          try simp only [List.getElem_toArray, List.getElem_cons_succ, List.getElem_cons_zero, Act.put, List.setIfInBounds_toArray, List.set_cons_zero, List.set_cons_succ]
          refine wpAnyH_ready (rs := [14]) (by kernel_rfl) (by simp) ?_
          refine AllReadyH.cons rfl (fun K hK => ?_) (AllReadyH.nil)
          refine step_app rfl (.tmp 105) (.tmp 112) 47 rfl _ _ rfl rfl _ (tnp_app (y := [(p, B, c)]) _ HT.out (srcs_one HTr.out.1) rfl HZ4.out _) ?_
          rintro v6 W6 ⟨hT, hR⟩
          have HT := Lib.hid hT
          have HB := Lib.hid hT.b
          clear hT hR
          refine hK.out _ _ (H3.out _ HB.out) (fun hS => ?_)
          clear hK K
          try simp only [List.getElem_toArray, List.getElem_cons_succ, List.getElem_cons_zero, Act.put, List.setIfInBounds_toArray, List.set_cons_zero, List.set_cons_succ]
          refine wpAnyH_ready (rs := [15]) (by kernel_rfl) (by simp) ?_
          refine AllReadyH.cons rfl (fun K hK => ?_) (AllReadyH.nil)
          obtain ⟨gv, cv, rfl, hj⟩ := join_row HT.out (fun z hz => (HZk.out z hz).keep HB.out) HFt.out HZ6.out
          have hrd := join_ans hj HNo.out
          have hxN := HZ5.out
          simp only [hxN] at hrd ⊢
          clear hxN hj
          go_simp
          with_reducible refine hrd.mono ?_
          rintro e W7 ⟨rfl, hb7⟩
          have HB := Lib.hid (HB.out.trans (hb7.mono HB.out.size))
          clear hb7 hrd
          refine hK.out _ _ (H3.out _ HB.out) (fun hS => ?_)
          clear hK K
          try simp only [List.getElem_toArray, List.getElem_cons_succ, List.getElem_cons_zero, Act.put, List.setIfInBounds_toArray, List.set_cons_zero, List.set_cons_succ]
          refine wpAnyH_take (i := 16) (v := .tuple #[.slice none 0 0, .iface 55 (.int .i64 1)]) rfl (by kernel_rfl) (by kernel_rfl) (by kernel_rfl) (fun _ _ _ h => h) (Or.inl ⟨by rfl, ?_⟩) hS ?_
          · intro w hSw
            obtain ⟨x0, x1, x2, x3, x4, x5⟩ := hSw
            go_simp
          try simp only [List.getElem_toArray, List.getElem_cons_succ, List.getElem_cons_zero, Act.put, List.setIfInBounds_toArray, List.set_cons_zero, List.set_cons_succ]
          refine wpAnyH_take (i := 17) (v := .slice none 0 0) rfl (by kernel_rfl) (by kernel_rfl) (by kernel_rfl) (fun _ _ _ h => h) (Or.inl ⟨by rfl, ?_⟩) hS ?_
          · intro w hSw
            obtain ⟨x0, x1, x2, x3, x4, x5⟩ := hSw
            go_simp
          try simp only [List.getElem_toArray, List.getElem_cons_succ, List.getElem_cons_zero, Act.put, List.setIfInBounds_toArray, List.set_cons_zero, List.set_cons_succ]
          refine wpAnyH_take (i := 18) (v := .iface 55 (.int .i64 1)) rfl (by kernel_rfl) (by kernel_rfl) (by kernel_rfl) (fun _ _ _ h => h) (Or.inl ⟨by rfl, ?_⟩) hS ?_
          · intro w hSw
            obtain ⟨x0, x1, x2, x3, x4, x5⟩ := hSw
            go_simp
          try simp only [List.getElem_toArray, List.getElem_cons_succ, List.getElem_cons_zero, Act.put, List.setIfInBounds_toArray, List.set_cons_zero, List.set_cons_succ]
          refine wpAnyH_take (i := 19) (v := .slice none 0 0) rfl (by kernel_rfl) (by kernel_rfl) (by kernel_rfl) (fun _ _ _ h => h) (Or.inl ⟨by rfl, ?_⟩) hS ?_
          · intro w hSw
            obtain ⟨x0, x1, x2, x3, x4, x5⟩ := hSw
            go_simp
          try simp only [List.getElem_toArray, List.getElem_cons_succ, List.getElem_cons_zero, Act.put, List.setIfInBounds_toArray, List.set_cons_zero, List.set_cons_succ]
          refine wpAnyH_take (i := 20) (v := .iface 55 (.int .i64 1)) rfl (by kernel_rfl) (by kernel_rfl) (by kernel_rfl) (fun _ _ _ h => h) (Or.inl ⟨by rfl, ?_⟩) hS ?_
          · intro w hSw
            obtain ⟨x0, x1, x2, x3, x4, x5⟩ := hSw
            go_simp
          try simp only [List.getElem_toArray, List.getElem_cons_succ, List.getElem_cons_zero, Act.put, List.setIfInBounds_toArray, List.set_cons_zero, List.set_cons_succ]
          refine wpAnyH_done (by kernel_rfl) ?_ _
          go_wp2_with fail
          go_meet
          exact ⟨rfl, HB.out⟩
        refine AllReadyH.cons rfl (fun K hK => ?_) (AllReadyH.nil)
        refine step_sliceR rfl 47 1 _ rfl #[(0, .agg #[.int .i64 p.kd, .int .i64 p.ep, .int .i64 p.nu, .int .i64 p.pa, .int .i64 p.ps, .slice B p.da.length c])] (by first | rfl | (simp [Act.eval]; done) | (go_simp; done) | kernel_rfl) (fun v W => ∃ g, v = .slice (some ⟨g, 0, none⟩) 1 1 ∧ Tr W5 W (zcs (p, B, c)) v6 g ∧ Below W5.heap.size W5 W ∧ TnP W5 W v6 []) ⟨_, _, build_oneP (p, B, c) _, _, rfl, tr_new _ _ HB.out.size (fun g e => (HT.out.o.lt g e).2), HB.out.alloc HB.out.size _, HT.out.keep (new_below _ _)⟩ ?_
        rintro _ W6 ⟨gr, rfl, ht, hb6, hT⟩
        have HTr := Lib.hid ht
        have HB := Lib.hid hb6
        have HT := Lib.hid hT
        clear ht hb6 hT
        refine hK.out _ _ (H3.out _ HB.out) (fun hS => ?_)
        clear hK K
        try simp only [List.getElem_toArray, List.getElem_cons_succ, List.getElem_cons_zero, Act.put, List.setIfInBounds_toArray, List.set_cons_zero, List.set_cons_succ]
        refine wpAnyH_ready (rs := [6]) (by kernel_rfl) (by simp) ?_
        refine AllReadyH.cons rfl (fun K hK => ?_) (AllReadyH.nil)
        refine step_app rfl (.tmp 99) (.tmp 104) 47 rfl _ _ rfl rfl _ (tnp_app _ HT.out (HS1.out.keep HB.out) HZ1.out HZ3.out _) ?_
        rintro v6 W6 ⟨hT, hR⟩
        have HT := Lib.hid hT
        have HB := Lib.hid hT.b
        have HTr := Lib.hid (hR _ _ HTr.out)
        clear hT hR
        refine hK.out _ _ (H3.out _ HB.out) (fun hS => ?_)
        clear hK K
        try simp only [List.getElem_toArray, List.getElem_cons_succ, List.getElem_cons_zero, Act.put, List.setIfInBounds_toArray, List.set_cons_zero, List.set_cons_succ]
        refine wpAnyH_ready (rs := [14]) (by kernel_rfl) (by simp) ?_
        refine AllReadyH.cons rfl (fun K hK => ?_) (AllReadyH.nil)
        refine step_app rfl (.tmp 105) (.tmp 112) 47 rfl _ _ rfl rfl _ (tnp_app (y := [(p, B, c)]) _ HT.out (srcs_one HTr.out.1) rfl HZ4.out _) ?_
        rintro v6 W6 ⟨hT, hR⟩
        have HT := Lib.hid hT
        have HB := Lib.hid hT.b
        clear hT hR
        refine hK.out _ _ (H3.out _ HB.out) (fun hS => ?_)
        clear hK K
        try simp only [List.getElem_toArray, List.getElem_cons_succ, List.getElem_cons_zero, Act.put, List.setIfInBounds_toArray, List.set_cons_zero, List.set_cons_succ]
        refine wpAnyH_ready (rs := [15]) (by kernel_rfl) (by simp) ?_
        refine AllReadyH.cons rfl (fun K hK => ?_) (AllReadyH.nil)
        obtain ⟨gv, cv, rfl, hj⟩ := join_row HT.out (fun z hz => (HZk.out z hz).keep HB.out) HFt.out HZ6.out
        have hrd := join_ans hj HNo.out
        have hxN := HZ5.out
        simp only [hxN] at hrd ⊢
        clear hxN hj
        go_simp
        with_reducible refine hrd.mono ?_
        rintro e W7 ⟨rfl, hb7⟩
        have HB := Lib.hid (HB.out.trans (hb7.mono HB.out.size))
        clear hb7 hrd
        refine hK.out _ _ (H3.out _ HB.out) (fun hS => ?_)
        clear hK K
        try simp only [List.getElem_toArray, List.getElem_cons_succ, List.getElem_cons_zero, Act.put, List.setIfInBounds_toArray, List.set_cons_zero, List.set_cons_succ]
        refine wpAnyH_take (i := 16) (v := .tuple #[.slice none 0 0, .iface 55 (.int .i64 1)]) rfl (by kernel_rfl) (by kernel_rfl) (by kernel_rfl) (fun _ _ _ h => h) (Or.inl ⟨by rfl, ?_⟩) hS ?_
        · intro w hSw
          obtain ⟨x0, x1, x2, x3, x4, x5⟩ := hSw
          go_simp
        try simp only [List.getElem_toArray, List.getElem_cons_succ, List.getElem_cons_zero, Act.put, List.setIfInBounds_toArray, List.set_cons_zero, List.set_cons_succ]
        refine wpAnyH_take (i := 17) (v := .slice none 0 0) rfl (by kernel_rfl) (by kernel_rfl) (by kernel_rfl) (fun _ _ _ h => h) (Or.inl ⟨by rfl, ?_⟩) hS ?_
        · intro w hSw
          obtain ⟨x0, x1, x2, x3, x4, x5⟩ := hSw
          go_simp
        try simp only [List.getElem_toArray, List.getElem_cons_succ, List.getElem_cons_zero, Act.put, List.setIfInBounds_toArray, List.set_cons_zero, List.set_cons_succ]
        refine wpAnyH_take (i := 18) (v := .iface 55 (.int .i64 1)) rfl (by kernel_rfl) (by kernel_rfl) (by kernel_rfl) (fun _ _ _ h => h) (Or.inl ⟨by rfl, ?_⟩) hS ?_
        · intro w hSw
          obtain ⟨x0, x1, x2, x3, x4, x5⟩ := hSw
          go_simp
        try simp only [List.getElem_toArray, List.getElem_cons_succ, List.getElem_cons_zero, Act.put, List.setIfInBounds_toArray, List.set_cons_zero, List.set_cons_succ]
        refine wpAnyH_take (i := 19) (v := .slice none 0 0) rfl (by kernel_rfl) (by kernel_rfl) (by kernel_rfl) (fun _ _ _ h => h) (Or.inl ⟨by rfl, ?_⟩) hS ?_
        · intro w hSw
          obtain ⟨x0, x1, x2, x3, x4, x5⟩ := hSw
          go_simp
        try simp only [List.getElem_toArray, List.getElem_cons_succ, List.getElem_cons_zero, Act.put, List.setIfInBounds_toArray, List.set_cons_zero, List.set_cons_succ]
        refine wpAnyH_take (i := 20) (v := .iface 55 (.int .i64 1)) rfl (by kernel_rfl) (by kernel_rfl) (by kernel_rfl) (fun _ _ _ h => h) (Or.inl ⟨by rfl, ?_⟩) hS ?_
        · intro w hSw
          obtain ⟨x0, x1, x2, x3, x4, x5⟩ := hSw
          go_simp
        try simp only [List.getElem_toArray, List.getElem_cons_succ, List.getElem_cons_zero, Act.put, List.setIfInBounds_toArray, List.set_cons_zero, List.set_cons_succ]
        refine wpAnyH_done (by kernel_rfl) ?_ _
        go_wp2_with fail
        go_meet
        exact ⟨rfl, HB.out⟩
      refine AllReadyH.cons rfl (fun K hK => ?_) (AllReadyH.nil)
      refine step_sliceR rfl 47 1 _ rfl #[(0, .agg #[.int .i64 p.kd, .int .i64 p.ep, .int .i64 p.nu, .int .i64 p.pa, .int .i64 p.ps, .slice B p.da.length c])] (by first | rfl | (simp [Act.eval]; done) | (go_simp; done) | kernel_rfl) (fun v W => ∃ g, v = .slice (some ⟨g, 0, none⟩) 1 1 ∧ Tr W5 W (zcs (p, B, c)) undef g ∧ Below W5.heap.size W5 W) ⟨_, _, build_oneP (p, B, c) _, _, rfl, tr_new _ _ HB.out.size (fun g e => by simp [undef, Value.ownBlock] at e), HB.out.alloc HB.out.size _⟩ ?_
      rintro _ W6 ⟨gr, rfl, ht, hb6⟩
      have HTr := Lib.hid ht
      have HB := Lib.hid hb6
      skip
      clear ht hb6
      refine hK.out _ _ (H3.out _ HB.out) (fun hS => ?_)
      clear hK K
      try simp only [List.getElem_toArray, List.getElem_cons_succ, List.getElem_cons_zero, Act.put, List.setIfInBounds_toArray, List.set_cons_zero, List.set_cons_succ]
      refine wpAnyH_ready (rs := [0]) (by kernel_rfl) (by simp) ?_
      refine AllReadyH.cons rfl (fun K hK => ?_) (AllReadyH.nil)
      refine step_sliceR rfl 47 0 _ rfl #[] (by simp) _ (tnp_new HB.out) ?_
      rintro v6 W6 ⟨hT, hR⟩
      have HT := Lib.hid hT
      have HB := Lib.hid hT.b
      have HTr := Lib.hid (hR _ _ _ HTr.out)
      clear hT hR
      refine hK.out _ _ (H3.out _ HB.out) (fun hS => ?_)
      clear hK K
      try simp only [List.getElem_toArray, List.getElem_cons_succ, List.getElem_cons_zero, Act.put, List.setIfInBounds_toArray, List.set_cons_zero, List.set_cons_succ]
      refine wpAnyH_ready (rs := [6]) (by kernel_rfl) (by simp) ?_
      refine AllReadyH.cons rfl (fun K hK => ?_) (AllReadyH.nil)
      refine step_app rfl (.tmp 99) (.tmp 104) 47 rfl _ _ rfl rfl _ (tnp_app _ HT.out (HS1.out.keep HB.out) HZ1.out HZ3.out _) ?_
      rintro v6 W6 ⟨hT, hR⟩
      have HT := Lib.hid hT
      have HB := Lib.hid hT.b
      have HTr := Lib.hid (hR _ _ HTr.out)
      clear hT hR
      refine hK.out _ _ (H3.out _ HB.out) (fun hS => ?_)
      clear hK K
      try simp only [List.getElem_toArray, List.getElem_cons_succ, List.getElem_cons_zero, Act.put, List.setIfInBounds_toArray, List.set_cons_zero, List.set_cons_succ]
      refine wpAnyH_ready (rs := [14]) (by kernel_rfl) (by simp) ?_
      refine AllReadyH.cons rfl (fun K hK => ?_) (AllReadyH.nil)
      refine step_app rfl (.tmp 105) (.tmp 112) 47 rfl _ _ rfl rfl _ (tnp_app (y := [(p, B, c)]) _ HT.out (srcs_one HTr.out.1) rfl HZ4.out _) ?_
      rintro v6 W6 ⟨hT, hR⟩
      have HT := Lib.hid hT
      have HB := Lib.hid hT.b
      clear hT hR
      refine hK.out _ _ (H3.out _ HB.out) (fun hS => ?_)
      clear hK K
      try simp only [List.getElem_toArray, List.getElem_cons_succ, List.getElem_cons_zero, Act.put, List.setIfInBounds_toArray, List.set_cons_zero, List.set_cons_succ]
      refine wpAnyH_ready (rs := [15]) (by kernel_rfl) (by simp) ?_
      refine AllReadyH.cons rfl (fun K hK => ?_) (AllReadyH.nil)
      obtain ⟨gv, cv, rfl, hj⟩ := join_row HT.out (fun z hz => (HZk.out z hz).keep HB.out) HFt.out HZ6.out
      have hrd := join_ans hj HNo.out
      have hxN := HZ5.out
      simp only [hxN] at hrd ⊢
      clear hxN hj
      go_simp
      with_reducible refine hrd.mono ?_
      rintro e W7 ⟨rfl, hb7⟩
      have HB := Lib.hid (HB.out.trans (hb7.mono HB.out.size))
      clear hb7 hrd
      refine hK.out _ _ (H3.out _ HB.out) (fun hS => ?_)
      clear hK K
      try simp only [List.getElem_toArray, List.getElem_cons_succ, List.getElem_cons_zero, Act.put, List.setIfInBounds_toArray, List.set_cons_zero, List.set_cons_succ]
      refine wpAnyH_take (i := 16) (v := .tuple #[.slice none 0 0, .iface 55 (.int .i64 1)]) rfl (by kernel_rfl) (by kernel_rfl) (by kernel_rfl) (fun _ _ _ h => h) (Or.inl ⟨by rfl, ?_⟩) hS ?_
      · intro w hSw
        obtain ⟨x0, x1, x2, x3, x4, x5⟩ := hSw
        go_simp
      try simp only [List.getElem_toArray, List.getElem_cons_succ, List.getElem_cons_zero, Act.put, List.setIfInBounds_toArray, List.set_cons_zero, List.set_cons_succ]
      refine wpAnyH_take (i := 17) (v := .slice none 0 0) rfl (by kernel_rfl) (by kernel_rfl) (by kernel_rfl) (fun _ _ _ h => h) (Or.inl ⟨by rfl, ?_⟩) hS ?_
      · intro w hSw
        obtain ⟨x0, x1, x2, x3, x4, x5⟩ := hSw
        go_simp
      try simp only [List.getElem_toArray, List.getElem_cons_succ, List.getElem_cons_zero, Act.put, List.setIfInBounds_toArray, List.set_cons_zero, List.set_cons_succ]
      refine wpAnyH_take (i := 18) (v := .iface 55 (.int .i64 1)) rfl (by kernel_rfl) (by kernel_rfl) (by kernel_rfl) (fun _ _ _ h => h) (Or.inl ⟨by rfl, ?_⟩) hS ?_
      · intro w hSw
        obtain ⟨x0, x1, x2, x3, x4, x5⟩ := hSw
        go_simp
      try simp only [List.getElem_toArray, List.getElem_cons_succ, List.getElem_cons_zero, Act.put, List.setIfInBounds_toArray, List.set_cons_zero, List.set_cons_succ]
      refine wpAnyH_take (i := 19) (v := .slice none 0 0) rfl (by kernel_rfl) (by kernel_rfl) (by kernel_rfl) (fun _ _ _ h => h) (Or.inl ⟨by rfl, ?_⟩) hS ?_
      · intro w hSw
        obtain ⟨x0, x1, x2, x3, x4, x5⟩ := hSw
        go_simp
      try simp only [List.getElem_toArray, List.getElem_cons_succ, List.getElem_cons_zero, Act.put, List.setIfInBounds_toArray, List.set_cons_zero, List.set_cons_succ]
      refine wpAnyH_take (i := 20) (v := .iface 55 (.int .i64 1)) rfl (by kernel_rfl) (by kernel_rfl) (by kernel_rfl) (fun _ _ _ h => h) (Or.inl ⟨by rfl, ?_⟩) hS ?_
      · intro w hSw
        obtain ⟨x0, x1, x2, x3, x4, x5⟩ := hSw
        go_simp
      try simp only [List.getElem_toArray, List.getElem_cons_succ, List.getElem_cons_zero, Act.put, List.setIfInBounds_toArray, List.set_cons_zero, List.set_cons_succ]
      refine wpAnyH_done (by kernel_rfl) ?_ _
      go_wp2_with fail
      go_meet
      exact ⟨rfl, HB.out⟩
    case rest =>
      obtain ⟨rfl, hbz⟩ := hcut
      have HBz := Lib.hid hbz
      clear hbz
      go_wp2_with (first | (go_at_call 22; go_must (with_reducible refine (is_self 1 _).mono ?_; rintro e W9 ⟨rfl, rfl⟩)))
      go_ret
      exact ⟨rfl, HB5.out.trans (HBz.out.mono HB5.out.size)⟩
end Go.Proofs.YthkcimojemofgaaDoor
