/-
  RecordReads, walked: the piece and the mark of any bytes, or what is wrong with them, are the document's.
-/
import Derived.Test.YthkcimojemofgaaDoorAw7
import Derived.Test.YthkcimojemofgaaDoorRd3
import Derived.Test.YthkcimojemofgaaDoorCp
namespace Go.Proofs.YthkcimojemofgaaDoor
open Go.RowKit Go.Lib
set_option linter.unusedVariables false
set_option linter.unusedSimpArgs false

theorem tell_err (c : Int) (w : World) (hG : ErrVar w) : Calls Tryd.prog 13 #[errR c] w fun e w' => e = .returned (.agg #[.int .i64 c, .int .i64 (-1), .string ⟨#[]⟩]) ∧ Below w.heap.size w w' := by
  unfold errR
  by_cases h : c = 0
  · rw [if_pos h]
    subst h
    exact tell_nil w
  · rw [if_neg h]
    exact tell_chain [] c _ w rfl hG (by decide)
abbrev dcs' (p : Pc) (S : ByteArray) : List Value := [.int .i64 p.kd, .int .i64 p.ep, .int .i64 p.nu, .int .i64 p.pa, .int .i64 p.ps, .string S]
theorem rd_step {w W3 W4 W5 : World} (h3 : Below w.heap.size w W3) (cs : Array Value) (T : TypeId) (e : W4 = W3.alloc (.cells cs T)) (h5 : Below W4.heap.size W4 W5) : Below w.heap.size w W5 ∧ HdD W5 W3.heap.size cs.toList ∧ Below W3.heap.size W3 W5 := by
  subst e
  have h4 := h3.alloc h3.size (.cells cs T)
  refine ⟨h4.trans (h5.mono h4.size), ?_⟩
  have h := hd_new W3 cs.toList T
  rw [Array.toArray_toList] at h
  exact ⟨h.keep (by simp) h5, (new_below W3 _).trans (h5.mono (by simp))⟩
set_option maxRecDepth 100000 in
set_option maxHeartbeats 8000000 in
theorem lawReads_any (A : Option Addr) (x : List UInt8) (cx : Nat) (w : World) (hB : Bt w A x) (hlc : x.length ≤ cx) (hcm : cx ≤ maxLen) (hG : G7 w) (hE : ErrVar w) :
    Calls Tryd.prog 4 #[.slice A x.length cx] w fun e w' => e = .returned (.bool true) ∧ Below w.heap.size w w' := by
  have HAw := Lib.hid (fun W (hW : Below w.heap.size w W) => awake7_any W (hG.below hW))
  have HG := Lib.hid (fun W (hW : Below w.heap.size w W) => hG.below hW)
  have HT := Lib.hid (fun W (hW : Below w.heap.size w W) (c : Int) => tell_err c W (hE.below hW))
  have HBx := Lib.hid hB
  unfold maxLen at hcm
  obtain ⟨n, hxn⟩ : ∃ n, x.length = n := ⟨_, rfl⟩
  have HN := Lib.hid hxn
  rw [hxn] at hlc ⊢
  have HAw0 := Lib.hid (HAw.out w (Below.refl _ _))
  clear hB hG hE hxn
  go_enter Tryd.func4, Tryd.ntmps4
  by_cases h200 : 200 < n
  · have d1 : decide ((200 : Int) < (n : Int)) = true := decide_eq_true (by omega)
    have d2 : decide (200 < n) = true := decide_eq_true h200
    clear h200
    go_wp2_with (first
        | (go_at_call 9; go_must ((first | with_reducible refine (HAw0.out).mono ?_ | with_reducible refine (HAw.out _ HB1.out).mono ?_); rintro e W1 ⟨rfl, hb1⟩; (first | (have HB1 := Lib.hid (HB1.out.trans (hb1.mono HB1.out.size))) | (have HB1 := Lib.hid hb1)); clear hb1)))
    go_ret
    exact ⟨rfl, HB1.out⟩
  · have d1 : decide ((200 : Int) < (n : Int)) = false := decide_eq_false (by omega)
    have d2 : decide (200 < n) = false := decide_eq_false h200
    have hn200 : n ≤ 200 := by omega
    clear h200
    go_upto_region 3 with (first
        | (go_at_call 9; go_must (with_reducible refine (HAw0.out).mono ?_; rintro e W1 ⟨rfl, hb1⟩; have HB1 := Lib.hid hb1; clear hb1)))
    obtain ⟨g2, c2, w', hr, hl2, hm2, hB2, hb2⟩ := app_copy2 cx (HBx.out.keep HB1.out) (by rw [HN.out]; omega) 28
    have hbn := build_noneB W1
    have HB2 := Lib.hid (HB1.out.trans (hb2.mono HB1.out.size))
    have hrd := rread_any w' (some ⟨g2, 0, none⟩) c2 x hl2 hm2 hB2 (fun ad e => by cases e; exact ⟨_, _, rfl⟩) (HG.out w' HB2.out).1 (HG.out w' HB2.out).2
    rw [HN.out] at hr hrd
    obtain ⟨p, hp⟩ : ∃ p, readA x = p := ⟨_, rfl⟩
    obtain ⟨mk, hmk⟩ : ∃ p : Nat, readM x = p := ⟨_, rfl⟩
    obtain ⟨cd, hcd⟩ : ∃ p, readC x = p := ⟨_, rfl⟩
    obtain ⟨er, her⟩ : ∃ v, errR cd = v := ⟨_, rfl⟩
    have hT2 := fun W hW => HT.out W hW cd
    rw [her] at hT2
    have HT2 := Lib.hid hT2
    have hRR := fun W => rr_any x (by rw [HN.out]; omega) W
    unfold RRAns at hRR
    rw [hp, hmk, hcd] at hRR
    unfold Pc.dv at hRR
    have hst : ∀ W, Below w.heap.size w W → Sem.run Tryd.prog (convert 28 9 (.slice A x.length cx)) W = .ok (.string ⟨x.toArray⟩) W := fun W hW => by
      rcases Nat.eq_zero_or_pos x.length with h0 | h0
      · have hx : x = [] := List.eq_nil_of_length_eq_zero h0
        rw [hx]
        exact str_none A cx W
      · obtain ⟨ad, rfl, hc⟩ := HBx.out h0
        have h1 := hc 0 _ (by rw [bcs_get, List.getElem?_eq_getElem h0]; rfl)
        obtain ⟨g, q, s⟩ := ad
        obtain rfl : s = none := by simpa [Addr.add] using World.cell?_spot h1
        exact str_of (HBx.out.keep hW) cx
    rw [HN.out] at hst
    obtain ⟨SX, hSX⟩ : ∃ S : ByteArray, (⟨x.toArray⟩ : ByteArray) = S := ⟨_, rfl⟩
    rw [hSX] at hst hRR
    have HSt := Lib.hid hst
    obtain ⟨l, hl⟩ : ∃ l, p.da.length = l := ⟨_, rfl⟩
    obtain ⟨SP, hSP⟩ : ∃ S : ByteArray, (⟨p.da.toArray⟩ : ByteArray) = S := ⟨_, rfl⟩
    have hIs := fun A3 c3 W (hB3 : Bt W A3 p.da) => is_pc p A3 c3 W hB3
    unfold Pc.pv Pc.dv at hIs
    rw [hSP] at hIs hRR
    simp only [hl] at hIs
    have HRR := Lib.hid hRR
    have HIs := Lib.hid hIs
    have HRd := Lib.hid (hrd.mono (R' := fun e w2 => ∃ A3 c3, e = .returned (.tuple #[.agg #[.int .i64 p.kd, .int .i64 p.ep, .int .i64 p.nu, .int .i64 p.pa, .int .i64 p.ps, .slice A3 l c3], .int .u8 (mk : Int), er]) ∧ Bt w2 A3 p.da ∧ Below w'.heap.size w' w2) fun e w2 h => by
      obtain ⟨A3, c3, rfl, h1, h2, h3, h4⟩ := h
      refine ⟨A3, c3, ?_, by rw [← hp]; exact h1, h4⟩
      rw [hp, hmk, hcd, her, Pc.pv, hl])
    have HP := Lib.hid (And.intro hp (And.intro hmk (And.intro hcd (And.intro her (And.intro hl hSP)))))
    clear hrd hT2 hRR hst hIs hB2 hb2 hl2 hm2 hp hmk hcd her hl hSP hSX
    go_upto_region 6 with (first
      | ((with_reducible refine at_slot 21 ?_); go_must (refine wpList_runH rfl (.slice (some ⟨g2, 0, none⟩) n c2) w' ?_ ?_; exact append_exec _ rfl rfl hr; intro W2 HW2; have hW2 := HW2.out; subst hW2; clear HW2 hr hbn))
      | (go_at_call 15; go_must (with_reducible refine HRd.out.mono ?_; rintro e W3 ⟨A3, c3, rfl, hB3, hb3⟩; have HB3 := Lib.hid (HB2.out.trans (hb3.mono HB2.out.size)); have HBt3 := Lib.hid hB3; clear hB3 hb3))
      | ((with_reducible refine at_slot 28 ?_); go_must (refine wpList_runH rfl _ _ (conv_exec _ rfl (HSt.out _ (HB3.out.alloc HB3.out.size _))) ?_; intro W4 HW4))
      | (go_at_call 18; go_must (with_reducible refine (HRR.out _).mono ?_; rintro e W5 ⟨rfl, hb5⟩; have hq4 := rd_step HB3.out #[.int .i64 p.kd, .int .i64 p.ep, .int .i64 p.nu, .int .i64 p.pa, .int .i64 p.ps, .slice A3 l c3] _ HW4.out hb5; have HQ4 := Lib.hid hq4; clear hb5 hq4))
      | (go_at_call 13; go_must (with_reducible refine (HT2.out _ (HQ4.out.1.alloc HQ4.out.1.size _)).mono ?_; rintro e W6 ⟨rfl, hb6⟩; have HB6 := Lib.hid hb6; clear hb6)))
    obtain ⟨W7, hW7⟩ : ∃ W7, W7 = W6.alloc (.cells #[.int .i64 cd, .int .i64 (-1), .string ⟨#[]⟩] 26) := ⟨_, rfl⟩
    rw [← hW7]
    have b67 : Below W6.heap.size W6 W7 := by rw [hW7]; exact new_below W6 _
    have b57 : Below (W5.alloc (.cells (dcs' p SP).toArray 23)).heap.size (W5.alloc (.cells (dcs' p SP).toArray 23)) W7 := HB6.out.trans (b67.mono HB6.out.size)
    have hE7 : HdD W7 W6.heap.size [.int .i64 cd, .int .i64 (-1), .string ⟨#[]⟩] := by rw [hW7]; exact hd_new W6 _ _
    have hP7 : HdD W7 W5.heap.size (dcs' p SP) := (hd_new W5 (dcs' p SP) 23).keep (by simp) b57
    have b5 : Below W5.heap.size W5 W7 := (new_below W5 _).trans (b57.mono (by simp))
    have hQ7 := HQ4.out.2.1.keep (HQ4.out.2.1.lt (by simp)) b5
    have HB7 := Lib.hid (HQ4.out.1.trans (b5.mono HQ4.out.1.size))
    have HBt7 := Lib.hid (HBt3.out.keep (HQ4.out.2.2.trans (b5.mono HQ4.out.2.2.size)))
    have r0 := hE7.cell 0 _ rfl
    have r1 := hE7.cell 1 _ rfl
    have r2 := hE7.cell 2 _ rfl
    have s0 := hP7.cell 0 _ rfl
    have s1 := hP7.cell 1 _ rfl
    have s2 := hP7.cell 2 _ rfl
    have s3 := hP7.cell 3 _ rfl
    have s4 := hP7.cell 4 _ rfl
    have s5 := hP7.cell 5 _ rfl
    have t0 := hQ7.cell 0 _ rfl
    have t1 := hQ7.cell 1 _ rfl
    have t2 := hQ7.cell 2 _ rfl
    have t3 := hQ7.cell 3 _ rfl
    have t4 := hQ7.cell 4 _ rfl
    have t5 := hQ7.cell 5 _ rfl
    clear hW7 b67 b57 hE7 hP7 b5 hQ7
    go_wp2_with (first
      | (go_at_call 17; go_must (with_reducible refine (HIs.out A3 c3 _ HBt7.out).mono ?_; rintro e W8 ⟨rfl, hb8⟩; have HB8 := Lib.hid (HB7.out.trans (hb8.mono HB7.out.size)); clear hb8)))
    go_ret
    exact ⟨rfl, HB8.out⟩
end Go.Proofs.YthkcimojemofgaaDoor
