/-
  IdentIs, walked: whether any text is a name of any kind, and what is wrong, is the document's, as long as the program's Is, Of and Check answer by the document's words.
-/
import Derived.Test.YtakibkbmikkpdaaDoorIdSplits1
import Derived.Test.YtakibkbmikkpdaaDoorId6
import Derived.Test.YtakibkbmikkpdaaDoorIs
import Derived.Deep.RegionLaw
namespace Go.Proofs.YtakibkbmikkpdaaDoor
open Go.RowKit Go.Lib
set_option linter.unusedVariables false
set_option linter.unusedSimpArgs false

def CheckErr (k : Int) (s : ByteArray) (w' : World) (ev : Value) : Prop := (isName k s = true → ev = .nilIface) ∧ (isName k s = false → Chain w' [(0, wordB k)] 7 ev)
def CheckOut (k : Int) (s : ByteArray) (W : World) (e : Ending) (w' : World) : Prop := ∃ ev, e = .returned ev ∧ CheckErr k s w' ev ∧ Below W.heap.size W w'
def CheckC (G : World → Prop) : Prop := ∀ (k : Int) (s : ByteArray) (W : World), G W → s.size ≤ 1000 → Calls Tryd.prog 6 #[.int .i64 k, .string s] W (CheckOut k s W)

set_option maxRecDepth 100000 in
set_option maxHeartbeats 4000000 in
theorem lawIs_any {G : World → Prop} (hst : Stays G) (hEr : ∀ W, G W → ErrVar W) (hIs : IsC G) (hOf : OfC G) (hCk : CheckC G) (k : Int) (s : ByteArray) (w : World) (hG : G w) (hs : s.size ≤ 9223372036854775807) :
    Calls Tryd.prog 3 #[.int .i64 k, .string s] w fun e w' => e = .returned (.bool true) ∧ Below w.heap.size w w' := by
  have HAw := Lib.hid (fun W (hW : Below w.heap.size w W) => awake_id hst hIs hOf W (hst _ _ hG hW))
  by_cases h300 : s.size ≤ 300
  · have d300 : decide ((300 : Int) < (s.size : Int)) = false := by simp; omega
    have HC := Lib.hid (fun W (hW : Below w.heap.size w W) => hCk k s W (hst _ _ hG hW) (by omega))
    unfold CheckOut CheckErr at HC
    have HR := Lib.hid (fun W => is_ref k s W (by omega))
    have HI := Lib.hid (fun W (hW : Below w.heap.size w W) => hIs k s W (hst _ _ hG hW) (by omega))
    have HE := Lib.hid (fun W (hW : Below w.heap.size w W) => hEr W (hst _ _ hG hW))
    have HWd := Lib.hid (word_ref k)
    clear hst hEr hIs hOf hCk hG
    obtain ⟨R, hR⟩ : ∃ R, isName k s = R := ⟨_, rfl⟩
    rw [hR] at HC HR HI
    obtain ⟨F, hF⟩ : ∃ F, wordB k = F := ⟨_, rfl⟩
    rw [hF] at HC HWd
    clear hR hF
    cases R with
    | true =>
      go_enter Tryd.func3, Tryd.ntmps3
      go_wp2_with fail
      refine (HAw.out w (Below.refl _ _)).mono ?_
      rintro e W1 ⟨rfl, hb1⟩
      have HB1 := Lib.hid hb1
      clear hb1
      go_wp2_with fail
      refine (HC.out W1 HB1.out).mono ?_
      rintro e W2 ⟨ev, rfl, ⟨hev, -⟩, hb2⟩
      obtain rfl := hev (by simp)
      have HB2 := Lib.hid (HB1.out.trans (hb2.mono HB1.out.size))
      clear hb2 hev
      go_wp2_with fail
      refine (HR.out W2).mono ?_
      rintro e W3 ⟨rfl, n, rfl⟩
      have HB3 := Lib.hid (below_draw HB2.out n)
      go_wp2_with fail
      refine (HI.out _ HB3.out).mono ?_
      rintro e W4 ⟨rfl, hb4⟩
      have HB4 := Lib.hid (HB3.out.trans (hb4.mono HB3.out.size))
      clear hb4
      go_wp2_with fail
      go_ret
      exact ⟨rfl, HB4.out⟩
    | false =>
      go_enter Tryd.func3, Tryd.ntmps3
      go_wp2_with fail
      refine (HAw.out w (Below.refl _ _)).mono ?_
      rintro e W1 ⟨rfl, hb1⟩
      have HB1 := Lib.hid hb1
      clear hb1
      go_wp2_with fail
      refine (HC.out W1 HB1.out).mono ?_
      rintro e W2 ⟨ev, rfl, ⟨-, hev⟩, hb2⟩
      have hch := hev (by simp)
      have HB2 := Lib.hid (HB1.out.trans (hb2.mono HB1.out.size))
      obtain ⟨b, why, rfl, l0, l1, l2, l3⟩ := hch
      have hch2 : Chain W2 [(0, F)] 7 (.iface 29 (.pointer (some ⟨b, 0, none⟩))) := ⟨b, why, rfl, l0, l1, l2, l3⟩
      have hbl : b < W2.heap.size := lt_of_cell l0
      have HL := Lib.hid (And.intro hch2 (And.intro l0 l1))
      clear hb2 hev l0 l1 l2 l3 hch2
      go_wp2_with fail
      refine (HR.out W2).mono ?_
      rintro e W3 ⟨rfl, n, rfl⟩
      have HB3 := Lib.hid (below_draw HB2.out n)
      go_wp2_with fail
      refine (HI.out _ HB3.out).mono ?_
      rintro e W4 ⟨rfl, hb4⟩
      have HB4 := Lib.hid (HB3.out.trans (hb4.mono HB3.out.size))
      have hb24 : Below W2.heap.size W2 W4 := ⟨hb4.os, hb4.tape, hb4.output, hb4.size, hb4.block⟩
      have hch4 := HL.out.1.below hb24
      have l0 := (hb24.cell (p := ⟨b, 0, none⟩) hbl).trans HL.out.2.1
      have l1 := (hb24.cell (p := ⟨b, 1, none⟩) hbl).trans HL.out.2.2
      have hbl4 : b < W4.heap.size := lt_of_cell l0
      have HX := Lib.hid hch4
      clear hb4 hb24 hch4
      go_wp2_with fail
      obtain ⟨W5, hW5⟩ : ∃ W, W4.alloc (.cells #[.pointer none] 29) = W := ⟨_, rfl⟩
      rw [hW5]
      have hb5 : Below W4.heap.size W4 W5 := hW5 ▸ (Below.refl _ _).alloc (Nat.le_refl _) _
      have t0 : W5.cell? ⟨W4.heap.size, 0, none⟩ = some (.pointer none) := by rw [← hW5]; simp
      have tf : W5.frozen? ⟨W4.heap.size, 0, none⟩ = false := by rw [← hW5]; simp
      have m0 := (hb5.cell (p := ⟨b, 0, none⟩) hbl4).trans l0
      have m1 := (hb5.cell (p := ⟨b, 1, none⟩) hbl4).trans l1
      have HB5 := Lib.hid (HB4.out.trans (hb5.mono HB4.out.size))
      have HX5 := Lib.hid (HX.out.below hb5)
      have hne : b ≠ W4.heap.size := by omega
      have hbl5 : b < W5.heap.size := lt_of_cell m0
      have htl5 : W4.heap.size < W5.heap.size := lt_of_cell t0
      have ff : (F.toList == F.toList) = true := by simp
      clear hW5 hb5 l0 l1
      have h77 : ((7 : Int) == 7) = true := rfl
      have hat : (⟨b, 0, none⟩ : Addr) ≠ ⟨W4.heap.size, 0, none⟩ := fun e => hne (by injection e)
      have hat1 : (⟨b, 1, none⟩ : Addr) ≠ ⟨W4.heap.size, 0, none⟩ := fun e => hne (by injection e)
      have HAt := Lib.hid (And.intro hat hat1)
      clear hat hat1
      go_region_law
        (first
          | (go_simp; go_at_call 9; refine (is_code [(0, F)] 7 7 _ _ ?_).mono ?_; (first | exact HX5.out | exact HX5.out.below ((Below.refl _ _).drew)); rintro e w' ⟨rfl, hw'⟩; subst hw')
          | (go_simp; go_at_call 10; refine (as_fault_put b ⟨W4.heap.size, 0, none⟩ (.pointer none) _ ?_ ?_ ?_).mono ?_; (first | exact HE.out _ HB5.out | exact HE.out _ HB5.out.drew); exact t0; exact tf; rintro e W6 ⟨rfl, hp⟩
             have r0 := hp.1
             have q0 := (hp.2.1 ⟨b, 0, none⟩ hbl5 HAt.out.1).trans m0
             have q1 := (hp.2.1 ⟨b, 1, none⟩ hbl5 HAt.out.2).trans m1
             have k6 : Below w.heap.size w W6 := by
               first
                 | exact hp.2.2.2.2 _ _ HB5.out HB4.out.size HB5.out.size
                 | exact hp.2.2.2.2 _ _ HB5.out.drew HB4.out.size HB5.out.size
             have K6 := Lib.hid k6
             clear hp k6)
          | (go_simp; go_at_call 11; refine (HWd.out _).mono ?_; rintro e w' ⟨rfl, rfl⟩))
      all_goals
        go_wp2_with fail
        go_ret
        exact ⟨by first | rfl | simp [Act.put], K6.out⟩
  · have d300 : decide ((300 : Int) < (s.size : Int)) = true := by simp; omega
    clear hst hIs hOf hG hCk
    go_enter Tryd.func3, Tryd.ntmps3
    go_wp2_with fail
    refine (HAw.out w (Below.refl _ _)).mono ?_
    rintro e W1 ⟨rfl, hb1⟩
    have HB1 := Lib.hid hb1
    clear hb1
    go_wp2_with fail
    refine (HAw.out W1 HB1.out).mono ?_
    rintro e W2 ⟨rfl, hb2⟩
    go_wp2_with fail
    go_ret
    exact ⟨rfl, HB1.out.trans (hb2.mono HB1.out.size)⟩
end Go.Proofs.YtakibkbmikkpdaaDoor
