/-
  IdentOne, walked: no text is a name of two kinds, as long as the program's Is answers by the document's words.
-/
import Derived.Test.YtakibkbmikkpdaaIdLaw0
namespace Go.Proofs.Ytakibkbmikkpdaa
open Go.RowKit Go.Lib
set_option linter.unusedVariables false
set_option linter.unusedSimpArgs false

def cntN (s : ByteArray) : Nat → Nat
  | 0 => 0
  | k + 1 => cntN s k + oneIf (isName ((k + 1 : Nat) : Int) s)
theorem cnt_le (s : ByteArray) : ∀ k, cntN s k ≤ k
  | 0 => Nat.le_refl _
  | k + 1 => by
    have h1 := cnt_le s k
    have h2 : oneIf (isName ((k + 1 : Nat) : Int) s) ≤ 1 := by unfold oneIf; split <;> omega
    rw [cntN]
    omega
theorem cnt_five (s : ByteArray) : cntN s 5 ≤ 1 := by
  have h := name_one s
  have e : cntN s 5 = oneIf (isName 1 s) + oneIf (isName 2 s) + oneIf (isName 3 s) + oneIf (isName 4 s) + oneIf (isName 5 s) := by
    simp only [cntN]
    rw [Nat.zero_add]
    rfl
  omega
def OneRel (w : World) (s : ByteArray) (kk : Nat) (n k : Value) (wr : World) : Prop :=
  ∃ j : Nat, j + kk = 5 ∧ k = .int .i64 ((j : Int) + 1) ∧ n = .int .i64 (cntN s j) ∧ Below w.heap.size w wr

set_option maxRecDepth 10000 in
set_option maxHeartbeats 800000 in
theorem lawOne_any {G : World → Prop} (hst : Stays G) (hIs : IsC G) (hOf : OfC G) (s : ByteArray) (w : World) (hG : G w) (hs : s.size ≤ 9223372036854775807) :
    Calls Try.prog 3 #[.string s] w fun e w' => e = .returned (.bool true) ∧ Below w.heap.size w w' := by
  have HAw := Lib.hid (fun W (hW : Below w.heap.size w W) => awake_id hst hIs hOf W (hst _ _ hG hW))
  by_cases h300 : s.size ≤ 300
  · have d300 : decide ((300 : Int) < (s.size : Int)) = false := by simp; omega
    have HI := Lib.hid (fun (k : Int) W (hW : Below w.heap.size w W) => hIs k s W (hst _ _ hG hW) (by omega))
    clear hst hIs hOf hG
    go_enter Try.func3, Try.ntmps3
    go_wp2_with fail
    refine (HAw.out w (Below.refl _ _)).mono ?_
    rintro e W1 ⟨rfl, hb1⟩
    have HB1 := Lib.hid hb1
    clear hb1
    go_wp2_with fail
    go_loopg [3, 4] 5 (OneRel w s)
    case atStart => exact ⟨0, rfl, rfl, rfl, HB1.out⟩
    case round =>
      obtain ⟨j, hk, rfl, rfl, hb⟩ := hrel
      have HB := Lib.hid hb
      have hcl := cnt_le s j
      obtain ⟨cn, hcn⟩ : ∃ cn, cntN s j = cn := ⟨_, rfl⟩
      rw [hcn] at hcl ⊢
      have HCn := Lib.hid hcn
      clear hb hcn
      by_cases hlt : j < 5
      · have HC := Lib.hid (HI.out ((j : Int) + 1) wr HB.out)
        obtain ⟨R, hR⟩ : ∃ R, isName ((j : Int) + 1) s = R := ⟨_, rfl⟩
        rw [hR] at HC
        have HR := Lib.hid hR
        clear hR
        cases R with
        | true =>
          go_wp2_with fail
          refine HC.out.mono ?_
          rintro e W2 ⟨rfl, hb2⟩
          have HB2 := Lib.hid (HB.out.trans (hb2.mono HB.out.size))
          clear hb2
          go_wp2_with fail
          go_roundg (4 - j)
          case rel =>
            refine ⟨j + 1, by omega, by go_num, ?_, HB2.out⟩
            have e : cntN s (j + 1) = cn + 1 := by
              rw [cntN, HCn.out]
              have : isName ((j + 1 : Nat) : Int) s = true := HR.out
              rw [this]
              rfl
            rw [e]
            go_num
          case measure => omega
        | false =>
          go_wp2_with fail
          refine HC.out.mono ?_
          rintro e W2 ⟨rfl, hb2⟩
          have HB2 := Lib.hid (HB.out.trans (hb2.mono HB.out.size))
          clear hb2
          go_wp2_with fail
          go_roundg (4 - j)
          case rel =>
            refine ⟨j + 1, by omega, by go_num, ?_, HB2.out⟩
            have e : cntN s (j + 1) = cn := by
              rw [cntN, HCn.out]
              have : isName ((j + 1 : Nat) : Int) s = false := HR.out
              rw [this]
              rfl
            rw [e]
          case measure => omega
      · obtain rfl : j = 5 := by omega
        have h5 : cn ≤ 1 := by rw [← HCn.out]; exact cnt_five s
        have d1 : decide ((cn : Int) ≤ 1) = true := by simp; omega
        go_wp2_with fail
        go_ret
        exact ⟨by first | rfl | simp [h5], HB.out⟩
  · have d300 : decide ((300 : Int) < (s.size : Int)) = true := by simp; omega
    clear hst hIs hOf hG
    go_enter Try.func3, Try.ntmps3
    go_wp2_with fail
    refine (HAw.out w (Below.refl _ _)).mono ?_
    rintro e W1 ⟨rfl, hb1⟩
    have HB1 := Lib.hid hb1
    clear hb1
    go_wp2_with fail
    refine (HAw.out W1 HB1.out).mono ?_
    rintro e W2 ⟨rfl, hb2⟩
    go_wp2_with fail
    go_ret
    exact ⟨rfl, HB1.out.trans (hb2.mono HB1.out.size)⟩
end Go.Proofs.Ytakibkbmikkpdaa
