/-
  Windows of bytes; a block's sum by the program.
-/
import Derived.Test.YtmejpjknofbffaaDoorRe1
import Derived.Test.YtmejpjknofbffaaDoorPu1
import Derived.Test.YtmejpjknofbffaaDoorSm1
import Derived.Deep.RegionHeld3
import Derived.Deep.DeepMust
import Derived.Deep.QuietTactic
import Derived.Laws.IdiomStrings
import Derived.Lib.SlBytesRow
namespace Go.Proofs.YtmejpjknofbffaaDoor
open Go.RowKit Go.Lib
set_option linter.unusedVariables false
set_option linter.unusedSimpArgs false

theorem cutL_len (x : List UInt8) {l h : Nat} (hh : h ≤ x.length) : (cutL x l h).length = h - l := by simp [cutL]; omega
theorem cutL_get (x : List UInt8) {l h j : Nat} (hj : j < h - l) : (cutL x l h)[j]? = x[l + j]? := by simp [cutL, List.getElem?_take, hj]
theorem Bt.cut {w : World} {g q : Nat} {x : List UInt8} (h : Bt w (some ⟨g, q, none⟩) x) (l e : Nat) (he : e ≤ x.length) : Bt w (some ⟨g, q + l, none⟩) (cutL x l e) := fun h0 => by
  refine ⟨_, rfl, fun j v hv => ?_⟩
  have hj : j < e - l := by
    have := (List.getElem?_eq_some_iff.1 hv).1
    rw [bcs_len, cutL_len x he] at this
    exact this
  have h1 := h.at (l + j) (by omega)
  rw [bcs_get, cutL_get x hj, List.getElem?_eq_getElem (by omega)] at hv
  rw [Addr.add_mid, ← hv, Nat.add_assoc]
  exact h1
/-- A text of bytes in memory. -/
theorem str_of {w : World} {g q : Nat} {x : List UInt8} (h : Bt w (some ⟨g, q, none⟩) x) (c : Nat) : Sem.run Tryd.prog (convert 28 9 (.slice (some ⟨g, q, none⟩) x.length c)) w = .ok (.string ⟨x.toArray⟩) w := by
  refine run_convert_bytes_back w 28 9 5 ⟨g, q, none⟩ c x (by kernel_rfl) (by kernel_rfl) (by kernel_rfl) fun j hj => ?_
  have := h.at j hj
  rwa [Addr.add_mid]
/-- A window of a slice. -/
theorem run_win (W : World) (g q n c l h : Nat) (k1 k2 : IntKind) (hlh : l ≤ h) (hh : h ≤ c) (hl : l < c) : Sem.run Tryd.prog (Instr.slice 28 (.slice (some ⟨g, q, none⟩) n c) (some (.int k1 (l : Int))) (some (.int k2 (h : Int))) none) W = .ok (.slice (some ⟨g, q + l, none⟩) (h - l) (c - l)) W := by
  have hu : Tryd.prog.underlying 28 = some (.slice (Tryd.prog.elem 28)) := by kernel_rfl
  have he : Tryd.prog.elem 28 = 5 := by kernel_rfl
  have hsz : ∀ W, (Go.sizeOf 5).run Tryd.prog W = .ok 1 W := fun W => by kernel_rfl
  rw [run_slice_lh W 28 (some ⟨g, q, none⟩) n c hu k1 k2 _ _ (by omega) (by omega) (by omega), he, hsz]
  have : ((h : Int).toNat - (l : Int).toNat) = h - l := by omega
  simp [Result.andThen, sliced, this]
  rw [if_neg (by omega)]
  simp [Addr.add_mid]
theorem fnv_digits (s : ByteArray) : (∀ c ∈ (sumB s).data.toList, (hexv c).isSome = true) ∧ pv (sumB s).data.toList = fnv s.data.toList := by
  unfold sumB
  exact ⟨hx_digits 16 _, pv_hx 16 _ (by have := fnv_lt s.data.toList; have e : (16 : Nat) ^ 16 = 18446744073709551616 := by decide
                                        omega)⟩
set_option maxHeartbeats 4000000 in
set_option maxRecDepth 100000 in
theorem blksum_any (w : World) (g q cp : Nat) (x : List UInt8) (hxl : x.length = 64) (hcp : 64 ≤ cp) (h : Bt w (some ⟨g, q, none⟩) x) (hD : Deb w) (hN : 7 ≤ w.heap.size) :
    Calls Tryd.prog 18 #[.slice (some ⟨g, q, none⟩) 64 cp] w fun e w' => e = .returned (.int .u64 (fnv (sumL x) : Nat)) ∧ Below w.heap.size w w' := by
  obtain ⟨n, hn⟩ : ∃ n, (x.getD 12 0).toNat = n := ⟨_, rfl⟩
  obtain ⟨m, hm⟩ : ∃ m, min n 42 = m := ⟨_, rfl⟩
  have hm42 : m ≤ 42 := by omega
  have hmi : min (n : Int) 42 = (m : Int) := by
    rcases Nat.le_total n 42 with hl | hl
    · rw [Nat.min_eq_left hl] at hm; rw [← hm]; exact Int.min_eq_left (by omega)
    · rw [Nat.min_eq_right hl] at hm; rw [← hm]; exact Int.min_eq_right (by omega)
  have hsl : sumL x = cutL x 1 13 ++ cutL x 21 (21 + m) := by unfold sumL; rw [hn, hm]
  have hc12 : w.cell? ⟨g, q + 12, none⟩ = some (.int .u8 (n : Int)) := by
    have h1 := h.at 12 (by omega)
    rw [← hn, List.getD_eq_getElem?_getD, List.getElem?_eq_getElem (by omega)]
    exact h1
  have l1 : (cutL x 1 13).length = 12 := cutL_len x (by omega)
  have l2 : (cutL x 21 (21 + m)).length = m := by rw [cutL_len x (by omega)]; omega
  have hh : ∀ W : World, W.heap = w.heap → Bt W (some ⟨g, q, none⟩) x := fun W hW h0 => by
    obtain ⟨ad, e, h1⟩ := h h0
    exact ⟨ad, e, fun j v hv => (World.cell?_of_block (w := w) (a := ad.add j) (by rw [hW])).trans (h1 j v hv)⟩
  have s1 := fun W hW => str_of ((hh W hW).cut 1 13 (by omega)) (cp - 1)
  have s2 := fun W hW => str_of ((hh W hW).cut 21 (21 + m) (by omega)) (cp - 21)
  rw [l1] at s1
  rw [l2] at s2
  have hS := fun W (hW : Below w.heap.size w W) => sum_any (⟨(sumL x).toArray⟩ : ByteArray) W (by
    unfold Deb
    rw [hW.cell (Nat.lt_of_lt_of_le (by decide) hN)]
    exact hD) (by
    rw [hsl]
    have : (⟨(cutL x 1 13 ++ cutL x 21 (21 + m)).toArray⟩ : ByteArray).size = (cutL x 1 13 ++ cutL x 21 (21 + m)).length := List.size_toArray
    rw [this, List.length_append, l1, l2]
    omega)
  obtain ⟨f1, f2⟩ := fnv_digits (⟨(sumL x).toArray⟩ : ByteArray)
  have f3 : (sumB (⟨(sumL x).toArray⟩ : ByteArray)).size = 16 := by
    have h2 : (sumB (⟨(sumL x).toArray⟩ : ByteArray)).size = (hx 16 (fnv (⟨(sumL x).toArray⟩ : ByteArray).data.toList)).length := List.size_toArray
    rw [h2, hx_len]
  have hP := fun W => parse_any (sumB (⟨(sumL x).toArray⟩ : ByteArray)) 64 W (by omega) (by omega) (Or.inr rfl) f1 (by rw [f2]; exact fnv_lt _)
  rw [f2] at hP
  have e0 : (⟨(sumL x).toArray⟩ : ByteArray).data.toList = sumL x := rfl
  rw [e0] at hP
  obtain ⟨D, hDD⟩ : ∃ D, sumB (⟨(sumL x).toArray⟩ : ByteArray) = D := ⟨_, rfl⟩
  rw [hDD] at hS hP
  obtain ⟨F, hF⟩ : ∃ F, fnv (sumL x) = F := ⟨_, rfl⟩
  rw [hF] at hP ⊢
  obtain ⟨X, hX⟩ : ∃ X, cutL x 1 13 = X := ⟨_, rfl⟩
  obtain ⟨Y, hY⟩ : ∃ Y, cutL x 21 (21 + m) = Y := ⟨_, rfl⟩
  rw [hsl] at hS
  rw [hX] at s1 l1 hS
  rw [hY] at s2 l2 hS
  have hXY : (⟨X.toArray⟩ : ByteArray) ++ ⟨Y.toArray⟩ = ⟨(X ++ Y).toArray⟩ := by
    apply ByteArray.ext
    rw [ByteArray.data_append]
    simp
  have z1 : (⟨X.toArray⟩ : ByteArray).size = 12 := by rw [← l1]; exact List.size_toArray
  have z2 : (⟨Y.toArray⟩ : ByteArray).size = m := by rw [← l2]; exact List.size_toArray
  obtain ⟨SX, hSX⟩ : ∃ s : ByteArray, (⟨X.toArray⟩ : ByteArray) = s := ⟨_, rfl⟩
  obtain ⟨SY, hSY⟩ : ∃ s : ByteArray, (⟨Y.toArray⟩ : ByteArray) = s := ⟨_, rfl⟩
  rw [hSX] at s1 hXY z1
  rw [hSY] at s2 hXY z2
  rw [← hXY] at hS
  have hfit : ¬ (9223372036854775807 < SX.size + SY.size) := by omega
  have d1 := fun W => run_win W g q 64 cp 1 13 .i64 .i64 (by omega) (by omega) (by omega)
  have d2 := fun W => run_win W g q 64 cp 21 (21 + m) .i64 .i64 (by omega) (by omega) (by omega)
  rw [show 21 + m - 21 = m by omega] at d2
  have hn255 : n < 256 := by rw [← hn]; exact UInt8.toNat_lt _
  have hw64 : wrap64 (n : Int) = (n : Int) := by
    have h := IntWalk.i64_in (n : Int) ⟨by omega, by omega⟩
    rw [IntWalk.i64_left] at h
    exact h
  have hmw : IntKind.i64.wrap (21 + (m : Int)) = 21 + (m : Int) := IntWalk.i64_in _ (by omega)
  have HS := Lib.hid hS
  have HP := Lib.hid hP
  clear hS hP hXY h hD hDD hF hX hY hSX hSY hsl f1 f2 f3 e0 hxl hm hn z1 z2 l1 l2
  simp only [Nat.reduceSub, Int.natCast_add, Int.cast_ofNat_Int] at d1 d2
  have s1' := fun k => s1 (w.drewN k) rfl
  have s2' := fun k => s2 (w.drewN k) rfl
  have s1'' := s1 w.drew rfl
  have s2'' := s2 w.drew rfl
  have s1q := s1 w rfl
  have s2q := s2 w rfl
  clear s1 s2 hh
  go_enter Tryd.func18, Tryd.ntmps18
  go_wp2_with fail
  go_region_law
    (first
      | (go_simp; go_at_call 26; refine (HS.out _ ((Below.refl _ _).drew)).mono ?_; rintro e W1 ⟨rfl, hb1⟩; have HB1 := Lib.hid (show Below w.heap.size w W1 from (Below.drew (Below.refl _ _)).trans hb1); clear hb1))
  all_goals
    go_wp2_with fail
    refine (HP.out _).mono ?_
    rintro e W2 ⟨rfl, hb2⟩
    have HB2 := Lib.hid (HB1.out.trans (hb2.mono HB1.out.size))
    clear hb2
    go_wp2_with fail
    go_ret
    exact ⟨rfl, HB2.out⟩
end Go.Proofs.YtmejpjknofbffaaDoor
