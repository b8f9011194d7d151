/-
  strconv.ParseUint to the base 16, walked, where all are digits and the number fits.
-/
import Derived.Test.YtmejpjknofbffaaDoorProg
import Derived.Test.YtmejpjknofbffaaDoorPu0
import Derived.WalkKit
import Derived.Lib.Hide
import Derived.Below
import Derived.IntWalk
import Derived.Deep.LoopGhost
import Derived.Lib.Builder
import Derived.Lib.SlBytesRow
import Derived.Laws.IdiomStrings
import Derived.Laws.BitsAllLaws
import Derived.KernelRfl
namespace Go.Proofs.YtmejpjknofbffaaDoor
open Go.RowKit Go.Lib
set_option linter.unusedVariables false
set_option linter.unusedSimpArgs false

set_option maxHeartbeats 1000000 in
set_option maxRecDepth 100000 in
theorem plower_any (c : Nat) (w : World) (hc : c < 256) : Calls Tryd.prog 42 #[.int .u8 (c : Int)] w fun e w' => e = .returned (.int .u8 ((c ||| 32 : Nat) : Int)) ∧ w = w' := by
  have hb := u8_or_nat c 32 hc (by decide)
  go_enter Tryd.func42, Tryd.ntmps42
  go_wp2_with fail
  go_ret
  exact ⟨by rw [← hb]; rfl, rfl⟩
theorem cell_newF (V : World) (cs : Array Value) (T : TypeId) (fr : Nat × Nat) (k : Nat) : (V.alloc (.cells cs T fr)).cell? ⟨V.heap.size, k, none⟩ = cs[k]? := by
  simp [World.alloc, World.cell?, -World.alloc_eq]
def PuRel (w : World) (s : ByteArray) (kk : Nat) (us n i : Value) (wr : World) : Prop :=
  ∃ k : Nat, k + kk = s.size ∧ us = .bool false ∧ n = .int .u64 (pv (s.data.toList.take k) : Nat) ∧ i = .int .i64 k ∧ w = wr
theorem pv_step (s : ByteArray) (k : Nat) (h : k < s.size) : pv (s.data.toList.take (k + 1)) = pv (s.data.toList.take k) * 16 + hexn s[k] := by
  have e : s.data.toList.take (k + 1) = s.data.toList.take k ++ [s[k]] := by rw [List.take_succ_eq_append_getElem (by simpa using h)]; rfl
  rw [e, pv_snoc]
set_option maxHeartbeats 4000000 in
set_option maxRecDepth 100000 in
theorem iparse_any (s : ByteArray) (bs : Nat) (w : World) (hs : s.size ≤ 1000000) (h0 : 0 < s.size) (hb : bs = 16 ∨ bs = 64) (hd : ∀ c ∈ s.data.toList, (hexv c).isSome = true) (hv : pv s.data.toList < 2 ^ bs) :
    Calls Tryd.prog 35 #[.string s, .int .i64 16, .int .i64 bs] w fun e w' => e = .returned (.tuple #[.int .u64 (pv s.data.toList : Nat), .nilIface]) ∧ Below w.heap.size w w' := by
  have hne : ¬ (s = ⟨#[]⟩) := fun e => by rw [e] at h0; exact absurd h0 (by decide)
  have hie : s.toList.isEmpty = false := by
    rcases hl : s.toList with _ | ⟨a, r⟩
    · exact absurd (ByteArray.ext (by simpa [ByteArray.toList_eq] using hl)) hne
    · rfl
  have hcv := run_bytes_of_string (P := Tryd.prog) w 9 28 5 s Tryd.underlying9 (by kernel_rfl) (by kernel_rfl)
  obtain ⟨M, hM, hM1, hM2⟩ : ∃ M : Nat, 2 ^ bs = M + 1 ∧ M < 18446744073709551616 ∧ IntKind.u64.wrap (IntKind.u64.wrap ((2 : Int) ^ bs) - 1) = M := by
    rcases hb with rfl | rfl
    · exact ⟨65535, by decide, by decide, by decide⟩
    · exact ⟨18446744073709551615, by decide, by decide, by decide⟩
  have d0 : ((bs : Int) == 0) = false := by simpa using (by omega)
  have d1 : decide ((bs : Int) = 0) = false := decide_eq_false (by omega)
  have d2 : decide ((bs : Int) < 0) = false := decide_eq_false (by omega)
  have d3 : decide ((64 : Int) < bs) = false := decide_eq_false (by omega)
  obtain ⟨cp, hcp⟩ : ∃ cp, grownCap w s.size 0 5 = cp := ⟨_, rfl⟩
  rw [hcp] at hcv
  obtain ⟨W1, hW1⟩ : ∃ W1, W1 = w.drew.alloc (.cells (bytesRow s cp) 5 ((bytesRow s cp).size, (bytesRow s cp).size + 1)) := ⟨_, rfl⟩
  rw [← hW1] at hcv
  have hcell : ∀ k (h : k < s.size), W1.cell? ⟨w.heap.size, k, none⟩ = some (.int .u8 (s[k].toNat : Int)) := fun k h => by
    have e := bytesRow_at s cp k h
    rw [hW1]
    exact (cell_newF w.drew _ _ _ k).trans e
  have HB := Lib.hid (show Below w.heap.size w W1 by rw [hW1]; exact Below.alloc (Below.drew (Below.refl _ _)) (Nat.le_refl _) _)
  have HH := Lib.hid (And.intro hd hv)
  clear hW1 hcp hd
  go_enter Tryd.func35, Tryd.ntmps35
  go_wp2_with fail
  go_loopg [12, 13, 101] s.size (PuRel W1 s)
  case atStart => exact ⟨0, by simp, rfl, by simp [pv], rfl, rfl⟩
  case round =>
    obtain ⟨k, hk, rfl, rfl, rfl, rfl⟩ := hrel
    by_cases hlt : k < s.size
    · have hst := pv_step s k hlt
      have hle := pv_take s.data.toList (k + 1)
      have hcl := hcell k hlt
      obtain ⟨v, hv1⟩ : ∃ v, hexv s[k] = some v := Option.isSome_iff_exists.1 (HH.out.1 s[k] (Array.getElem_mem_toList (xs := s.data) hlt))
      have hv2 : hexn s[k] = v := by unfold hexn; rw [hv1]; rfl
      rw [hv2] at hst
      rw [hst] at hle
      obtain ⟨P, hP⟩ : ∃ P, pv (s.data.toList.take k) = P := ⟨_, rfl⟩
      rw [hP] at hst hle ⊢
      obtain ⟨c, hc⟩ : ∃ c, s[k] = c := ⟨_, rfl⟩
      rw [hc] at hcl hv1
      have hvm : P * 16 + v ≤ M := by omega
      have hv16 : v < 16 := by rw [← hv2]; exact hexn_lt _
      obtain ⟨z, hz⟩ : ∃ z : Int, (P : Int) = z := ⟨_, rfl⟩
      obtain ⟨y, hy⟩ : ∃ y : Int, (v : Int) = y := ⟨_, rfl⟩
      have e1 : IntKind.u64.wrap (z * 16) = z * 16 := by rw [IntKind.wrap_u64]; omega
      have e2 : IntKind.u64.wrap (z * 16 + y) = z * 16 + y := by rw [IntKind.wrap_u64]; omega
      have e4 : IntKind.u64.wrap y = y := by rw [IntKind.wrap_u64]; omega
      have g5 : decide ((16 : Int) ≤ y) = false := decide_eq_false (by omega)
      have g6 : decide ((1152921504606846976 : Int) ≤ z) = false := decide_eq_false (by omega)
      have g7 : decide (z * 16 + y < z * 16) = false := decide_eq_false (by omega)
      have g8 : decide ((M : Int) < z * 16 + y) = false := decide_eq_false (by omega)
      have HX := Lib.hid (And.intro hst (And.intro hk (And.intro hz hy)))
      rw [hz]
      clear hst hk hle hP hc hv2 hcell hvm
      by_cases hdg : 48 ≤ c.toNat ∧ c.toNat ≤ 57
      · obtain ⟨h1, h2⟩ := hexv_digit hv1 hdg
        have h1' : (c.toNat : Int) = y + 48 := by omega
        rw [h1'] at hcl
        have g1 : (y + 48 == 95) = false := by simpa using (by omega)
        have g2 : decide ((48 : Int) ≤ y + 48) = true := decide_eq_true (by omega)
        have g3 : decide (y + 48 ≤ 57) = true := decide_eq_true (by omega)
        have g4 : y % 256 = y := by omega
        clear hv1 hdg h1 h1' hv16 hz hy h2
        go_wp2_with fail
        go_roundg (s.size - (k + 1))
        case rel =>
          obtain ⟨hst, hk, hz, hy⟩ := HX.out
          exact ⟨k + 1, by omega, rfl, by rw [hst]; exact congrArg (Value.int .u64) (by omega), by go_num, rfl⟩
        case measure => have := HX.out.2.1; omega
      · obtain ⟨h1, h2, h3, h4, h5⟩ := hexv_letter hv1 hdg
        obtain ⟨u, hu⟩ : ∃ u : Int, (c.toNat : Int) = u := ⟨_, rfl⟩
        have hu2 := c.toNat_lt
        rw [hu] at hcl
        have hl := fun W => plower_any c.toNat W hu2
        rw [h1, hu, show ((v + 87 : Nat) : Int) = y + 87 by omega] at hl
        have g1 : (u == 95) = false := by simpa using (by omega)
        have g2 : (decide ((48 : Int) ≤ u) && decide (u ≤ 57)) = false := by
          rcases Nat.lt_or_ge c.toNat 48 with hh | hh
          · rw [decide_eq_false (by omega : ¬ (48 : Int) ≤ u)]; rfl
          · rw [decide_eq_false (by omega : ¬ u ≤ 57)]; simp
        have g3 : decide ((97 : Int) ≤ y + 87) = true := decide_eq_true (by omega)
        have g3' : decide (y + 87 ≤ 122) = true := decide_eq_true (by omega)
        have g4 : IntKind.u8.wrap (y + 87 - 97) = (y + 246) % 256 := by rw [IntKind.wrap_u8']; omega
        have g9 : IntKind.u8.wrap ((y + 246) % 256 + 10) = y := by rw [IntKind.wrap_u8']; omega
        have HL := Lib.hid hl
        clear hv1 hdg h1 hv16 hz hy h2 h3 h4 h5 hu hu2 hl
        have h48 : decide ((48 : Int) ≤ u) = false ∨ decide ((48 : Int) ≤ u) = true ∧ decide (u ≤ 57) = false := by
          rcases hq : decide ((48 : Int) ≤ u) with _ | _
          · exact Or.inl rfl
          · rw [hq] at g2; exact Or.inr ⟨rfl, by simpa using g2⟩
        rcases h48 with h48 | ⟨h48, h57⟩
        all_goals
          go_wp2_with (go_at_call 42; refine (HL.out _).mono ?_; rintro _ _ ⟨rfl, rfl⟩)
        all_goals go_roundg (s.size - (k + 1))
        case rel =>
          obtain ⟨hst, hk, hz, hy⟩ := HX.out
          exact ⟨k + 1, by omega, rfl, by rw [hst]; exact congrArg (Value.int .u64) (by omega), by go_num, rfl⟩
        case measure => have := HX.out.2.1; omega
        case rel =>
          obtain ⟨hst, hk, hz, hy⟩ := HX.out
          exact ⟨k + 1, by omega, rfl, by rw [hst]; exact congrArg (Value.int .u64) (by omega), by go_num, rfl⟩
        case measure => have := HX.out.2.1; omega
    · obtain rfl : k = s.size := by omega
      have e : s.data.toList.take s.size = s.data.toList := List.take_of_length_le (by simp)
      rw [e]
      go_wp2_with fail
      go_ret2
      exact ⟨rfl, HB.out⟩
set_option maxHeartbeats 1000000 in
set_option maxRecDepth 100000 in
/-- strconv.ParseUint of hexadecimal digits whose number fits. -/
theorem parse_any (s : ByteArray) (bs : Nat) (w : World) (hs : s.size ≤ 1000000) (h0 : 0 < s.size) (hb : bs = 16 ∨ bs = 64) (hd : ∀ c ∈ s.data.toList, (hexv c).isSome = true) (hv : pv s.data.toList < 2 ^ bs) :
    Calls Tryd.prog 27 #[.string s, .int .i64 16, .int .i64 bs] w fun e w' => e = .returned (.tuple #[.int .u64 (pv s.data.toList : Nat), .nilIface]) ∧ Below w.heap.size w w' := by
  have H := Lib.hid (iparse_any s bs w hs h0 hb hd hv)
  clear hd hv hb
  obtain ⟨x, hx⟩ : ∃ x, pv s.data.toList = x := ⟨_, rfl⟩
  rw [hx] at H ⊢
  go_enter Tryd.func27, Tryd.ntmps27
  go_wp2_with fail
  refine (H.out).mono ?_
  rintro e W1 ⟨rfl, hb1⟩
  have HB := Lib.hid hb1
  clear hb1
  go_wp2_with fail
  go_ret2
  exact ⟨rfl, HB.out⟩
end Go.Proofs.YtmejpjknofbffaaDoor
