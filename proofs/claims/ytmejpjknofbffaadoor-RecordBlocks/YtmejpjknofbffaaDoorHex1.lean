/-
  strconv.FormatUint to the base 16, walked: the number's digits, without noughts ahead.
-/
import Derived.Test.YtmejpjknofbffaaDoorProg
import Derived.Test.YtmejpjknofbffaaDoorHx0
import Derived.WalkKit
import Derived.Lib.Hide
import Derived.Below
import Derived.IntWalk
import Derived.Deep.LoopGhost
import Derived.Lib.Builder
import Derived.Lib.UnsafeStr
import Derived.Laws.IdiomStrings
import Derived.Laws.BitsAllLaws
import Derived.KernelRfl
namespace Go.Proofs.YtmejpjknofbffaaDoor
open Go.RowKit Go.Lib
set_option linter.unusedVariables false
set_option linter.unusedSimpArgs false

/-- The table's place that is asked. -/
def Deb (w : World) : Prop := w.cell? ⟨6, 15, none⟩ = some (.int .u8 4)
def z65 (j : Nat) (l : List UInt8) : Array Value := (List.replicate (65 - j) (Value.int .u8 0) ++ Lib.byteCells l).toArray
theorem z65_put {j : Nat} (hj : j < 65) (l : List UInt8) (c : UInt8) : (z65 j l).setIfInBounds (64 - j) (.int .u8 c.toNat) = z65 (j + 1) (c :: l) := by
  unfold z65
  rw [List.setIfInBounds_toArray]
  congr 1
  rw [show 65 - j = (64 - j) + 1 by omega, show 65 - (j + 1) = 64 - j by omega, List.replicate_succ', List.append_assoc, List.set_append_right _ _ (by simp)]
  simp [Lib.byteCells]
theorem z65_at {j : Nat} (l : List UInt8) (hl : l.length = j) (hj : j ≤ 65) (t : Nat) (ht : t < l.length) : (z65 j l)[65 - j + t]? = some (.int .u8 (l[t].toNat : Int)) := by
  unfold z65
  rw [List.getElem?_toArray, List.getElem?_append_right (by simp), List.length_replicate, Nat.add_sub_cancel_left]
  simp [Lib.byteCells, List.getElem?_eq_getElem ht]
theorem z65_size (j : Nat) (l : List UInt8) (hl : l.length = j) (hj : j ≤ 65) : (z65 j l).size = 65 := by
  unfold z65
  rw [List.size_toArray, List.length_append, List.length_replicate, Lib.byteCells_length]
  omega
def FbRel (w : World) (n : Nat) (kk : Nat) (u i : Value) (wr : World) : Prop :=
  ∃ j : Nat, j + kk = 16 ∧ (j = 0 ∨ 16 ^ j ≤ n) ∧ u = .int .u64 (n / 16 ^ j : Nat) ∧ i = .int .i64 (65 - j : Nat) ∧ wr.heap[w.heap.size]? = some (.cells (z65 j (hx j n)) 130 (0, 0)) ∧ Below w.heap.size w wr

theorem arr_put {w : World} {g : Nat} {T : TypeId} {cs : Array Value} (h : w.heap[g]? = some (.cells cs T (0, 0))) (i : Nat) (u : Value) : (w.setCell ⟨g, i, none⟩ u).heap[g]? = some (.cells (cs.setIfInBounds i u) T (0, 0)) := by
  simp [World.setCell, Array.getElem?_modify, h]
theorem and15 (u r : Nat) (hu : u < 18446744073709551616) (hr : u % 16 = r) : bits BinOp.and IntKind.u64 (u : Int) 15 = (r : Int) := by
  have h := u64_and_nat u 15 hu (by decide)
  have e : u &&& 15 = u % 16 := Nat.and_two_pow_sub_one_eq_mod u 4
  rw [e, hr] at h
  exact h
theorem dig_at : ∀ r : Fin 16, (ByteArray.mk #[48, 49, 50, 51, 52, 53, 54, 55, 56, 57, 97, 98, 99, 100, 101, 102, 103, 104, 105, 106, 107, 108, 109, 110, 111, 112, 113, 114, 115, 116, 117, 118, 119, 120, 121, 122]).data[r.val]? = some (hexD r.val) := by decide
theorem run_dig (r : Nat) (hr : r < 16) (w : World) : (Instr.index 9 (.string ⟨#[48, 49, 50, 51, 52, 53, 54, 55, 56, 57, 97, 98, 99, 100, 101, 102, 103, 104, 105, 106, 107, 108, 109, 110, 111, 112, 113, 114, 115, 116, 117, 118, 119, 120, 121, 122]⟩) (.int .u64 r)).run Tryd.prog w = .ok (.int .u8 (hexD r).toNat) w := by
  have hz : (ByteArray.mk #[48, 49, 50, 51, 52, 53, 54, 55, 56, 57, 97, 98, 99, 100, 101, 102, 103, 104, 105, 106, 107, 108, 109, 110, 111, 112, 113, 114, 115, 116, 117, 118, 119, 120, 121, 122]).size = 36 := rfl
  rw [run_index_string (h := Tryd.underlying9), dif_pos ⟨by omega, by rw [hz]; omega⟩]
  have h := dig_at ⟨r, hr⟩
  have hlt : r < (ByteArray.mk #[48, 49, 50, 51, 52, 53, 54, 55, 56, 57, 97, 98, 99, 100, 101, 102, 103, 104, 105, 106, 107, 108, 109, 110, 111, 112, 113, 114, 115, 116, 117, 118, 119, 120, 121, 122]).data.size := by show r < 36; omega
  rw [Array.getElem?_eq_getElem hlt] at h
  have h' := Option.some.inj h
  rw [← h']
  rfl
theorem run_tail (g q j : Nat) (hq : q < 65) (hj : 65 - q = j + 1) (W : World) : (Instr.sliceAt 130 (.pointer (some ⟨g, 0, none⟩)) (some (.int .i64 (q : Int))) none none).run Tryd.prog W = .ok (.slice (some ⟨g, q, none⟩) (j + 1) (j + 1)) W := by
  have ha : Tryd.prog.arrayLen 130 = 65 := by kernel_rfl
  have ht : Tryd.prog.underlying 130 = some (.array (Tryd.prog.arrayLen 130) (Tryd.prog.elem 130)) := by kernel_rfl
  have he : Tryd.prog.elem 130 = 5 := by kernel_rfl
  have hz : (sizeOf 5).run Tryd.prog W = .ok 1 W := by
    have h : ((Tryd.prog.info? 5).map fun i => i.size) = some 1 := by kernel_rfl
    obtain ⟨i, hi, hs⟩ := Option.map_eq_some_iff.1 h
    simp [sizeOf, typeInfo, hi, hs]
  rw [run_sliceAt_array_l (ht := ht) (h0 := by omega) (h1 := by rw [ha]; omega), he, hz, ha]
  have hqi : ((q : Int)).toNat = q := by omega
  simp only [Result.andThen, slicedAt, hqi, hj, Nat.mul_one]
  rw [if_neg (by omega)]
  simp [Addr.add]
  omega
theorem zero65 : Tryd.zeroCells130 = z65 0 [] := by kernel_rfl
set_option maxHeartbeats 1000000 in
set_option maxRecDepth 100000 in
theorem isPow_any (w : World) : Calls Tryd.prog 71 #[.int .i64 16] w fun e w' => e = .returned (.bool true) ∧ w = w' := by
  go_enter Tryd.func71, Tryd.ntmps71
  go_wp2
  go_ret
  exact ⟨rfl, rfl⟩
set_option maxHeartbeats 1000000 in
set_option maxRecDepth 100000 in
theorem tz64_any (w : World) (hd : Deb w) : Calls Tryd.prog 77 #[.int .u64 16] w fun e w' => e = .returned (.int .i64 4) ∧ w = w' := by
  unfold Deb at hd
  have e0 : bits BinOp.and IntKind.u64 16 (IntKind.u64.wrap (-16)) = 16 := by decide
  have e1 : IntKind.u64.wrap (16 * 285870213051353865) = 4573923408821661840 := by decide
  have e2 : IntKind.u64.wrap 4573923408821661840 = 4573923408821661840 := by decide
  go_enter Tryd.func77, Tryd.ntmps77
  go_wp2
  go_ret
  exact ⟨rfl, rfl⟩
set_option maxHeartbeats 1000000 in
set_option maxRecDepth 100000 in
theorem tz_any (w : World) (hd : Deb w) : Calls Tryd.prog 72 #[.int .u64 16] w fun e w' => e = .returned (.int .i64 4) ∧ w = w' := by
  have H := Lib.hid (tz64_any w hd)
  go_enter Tryd.func72, Tryd.ntmps72
  go_wp2_with fail
  refine H.out.mono ?_
  rintro e w' ⟨rfl, rfl⟩
  go_wp2_with fail
  go_ret
  exact ⟨rfl, rfl⟩
set_option maxHeartbeats 4000000 in
set_option maxRecDepth 100000 in
theorem formatBits_any (n : Nat) (hn : n < 18446744073709551616) (w : World) (hd : Deb w) :
    Calls Tryd.prog 61 #[.slice none 0 0, .int .u64 n, .int .i64 16, .bool false, .bool false] w fun e w' => (∃ k v, e = .returned (.tuple #[v, .string ⟨(hx k n).toArray⟩]) ∧ 1 ≤ k ∧ k ≤ 16 ∧ n < 16 ^ k ∧ (k = 1 ∨ 16 ^ (k - 1) ≤ n)) ∧ Below w.heap.size w w' := by
  obtain ⟨W0, hW0⟩ : ∃ W0, w.alloc (.cells Tryd.zeroCells130 130) = W0 := ⟨_, rfl⟩
  have hb0 : Below w.heap.size w W0 := hW0 ▸ (Below.refl _ _).alloc (Nat.le_refl _) _
  have hk0 : W0.heap[w.heap.size]? = some (.cells (z65 0 []) 130 (0, 0)) := by
    rw [← hW0, ← zero65]
    unfold World.alloc
    simp
  have HP := Lib.hid (isPow_any W0)
  have HT := Lib.hid (tz_any W0 ((hb0.cell (p := ⟨6, 15, none⟩) (by have := hd; unfold Deb at this; rcases Nat.lt_or_ge 6 w.heap.size with h | h; exact h; simp [World.cell?, Array.getElem?_eq_none h] at this)).trans hd))
  have H0 := Lib.hid (And.intro hW0 (And.intro hb0 hk0))
  clear hW0 hb0 hk0 hd
  go_enter Tryd.func61, Tryd.ntmps61
  go_wp2_with fail
  rw [H0.out.1]
  refine HP.out.mono ?_
  rintro e w1 ⟨rfl, rfl⟩
  go_wp2_with fail
  refine HT.out.mono ?_
  rintro e w1 ⟨rfl, rfl⟩
  go_wp2_with fail
  go_loopg [1, 13] 16 (FbRel w n)
  case atStart => exact ⟨0, rfl, .inl rfl, by simp, rfl, H0.out.2.2, H0.out.2.1⟩
  case round =>
    obtain ⟨j, hk, hmin, rfl, rfl, hblk, hbw⟩ := hrel
    have hj16 : j ≤ 16 := by omega
    obtain ⟨u, hu⟩ : ∃ u, n / 16 ^ j = u := ⟨_, rfl⟩
    have hu64 : u < 18446744073709551616 := by rw [← hu]; exact Nat.lt_of_le_of_lt (Nat.div_le_self _ _) hn
    rw [hu]
    have hhead : hx (j + 1) n = hexD (u % 16) :: hx j n := by rw [hx_head, hu]
    by_cases h16 : 16 ≤ u
    · have d1 : decide ((16 : Int) ≤ (u : Int)) = true := decide_eq_true (by omega)
      have d2 : decide (16 ≤ u) = true := decide_eq_true h16
      have hj15 : j + 1 ≤ 15 := by
        rcases Nat.lt_or_ge (j + 1) 16 with h | h
        · omega
        · exfalso
          have h1 : u * 16 ^ j ≤ n := by rw [← hu]; exact Nat.div_mul_le_self _ _
          have h2 : 16 ^ 15 ≤ 16 ^ j := Nat.pow_le_pow_right (by decide) (by omega)
          have h3 : 16 * 16 ^ 15 ≤ u * 16 ^ j := Nat.mul_le_mul h16 h2
          have h4 : (16 : Nat) * 16 ^ 15 = 18446744073709551616 := by decide
          omega
      obtain ⟨q, hq⟩ : ∃ q, 64 - j = q := ⟨_, rfl⟩
      have hq1 : 65 - j = q + 1 := by omega
      obtain ⟨r, hr⟩ : ∃ r, u % 16 = r := ⟨_, rfl⟩
      have hr16 : r < 16 := by omega
      have hand := and15 u r hu64 hr
      have hdig := run_dig r hr16
      have hcell : wr.cell? ⟨w.heap.size, q, none⟩ = some (.int .u8 0) := by
        rw [Lib.cell_of_heap hblk, z65, List.getElem?_toArray, List.getElem?_append_left (by simp; omega), List.getElem?_replicate, if_pos (by omega)]
      have hfz : wr.frozen? ⟨w.heap.size, q, none⟩ = false := Lib.frozen_of_heap hblk q
      have HX := Lib.hid (And.intro hblk (And.intro hbw (And.intro hhead (And.intro hu (And.intro hr (And.intro hq (And.intro hk hmin)))))))
      rw [hq1]
      have hq65 : q < 65 := by omega
      have hqi : ((q : Int)).toNat = q := by omega
      clear hblk hbw hhead hu hr hq hk hmin hq1
      go_wp2_with fail
      go_roundg (16 - (j + 1))
      case rel =>
        obtain ⟨hblk, hbw, hhead, hu, hr, hq, hk, hmin⟩ := HX.out
        have hdd : n / 16 ^ (j + 1) = u / 16 := by rw [Nat.pow_succ, ← Nat.div_div_eq_div_mul, hu]
        refine ⟨j + 1, by omega, .inr ?_, ?_, ?_, ?_, hbw.setCell (p := ⟨w.heap.size, q, none⟩) (Nat.le_refl _) _⟩
        · have h1 : u * 16 ^ j ≤ n := by rw [← hu]; exact Nat.div_mul_le_self _ _
          have h3 : 16 * 16 ^ j ≤ u * 16 ^ j := Nat.mul_le_mul_right _ h16
          rw [Nat.pow_succ]
          omega
        · rw [hdd]
          exact congrArg (Value.int .u64) (by omega)
        · exact congrArg (Value.int .i64) (by omega)
        · rw [hhead, hr, ← z65_put (by omega), hq]
          exact arr_put hblk q _
      case measure => have := HX.out.2.2.2.2.2.2.1; omega
    · have d1 : decide ((16 : Int) ≤ (u : Int)) = false := decide_eq_false (by omega)
      have d2 : decide (16 ≤ u) = false := decide_eq_false h16
      obtain ⟨q, hq⟩ : ∃ q, 64 - j = q := ⟨_, rfl⟩
      have hq1 : 65 - j = q + 1 := by omega
      have hu16 : u % 16 = u := Nat.mod_eq_of_lt (by omega)
      have hdig := run_dig u (by omega)
      have hcell : wr.cell? ⟨w.heap.size, q, none⟩ = some (.int .u8 0) := by
        rw [Lib.cell_of_heap hblk, z65, List.getElem?_toArray, List.getElem?_append_left (by simp; omega), List.getElem?_replicate, if_pos (by omega)]
      have hfz : wr.frozen? ⟨w.heap.size, q, none⟩ = false := Lib.frozen_of_heap hblk q
      have hlt : n < 16 ^ (j + 1) := by
        have h1 := (Nat.div_lt_iff_lt_mul (Nat.pow_pos (n := j) (show 0 < 16 by decide))).1 (show n / 16 ^ j < 16 by omega)
        rw [Nat.pow_succ, Nat.mul_comm]
        exact h1
      have hnew : (wr.setCell ⟨w.heap.size, q, none⟩ (.int .u8 (hexD u).toNat)).heap[w.heap.size]? = some (.cells (z65 (j + 1) (hx (j + 1) n)) 130 (0, 0)) := by
        rw [hhead, hu16, ← z65_put (by omega), hq]
        exact arr_put hblk q _
      have hlen := hx_len (j + 1) n
      have hconv : (convert 28 9 (.slice (some ⟨w.heap.size, q, none⟩) (j + 1) (j + 1))).run Tryd.prog (wr.setCell ⟨w.heap.size, q, none⟩ (.int .u8 (hexD u).toNat)) = .ok (.string ⟨(hx (j + 1) n).toArray⟩) (wr.setCell ⟨w.heap.size, q, none⟩ (.int .u8 (hexD u).toNat)) := by
        have h := run_convert_bytes_back (P := Tryd.prog) (wr.setCell ⟨w.heap.size, q, none⟩ (.int .u8 (hexD u).toNat)) 28 9 5 ⟨w.heap.size, q, none⟩ (j + 1) (hx (j + 1) n) Tryd.underlying28 Tryd.underlying5 Tryd.underlying9 (fun t ht => by
          have := z65_at (hx (j + 1) n) hlen (by omega) t ht
          rw [show 65 - (j + 1) = q by omega] at this
          rw [show (Addr.add ⟨w.heap.size, q, none⟩ t) = ⟨w.heap.size, q + t, none⟩ by simp [Addr.add], Lib.cell_of_heap hnew]
          exact this)
        rw [hlen] at h
        exact h
      have hj15 : j ≤ 15 := by
        rcases hmin with rfl | h
        · omega
        · rcases Nat.lt_or_ge j 16 with h' | h'
          · omega
          · exfalso
            have h2 : 16 ^ 16 ≤ 16 ^ j := Nat.pow_le_pow_right (by decide) h'
            have h4 : (16 : Nat) ^ 16 = 18446744073709551616 := by decide
            omega
      have HX := Lib.hid (And.intro hbw (And.intro hlt (And.intro hmin hj15)))
      rw [hq1]
      have hq65 : q < 65 := by omega
      have hqi : ((q : Int)).toNat = q := by omega
      have hqj : 65 - q = j + 1 := by omega
      have hsl := run_tail w.heap.size q j (by omega) (by omega)
      clear hblk hbw hhead hu hq hk hmin hq1 hnew hlt hlen
      go_wp2_with fail
      refine bodyPost_ret (v := .tuple #[.slice none 0 0, .string ⟨(hx (j + 1) n).toArray⟩]) (by simp [results, Tryd.results61, go_sem]) rfl ?_
      obtain ⟨hbw, hlt, hmin, hj16⟩ := HX.out
      refine ⟨⟨j + 1, ⟨_, rfl⟩, by omega, by omega, hlt, ?_⟩, hbw.setCell (p := ⟨w.heap.size, q, none⟩) (Nat.le_refl _) _⟩
      rcases hmin with rfl | h
      · exact .inl rfl
      · exact .inr h
end Go.Proofs.YtmejpjknofbffaaDoor
