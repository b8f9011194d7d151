/-
  The document's small functions on blocks: hex, four, number, sum, walked.
-/
import Derived.Test.YtmejpjknofbffaaDoorRe6
import Derived.Test.YtmejpjknofbffaaDoorRfS
import Derived.Test.YtmejpjknofbffaaDoorRl0
import Derived.Test.YtmejpjknofbffaaDoorStp
import Derived.Deep.RegionLaw
namespace Go.Proofs.YtmejpjknofbffaaDoor
open Go.RowKit Go.Lib
set_option linter.unusedVariables false
set_option linter.unusedSimpArgs false

theorem hexD_num : ∀ r : Fin 16, (hexD r.val).toNat = if r.val < 10 then 48 + r.val else 87 + r.val := by decide
set_option maxRecDepth 100000 in
set_option maxHeartbeats 1000000 in
theorem refhex_any (d : Nat) (hd : d < 16) (w : World) : Calls Tryd.prog 33 #[.int .u8 ((hexD d).toNat : Int)] w fun e w' => e = .returned (.int .u8 (d : Int)) ∧ w = w' := by
  have h1 := hexD_num ⟨d, hd⟩
  simp only at h1
  obtain ⟨z, hz⟩ : ∃ z, (hexD d).toNat = z := ⟨_, rfl⟩
  rw [hz] at h1 ⊢
  clear hz
  by_cases h10 : d < 10
  · rw [if_pos h10] at h1
    have d1 : decide ((z : Int) ≤ 57) = true := decide_eq_true (by omega)
    have d2 : decide (z ≤ 57) = true := decide_eq_true (by omega)
    have w1 : IntKind.u8.wrap ((z : Int) - 48) = (d : Int) := by rw [IntKind.wrap_u8']; omega
    have w2 : ((z : Int) - 48) % 256 = (d : Int) := by omega
    clear h1 h10
    go_enter Tryd.func33, Tryd.ntmps33
    go_wp2_with fail
    go_ret
    exact ⟨rfl, rfl⟩
  · rw [if_neg h10] at h1
    have d1 : decide ((z : Int) ≤ 57) = false := decide_eq_false (by omega)
    have d2 : decide (z ≤ 57) = false := decide_eq_false (by omega)
    have w1 : IntKind.u8.wrap (IntKind.u8.wrap ((z : Int) - 97) + 10) = (d : Int) := by rw [IntKind.wrap_u8', IntKind.wrap_u8']; omega
    have w2 : (((z : Int) - 97) % 256 + 10) % 256 = (d : Int) := by omega
    clear h1 h10
    go_enter Tryd.func33, Tryd.ntmps33
    go_wp2_with fail
    go_ret
    exact ⟨congrArg (fun y => Ending.returned (Value.int .u8 y)) w2, rfl⟩
/-- A text of bytes that were just laid. -/
theorem conv_new (W : World) (l : List UInt8) : Sem.run Tryd.prog (convert 28 9 (.slice (some ⟨W.heap.size, 0, none⟩) l.length l.length)) (W.alloc (.cells (bcs l).toArray 5)) = .ok (.string ⟨l.toArray⟩) (W.alloc (.cells (bcs l).toArray 5)) :=
  str_of (fun _ => ⟨_, rfl, fun j v hv => by
    rw [Addr.add_mid]
    have := new_range W (bcs l).toArray 5 j v (by rw [List.toList_toArray]; exact hv)
    exact this⟩) l.length
theorem be4 (n : Nat) : be 4 n = [UInt8.ofNat (n / 16777216 % 256), UInt8.ofNat (n / 65536 % 256), UInt8.ofNat (n / 256 % 256), UInt8.ofNat (n % 256)] := by
  simp only [be, List.nil_append, List.cons_append, Nat.div_div_eq_div_mul]
set_option maxRecDepth 100000 in
set_option maxHeartbeats 1000000 in
theorem four_any (n : Nat) (hn : n ≤ 2147483647) (w : World) : Calls Tryd.prog 24 #[.int .i64 (n : Int)] w fun e w' => e = .returned (.string ⟨(be 4 n).toArray⟩) ∧ Below w.heap.size w w' := by
  have hcv : Sem.run Tryd.prog (convert 28 9 (.slice (some ⟨w.heap.size, 0, none⟩) 4 4)) (w.alloc (.cells #[.int .u8 ((n : Int) / 16777216), .int .u8 ((n : Int) / 65536 % 256), .int .u8 ((n : Int) / 256 % 256), .int .u8 ((n : Int) % 256)] 5)) = .ok (.string ⟨(be 4 n).toArray⟩) (w.alloc (.cells #[.int .u8 ((n : Int) / 16777216), .int .u8 ((n : Int) / 65536 % 256), .int .u8 ((n : Int) / 256 % 256), .int .u8 ((n : Int) % 256)] 5)) := by
    have h := conv_new w (be 4 n)
    have t : ∀ k : Nat, ((UInt8.ofNat (k % 256)).toNat : Int) = ((k % 256 : Nat) : Int) := fun k => by rw [UInt8.toNat_ofNat']; omega
    have e : (bcs (be 4 n)).toArray = #[.int .u8 ((n : Int) / 16777216), .int .u8 ((n : Int) / 65536 % 256), .int .u8 ((n : Int) / 256 % 256), .int .u8 ((n : Int) % 256)] := by
      rw [be4]
      show #[Value.int .u8 ((UInt8.ofNat (n / 16777216 % 256)).toNat : Int), Value.int .u8 ((UInt8.ofNat (n / 65536 % 256)).toNat : Int), Value.int .u8 ((UInt8.ofNat (n / 256 % 256)).toNat : Int), Value.int .u8 ((UInt8.ofNat (n % 256)).toNat : Int)] = _
      rw [t, t, t, t, show ((n / 16777216 % 256 : Nat) : Int) = (n : Int) / 16777216 by omega, show ((n / 65536 % 256 : Nat) : Int) = (n : Int) / 65536 % 256 by omega, show ((n / 256 % 256 : Nat) : Int) = (n : Int) / 256 % 256 by omega, show ((n % 256 : Nat) : Int) = (n : Int) % 256 by omega]
    rw [e, be_len] at h
    exact h
  obtain ⟨S, hS⟩ : ∃ S : ByteArray, (⟨(be 4 n).toArray⟩ : ByteArray) = S := ⟨_, rfl⟩
  rw [hS] at hcv ⊢
  clear hS
  go_enter Tryd.func24, Tryd.ntmps24
  go_wp2_with fail
  go_ret
  exact ⟨rfl, new_below w _⟩
theorem un4 (a b c d : UInt8) : un [a, b, c, d] = a.toNat * 16777216 + b.toNat * 65536 + c.toNat * 256 + d.toNat := by
  simp only [un, List.foldl_cons, List.foldl_nil, unStep]
  omega
theorem hx_at : ∀ (k n i : Nat), i < k → (hx k n)[i]? = some (hexD (n / 16 ^ (k - 1 - i) % 16))
  | k + 1, n, 0, _ => by rw [hx_head]; simp
  | k + 1, n, i + 1, h => by
    rw [hx_head, List.getElem?_cons_succ, hx_at k n i (by omega), show k + 1 - 1 - (i + 1) = k - 1 - i by omega]
def Sum8Rel (w : World) (F : Nat) (kk : Nat) (o i : Value) (wr : World) : Prop := ∃ (j q : Nat) (O : ByteArray), j + kk = 8 ∧ q = 2 * j ∧ i = .int .i64 (q : Int) ∧ o = .string O ∧ O.data.toList = be j (F / 256 ^ (8 - j)) ∧ Below w.heap.size w wr
set_option maxRecDepth 100000 in
set_option maxHeartbeats 4000000 in
theorem refbsum_any (s : ByteArray) (w : World) (hs : s.size ≤ 1000000) : Calls Tryd.prog 25 #[.string s] w fun e w' => e = .returned (.string ⟨(be 8 (fnv s.data.toList)).toArray⟩) ∧ Below w.heap.size w w' := by
  have HS := Lib.hid (fun W => refsum_any s W hs)
  obtain ⟨F, hF⟩ : ∃ F, fnv s.data.toList = F := ⟨_, rfl⟩
  have hD : (sumB s).data.toList = hx 16 F := by rw [← hF]; rfl
  obtain ⟨D, hDD⟩ : ∃ D, sumB s = D := ⟨_, rfl⟩
  rw [hDD] at hD HS
  rw [hF]
  have hz : D.size = 16 := by
    have h1 : D.data.toList.length = D.size := by rw [Array.length_toList]; rfl
    rw [← h1, hD, hx_len]
  have HD := Lib.hid hD
  clear hDD hF hD
  go_enter Tryd.func25, Tryd.ntmps25
  go_wp2_with (first | (go_at_call 32; go_must (with_reducible refine (HS.out _).mono ?_; rintro e W1 ⟨rfl, hb1⟩; have HB1 := Lib.hid hb1; clear hb1)))
  go_loopg [4, 5] 8 (Sum8Rel w F)
  case atStart => exact ⟨0, 0, ⟨#[]⟩, rfl, rfl, rfl, rfl, rfl, HB1.out⟩
  case round =>
    obtain ⟨j, q, O, hk, hq, rfl, rfl, hO, hb⟩ := hrel
    by_cases hlt : j < 8
    · obtain ⟨m, hm⟩ : ∃ m, F / 256 ^ (7 - j) = m := ⟨_, rfl⟩
      have hp : (16 : Nat) ^ (2 * (7 - j)) = 256 ^ (7 - j) := by rw [Nat.pow_mul]
      have y0 : ∀ h : q < D.size, (D[q]'h).toNat = (hexD (m / 16 % 16)).toNat := fun h => by
        subst hq
        have h1 := hx_at 16 F (2 * j) (by omega)
        rw [← HD.out, show 16 - 1 - 2 * j = 2 * (7 - j) + 1 by omega, Nat.pow_succ, hp, ← Nat.div_div_eq_div_mul, hm] at h1
        have h2 : D.data.toList[2 * j]? = some (D[2 * j]'h) := by rw [Array.getElem?_toList]; exact Array.getElem?_eq_getElem (xs := D.data) h
        rw [h2] at h1
        rw [Option.some.inj h1]
      have y1 : ∀ h : q + 1 < D.size, (D[q + 1]'h).toNat = (hexD (m % 16)).toNat := fun h => by
        subst hq
        have h1 := hx_at 16 F (2 * j + 1) (by omega)
        rw [← HD.out, show 16 - 1 - (2 * j + 1) = 2 * (7 - j) by omega, hp, hm] at h1
        have h2 : D.data.toList[2 * j + 1]? = some (D[2 * j + 1]'h) := by rw [Array.getElem?_toList]; exact Array.getElem?_eq_getElem (xs := D.data) h
        rw [h2] at h1
        rw [Option.some.inj h1]
      obtain ⟨a, ha⟩ : ∃ a, m / 16 % 16 = a := ⟨_, rfl⟩
      obtain ⟨b, hbb⟩ : ∃ b, m % 16 = b := ⟨_, rfl⟩
      rw [ha] at y0
      rw [hbb] at y1
      have ha16 : a < 16 := by omega
      have hb16 : b < 16 := by omega
      have hab : a * 16 + b = m % 256 := by omega
      have HA := Lib.hid (fun W => refhex_any a ha16 W)
      have HBx := Lib.hid (fun W => refhex_any b hb16 W)
      have hcv : ∀ W : World, Sem.run Tryd.prog (convert 28 9 (.slice (some ⟨W.heap.size, 0, none⟩) 1 1)) (W.alloc (.cells #[.int .u8 ((a : Int) * 16 + b)] 5)).drew = .ok (.string ⟨#[UInt8.ofNat (m % 256)]⟩) (W.alloc (.cells #[.int .u8 ((a : Int) * 16 + b)] 5)).drew := fun W => by
        have e : (bcs [UInt8.ofNat (m % 256)]).toArray = #[.int .u8 ((a : Int) * 16 + b)] := by
          show #[Value.int .u8 ((UInt8.ofNat (m % 256)).toNat : Int)] = _
          rw [UInt8.toNat_ofNat', show ((m % 256 % 2 ^ 8 : Nat) : Int) = (a : Int) * 16 + b by omega]
        have hB : Bt (W.alloc (.cells #[.int .u8 ((a : Int) * 16 + b)] 5)) (some ⟨W.heap.size, 0, none⟩) [UInt8.ofNat (m % 256)] := fun _ => ⟨_, rfl, fun j v hv => by
          rw [Addr.add_mid, ← e]
          exact new_range W (bcs [UInt8.ofNat (m % 256)]).toArray 5 j v (by rw [List.toList_toArray]; exact hv)⟩
        exact str_of (w := (W.alloc (.cells #[.int .u8 ((a : Int) * 16 + b)] 5)).drew) (hB.same rfl) 1
      have hw1 : IntKind.u8.wrap ((a : Int) * 16) = (a : Int) * 16 := by rw [IntKind.wrap_u8']; omega
      have hw2 : IntKind.u8.wrap ((a : Int) * 16 + b) = (a : Int) * 16 + b := by rw [IntKind.wrap_u8']; omega
      have hbe : be (j + 1) m = be j (F / 256 ^ (8 - j)) ++ [UInt8.ofNat (m % 256)] := by
        rw [be, ← hm, Nat.div_div_eq_div_mul, ← Nat.pow_succ, show (7 - j).succ = 8 - j by omega]
      have HX := Lib.hid (And.intro hk (And.intro hO (And.intro hb (And.intro hbe hm))))
      obtain ⟨X, hX⟩ : ∃ X : ByteArray, (⟨#[UInt8.ofNat (m % 256)]⟩ : ByteArray) = X := ⟨_, rfl⟩
      rw [hX] at hcv
      have HXX := Lib.hid hX
      have d1 : decide ((q : Int) < 16) = true := decide_eq_true (by omega)
      have d2 : decide (q < 16) = true := decide_eq_true (by omega)
      have hj2 : q + 1 < 16 := by omega
      have HQ := Lib.hid hq
      have hq1 : (q : Int) < 16 := by omega
      have hq2 : (q : Int) + 1 < 16 := by omega
      have hq3 : IntKind.i64.wrap ((q : Int) + 1) = (q : Int) + 1 := IntWalk.i64_in _ (by omega)
      have hq4 : ((q : Int) + 1).toNat = q + 1 := by omega
      have hq5 : (0 : Int) ≤ (q : Int) + 1 := by omega
      have hOz : O.size = j := by
        have h1 : O.data.toList.length = O.size := by rw [Array.length_toList]; rfl
        rw [← h1, hO, be_len]
      have hXz : X.size = 1 := by rw [← hX]; rfl
      have hfit : ¬ (9223372036854775807 < O.size + X.size) := by omega
      clear hk hO hb hbe hm hp hab ha hbb hX hq hOz hXz
      go_upto_region 6 with (fail)
      go_region_law
        (first
          | (go_simp; go_at_call 33; with_reducible refine (HA.out _).mono ?_; rintro e W3 ⟨rfl, rfl⟩)
          | (go_simp; go_at_call 33; with_reducible refine (HBx.out _).mono ?_; rintro e W3 ⟨rfl, rfl⟩))
      · go_wp2_with fail
        go_roundg (8 - (j + 1))
        case rel =>
          obtain ⟨hk, hO, hb, hbe, hm⟩ := HX.out
          refine ⟨j + 1, q + 2, O ++ X, by omega, by rw [HQ.out]; omega, by go_num, rfl, ?_, (hb.alloc hb.size _).drew⟩
          rw [dataAp2, hO, ← HXX.out, show 8 - (j + 1) = 7 - j by omega, hm, hbe]
        case measure => have := HX.out.1; omega
      · go_wp2_with fail
        go_roundg (8 - (j + 1))
        case rel =>
          obtain ⟨hk, hO, hb, hbe, hm⟩ := HX.out
          refine ⟨j + 1, q + 2, O ++ X, by omega, by rw [HQ.out]; omega, by go_num, rfl, ?_, (hb.alloc hb.size _).drew⟩
          rw [dataAp2, hO, ← HXX.out, show 8 - (j + 1) = 7 - j by omega, hm, hbe]
        case measure => have := HX.out.1; omega
      · go_wp2_with fail
        go_roundg (8 - (j + 1))
        case rel =>
          obtain ⟨hk, hO, hb, hbe, hm⟩ := HX.out
          refine ⟨j + 1, q + 2, O ++ X, by omega, by rw [HQ.out]; omega, by go_num, rfl, ?_, (hb.alloc hb.size _).drew⟩
          rw [dataAp2, hO, ← HXX.out, show 8 - (j + 1) = 7 - j by omega, hm, hbe]
        case measure => have := HX.out.1; omega
    · obtain rfl : j = 8 := by omega
      subst hq
      have HX := Lib.hid (And.intro hO hb)
      have d1 : decide (((16 : Nat) : Int) < 16) = false := decide_eq_false (by omega)
      clear hO hb hk
      go_wp2_with fail
      go_ret
      obtain ⟨hO, hb⟩ := HX.out
      refine ⟨congrArg (fun x => Ending.returned (Value.string x)) (ByteArray.ext (Array.ext' ?_)), hb⟩
      rw [hO, Nat.sub_self, Nat.pow_zero, Nat.div_one]
end Go.Proofs.YtmejpjknofbffaaDoor
