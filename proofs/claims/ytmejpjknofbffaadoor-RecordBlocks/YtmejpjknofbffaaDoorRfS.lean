/-
  The document's Sum (package enfiladeref03), walked.
-/
import Derived.Test.YtmejpjknofbffaaDoorSm0
namespace Go.Proofs.YtmejpjknofbffaaDoor
open Go.RowKit Go.Lib
set_option linter.unusedVariables false
set_option linter.unusedSimpArgs false

theorem dataAp2 (a b : ByteArray) : (a ++ b).data.toList = a.data.toList ++ b.data.toList := by rw [ByteArray.data_append]; simp
theorem six_cut : ∀ r : Fin 16, ((ByteArray.mk #[48, 49, 50, 51, 52, 53, 54, 55, 56, 57, 97, 98, 99, 100, 101, 102]).extract r.val (r.val + 1)) = ⟨#[hexD r.val]⟩ := by decide
theorem run_six (w : World) (a b : Int) (d : Nat) (hd : d < 16) (ha : a = d) (hb : b = d + 1) :
    (Instr.slice 9 (.string ⟨#[48, 49, 50, 51, 52, 53, 54, 55, 56, 57, 97, 98, 99, 100, 101, 102]⟩) (some (.int .u64 a)) (some (.int .u64 b)) none).run Tryd.prog w = .ok (.string ⟨#[hexD d]⟩) w := by
  subst ha; subst hb
  have hz : (ByteArray.mk #[48, 49, 50, 51, 52, 53, 54, 55, 56, 57, 97, 98, 99, 100, 101, 102]).size = 16 := rfl
  rw [run_slice_string (h := Tryd.underlying9) (h0 := by omega) (h1 := by omega) (h2 := by rw [hz]; omega)]
  have e1 : ((d : Int)).toNat = d := by omega
  have e2 : ((d : Int) + 1).toNat = d + 1 := by omega
  rw [e1, e2, six_cut ⟨d, hd⟩]
def Sum2Rel (w : World) (f : Nat) (kk : Nat) (u o i : Value) (wr : World) : Prop :=
  ∃ (j : Nat) (O : ByteArray), j + kk = 16 ∧ i = .int .i64 j ∧ u = .int .u64 (f / 16 ^ j : Nat) ∧ o = .string O ∧ O.data.toList = hx j f ∧ Below w.heap.size w wr
set_option maxHeartbeats 1000000 in
set_option maxRecDepth 100000 in
theorem refsum_any (s : ByteArray) (w : World) (hs : s.size ≤ 1000000) :
    Calls Tryd.prog 32 #[.string s] w fun e w' => e = .returned (.string (sumB s)) ∧ Below w.heap.size w w' := by
  go_enter Tryd.func32, Tryd.ntmps32
  go_wp2_with fail
  go_loopg [3, 8] s.size (SumRel w s)
  case atStart => exact ⟨0, by simp, rfl, rfl, rfl⟩
  case round =>
    obtain ⟨k, hk, rfl, rfl, rfl⟩ := hrel
    have hf := fnv_lt (s.data.toList.take k)
    by_cases hlt : k < s.size
    · have hst := fnv_step s k hlt
      obtain ⟨f, hfe⟩ : ∃ f, fnv (s.data.toList.take k) = f := ⟨_, rfl⟩
      rw [hfe] at hst hf ⊢
      have hc : s[k].toNat < 18446744073709551616 := by have := s[k].toNat_lt; omega
      have hxor := bits_xor_u64_nat f s[k].toNat hf hc
      obtain ⟨x, hx⟩ : ∃ x, f ^^^ s[k].toNat = x := ⟨_, rfl⟩
      rw [hx] at hxor
      have hmul : IntKind.u64.wrap ((x : Int) * 1099511628211) = ((x * 1099511628211 % 18446744073709551616 : Nat) : Int) := by rw [IntKind.wrap_u64]; omega
      have HX := Lib.hid (And.intro hst (And.intro hx hk))
      clear hst hx hk hfe
      go_wp2_with fail
      go_roundg (s.size - (k + 1))
      case rel =>
        obtain ⟨hst, hx, hk⟩ := HX.out
        refine ⟨k + 1, by omega, by go_num, ?_, rfl⟩
        rw [hst, fnvStep, hx]
        exact congrArg (Value.int .u64) (by omega)
      case measure => have := HX.out.2.2; omega
    · obtain rfl : k = s.size := by omega
      have HX := Lib.hid (show fnv (s.data.toList.take s.size) = fnv s.data.toList by rw [List.take_of_length_le (by simp)])
      rw [HX.out] at hf ⊢
      obtain ⟨f, hfe⟩ : ∃ f, fnv s.data.toList = f := ⟨_, rfl⟩
      rw [hfe] at hf ⊢
      have HF := Lib.hid hfe
      clear hfe HX hk
      go_wp2_with fail
      obtain ⟨wo, rfl⟩ : ∃ wo : World, wo = w := ⟨_, rfl⟩
      go_loopg [3, 5, 20] 16 (Sum2Rel wo f)
      case atStart => exact ⟨0, ⟨#[]⟩, rfl, rfl, by simp, rfl, rfl, Below.refl _ _⟩
      case round =>
        obtain ⟨j, O, hk, rfl, rfl, rfl, hO, hb⟩ := hrel
        have hOz : O.size = j := by
          have h1 : O.data.toList.length = O.size := by rw [Array.length_toList]; rfl
          rw [hO, hx_len] at h1
          exact h1.symm
        have hhead := hx_head j f
        obtain ⟨u, hu⟩ : ∃ u, f / 16 ^ j = u := ⟨_, rfl⟩
        rw [hu] at hhead ⊢
        have hu64 : u < 18446744073709551616 := by rw [← hu]; exact Nat.lt_of_le_of_lt (Nat.div_le_self _ _) hf
        by_cases hlt : j < 16
        · have d1 : decide ((j : Int) < 16) = true := decide_eq_true (by omega)
          have d2 : decide (j < 16) = true := decide_eq_true hlt
          have w2 : IntKind.u64.wrap ((u : Int) % 16 + 1) = (u : Int) % 16 + 1 := by rw [IntKind.wrap_u64]; omega
          have r1 := fun W => run_six W ((u : Int) % 16) ((u : Int) % 16 + 1) (u % 16) (by omega) (by omega) (by omega)
          have hz : (ByteArray.mk #[hexD (u % 16)]).size = 1 := rfl
          have HX := Lib.hid (And.intro hhead (And.intro hO (And.intro hb (And.intro hk hu))))
          clear hhead hO hb hk hu
          go_wp2_with fail
          go_roundg (16 - (j + 1))
          case rel =>
            obtain ⟨hhead, hO, hb, hk, hu⟩ := HX.out
            refine ⟨j + 1, ⟨#[hexD (u % 16)]⟩ ++ O, by omega, by go_num, ?_, rfl, ?_, hb⟩
            · rw [Nat.pow_succ, ← Nat.div_div_eq_div_mul, hu]
              exact congrArg (Value.int .u64) (by omega)
            · rw [dataAp2, hO, hhead]
              rfl
          case measure => have := HX.out.2.2.2.1; omega
        · have d1 : decide ((j : Int) < 16) = false := decide_eq_false (by omega)
          have d2 : decide (j < 16) = false := decide_eq_false hlt
          obtain rfl : j = 16 := by omega
          have HX := Lib.hid (And.intro hO hb)
          clear hhead hO hb hk hu
          go_wp2_with fail
          go_ret
          obtain ⟨hO, hb⟩ := HX.out
          refine ⟨congrArg (fun x => Ending.returned (Value.string x)) (ByteArray.ext (Array.ext' ?_)), hb⟩
          rw [hO, sumB, HF.out]
end Go.Proofs.YtmejpjknofbffaaDoor
