/-
  IdentMade, walked: of parts that may be, put together, there is a name, as long as the program's Is answers by the document's words.
-/
import Derived.Test.YtakibkbmikkpdaaIdMade1
import Derived.Test.YtakibkbmikkpdaaIdDig
namespace Go.Proofs.Ytakibkbmikkpdaa
open Go.RowKit Go.Lib
set_option linter.unusedVariables false
set_option linter.unusedSimpArgs false

theorem idx_s0 (W : World) : Sem.run Try.prog (Instr.index 28 (.agg #[.string ⟨#[33]⟩, .string ⟨#[64]⟩, .string ⟨#[35]⟩]) (.int .i64 0)) W = .ok (.string ⟨#[33]⟩) W := by kernel_rfl
theorem idx_s1 (W : World) : Sem.run Try.prog (Instr.index 28 (.agg #[.string ⟨#[33]⟩, .string ⟨#[64]⟩, .string ⟨#[35]⟩]) (.int .i64 1)) W = .ok (.string ⟨#[64]⟩) W := by kernel_rfl
theorem idx_s2 (W : World) : Sem.run Try.prog (Instr.index 28 (.agg #[.string ⟨#[33]⟩, .string ⟨#[64]⟩, .string ⟨#[35]⟩]) (.int .i64 2)) W = .ok (.string ⟨#[35]⟩) W := by kernel_rfl
theorem idx_k0 (W : World) : Sem.run Try.prog (Instr.index 30 (.agg #[.int .i64 1, .int .i64 2, .int .i64 3]) (.int .i64 0)) W = .ok (.int .i64 1) W := by kernel_rfl
theorem idx_k1 (W : World) : Sem.run Try.prog (Instr.index 30 (.agg #[.int .i64 1, .int .i64 2, .int .i64 3]) (.int .i64 1)) W = .ok (.int .i64 2) W := by kernel_rfl
theorem idx_k2 (W : World) : Sem.run Try.prog (Instr.index 30 (.agg #[.int .i64 1, .int .i64 2, .int .i64 3]) (.int .i64 2)) W = .ok (.int .i64 3) W := by kernel_rfl
theorem idx_sign (a : Nat) : ∃ (sg : UInt8) (k : Nat), (∀ W, Sem.run Try.prog (Instr.index 28 (.agg #[.string ⟨#[33]⟩, .string ⟨#[64]⟩, .string ⟨#[35]⟩]) (.int .i64 ((a : Int) % 3))) W = .ok (.string (ofL [sg])) W) ∧
    (∀ W, Sem.run Try.prog (Instr.index 30 (.agg #[.int .i64 1, .int .i64 2, .int .i64 3]) (.int .i64 ((a : Int) % 3))) W = .ok (.int .i64 k) W) ∧ signKind sg = k ∧ k ≠ 0 ∧ (signL sg = opqL ∨ signL sg = locL) := by
  have : (a : Int) % 3 = 0 ∨ (a : Int) % 3 = 1 ∨ (a : Int) % 3 = 2 := by omega
  rcases this with h | h | h <;> rw [h]
  · exact ⟨33, 1, idx_s0, idx_k0, by decide, by decide, .inl rfl⟩
  · exact ⟨64, 2, idx_s1, idx_k1, by decide, by decide, .inr rfl⟩
  · exact ⟨35, 3, idx_s2, idx_k2, by decide, by decide, .inr rfl⟩
def RelA (W : World) (sg : UInt8) (n : Nat) (kk : Nat) (sv i : Value) (wr : World) : Prop := ∃ j : Nat, j + kk = n ∧ i = .int .i64 j ∧ sv = .string (ofL (sg :: letsA j)) ∧ W = wr
def RelH (W : World) (x : List UInt8) (m : Nat) (kk : Nat) (sv i : Value) (wr : World) : Prop := ∃ j : Nat, j + kk = m ∧ i = .int .i64 j ∧ sv = .string (ofL (x ++ letsH j)) ∧ W = wr

theorem dec_plain : ∀ (u : Nat), (decDigits u).all (hasB digL) = true ∧ 1 ≤ (decDigits u).length ∧ (u < 4294967296 → (decDigits u).length ≤ 200)
  | u => by
    have hd : ∀ d : Nat, d < 10 → hasB digL (UInt8.ofNat (48 + d)) = true := fun d h => by
      have : d = 0 ∨ d = 1 ∨ d = 2 ∨ d = 3 ∨ d = 4 ∨ d = 5 ∨ d = 6 ∨ d = 7 ∨ d = 8 ∨ d = 9 := by omega
      rcases this with rfl | rfl | rfl | rfl | rfl | rfl | rfl | rfl | rfl | rfl <;> decide
    by_cases h : u < 10
    · rw [decDigits_one h]
      exact ⟨by rw [List.all_cons, List.all_nil, Bool.and_true]; exact hd u h, by simp, fun _ => by simp⟩
    · have ih := dec_plain (u / 10)
      rw [dec_big h]
      refine ⟨by rw [List.all_append, ih.1, Bool.true_and, List.all_cons, List.all_nil, Bool.and_true]; exact hd _ (Nat.mod_lt _ (by omega)), by simp, fun hu => ?_⟩
      have hlen : ∀ (k v : Nat), v < 10 ^ k → 0 < k → (decDigits v).length ≤ k := by
        intro k
        induction k with
        | zero => intro v hv h0; omega
        | succ k ihk =>
          intro v hv _
          by_cases h10 : v < 10
          · rw [decDigits_one h10]; simp
          · rw [dec_big h10, List.length_append]
            have hk : 0 < k := by
              rcases Nat.eq_zero_or_pos k with rfl | h
              · simp at hv; omega
              · exact h
            have := ihk (v / 10) (by rw [Nat.pow_succ] at hv; omega) hk
            simp
            omega
      have := hlen 10 u (by omega) (by omega)
      rw [dec_big h] at this
      omega
termination_by u => u
decreasing_by omega

set_option maxRecDepth 100000 in
set_option maxHeartbeats 4000000 in
theorem lawMade_any {G : World → Prop} (hst : Stays G) (hIs : IsC G) (hOf : OfC G) (a b c p : Nat) (w : World) (hG : G w) (ha : a < 256) (hb : b < 256) (hc : c < 256) (hp : p < 4294967296) :
    Calls Try.prog 4 #[.agg #[.int .u8 a, .int .u8 b, .int .u8 c], .int .u32 p] w fun e w' => e = .returned (.bool true) ∧ Below w.heap.size w w' := by
  have HAw := Lib.hid (fun W (hW : Below w.heap.size w W) => awake_id hst hIs hOf W (hst _ _ hG hW))
  have HI := Lib.hid (fun (k : Int) (s : ByteArray) W (hW : Below w.heap.size w W) (hs : s.size ≤ 1000) => hIs k s W (hst _ _ hG hW) hs)
  obtain ⟨sg, k, hi1, hi2, hk, hk0, hL⟩ := idx_sign a
  obtain ⟨n, hn, hn60⟩ : ∃ n : Nat, (b : Int) % 60 = (n : Int) ∧ n < 60 := ⟨b % 60, by omega, by omega⟩
  obtain ⟨m, hm, hm60⟩ : ∃ m : Nat, (c : Int) % 60 = (m : Int) ∧ m < 60 := ⟨c % 60, by omega, by omega⟩
  have HK := Lib.hid (And.intro hk (And.intro hk0 hL))
  clear hst hIs hOf hG hk hk0 hL
  go_enter Try.func4, Try.ntmps4
  go_wp2_with fail
  go_quiet (fail)
  go_wp2_with fail
  refine (HAw.out _ ?_).mono ?_
  · exact ⟨rfl, rfl, rfl, by simp, fun k hk => Below.heap_alloc _ _ _ hk⟩
  rintro e W1 ⟨rfl, hb1⟩
  have hb0 : Below w.heap.size w (w.alloc (.cells #[.int .u8 a, .int .u8 b, .int .u8 c] 26)) := (Below.refl _ _).alloc (Nat.le_refl _) _
  have hb1' : Below w.heap.size w W1 := by
    refine Below.trans hb0 ?_
    exact ⟨hb1.os, hb1.tape, hb1.output, hb1.size, fun k hk => hb1.block k (by simp; omega)⟩
  have HB1 := Lib.hid hb1'
  clear hb1 hb0 hb1'
  go_wp2_with fail
  go_loopg [11, 37] n (RelA W1 sg n)
  case atStart => exact ⟨0, by simp, rfl, rfl, rfl⟩
  case round =>
    obtain ⟨j, hkk, rfl, rfl, rfl⟩ := hrel
    have hsz : (ofL (sg :: letsA j)).size ≤ 200 := by rw [ofL_size, List.length_cons, (letsA_plain j).2.2.2]; omega
    by_cases hlt : j < n
    · have q0 : (0 : Int) ≤ (j : Int) % 5 := by omega
      have q1 : (j : Int) % 5 + 1 ≤ 5 := by omega
      have q2 : (j : Int) % 5 ≤ (j : Int) % 5 + 1 := by omega
      have q3 : ((j : Int) % 5).toNat = j % 5 := by omega
      have q4 : ((j : Int) % 5 + 1).toNat = j % 5 + 1 := by omega
      have hcut := cutA j
      obtain ⟨X, hX⟩ : ∃ X, ofL (sg :: letsA j) = X := ⟨_, rfl⟩
      rw [hX] at hsz ⊢
      have HX := Lib.hid hX
      have hno : ¬ 9223372036854775807 < X.size + (ofL [letA j]).size := by rw [ofL_size]; simp; omega
      clear hX
      go_wp2_with fail
      go_roundg (n - (j + 1))
      case rel => exact ⟨j + 1, by omega, by go_num, by rw [letsA_succ, ← HX.out, ofL_append]; rfl, rfl⟩
      case measure => omega
    · obtain rfl : j = n := by omega
      obtain ⟨X, hX⟩ : ∃ X, ofL (sg :: letsA j) = X := ⟨_, rfl⟩
      rw [hX] at hsz ⊢
      have HX := Lib.hid hX
      have hno : ¬ 9223372036854775807 < X.size + (⟨#[58]⟩ : ByteArray).size := by
        have : (⟨#[58]⟩ : ByteArray).size = 1 := rfl
        omega
      clear hX
      go_wp2_with fail
      go_loopg [11, 52] m (RelH W1 ((sg :: letsA j) ++ [58]) m)
      case atStart => exact ⟨0, by simp, rfl, by rw [← HX.out, show (⟨#[58]⟩ : ByteArray) = ofL [58] from rfl, ofL_append]; simp [letsH], rfl⟩
      case round =>
        clear hno hsz HX
        obtain ⟨i, hkk2, rfl, rfl, rfl⟩ := hrel
        have hsz : (ofL (((sg :: letsA j) ++ [58]) ++ letsH i)).size ≤ 200 := by
          rw [ofL_size, List.length_append, List.length_append, List.length_cons, (letsA_plain j).2.2.2, (letsH_plain i).2.2]
          simp
          omega
        by_cases hlt2 : i < m
        · have q0 : (0 : Int) ≤ (i : Int) % 4 := by omega
          have q1 : (i : Int) % 4 + 1 ≤ 4 := by omega
          have q2 : (i : Int) % 4 ≤ (i : Int) % 4 + 1 := by omega
          have q3 : ((i : Int) % 4).toNat = i % 4 := by omega
          have q4 : ((i : Int) % 4 + 1).toNat = i % 4 + 1 := by omega
          have hcut := cutH i
          obtain ⟨X, hX⟩ : ∃ X, ofL (((sg :: letsA j) ++ [58]) ++ letsH i) = X := ⟨_, rfl⟩
          rw [hX] at hsz ⊢
          have HX := Lib.hid hX
          have hno : ¬ 9223372036854775807 < X.size + (ofL [letH i]).size := by rw [ofL_size]; simp; omega
          clear hX
          go_wp2_with fail
          go_roundg (m - (i + 1))
          case rel => exact ⟨i + 1, by omega, by go_num, by rw [letsH_succ, ← HX.out, ofL_append, List.append_assoc], rfl⟩
          case measure => omega
        · obtain rfl : i = m := by omega
          obtain ⟨D, hD⟩ : ∃ D, decDigits p = D := ⟨_, rfl⟩
          obtain ⟨hD1, hD2, hD3⟩ := dec_plain p
          have hD3 := hD3 hp
          have HDg := Lib.hid (digitsN_any p W1 hp)
          rw [hD] at hD1 hD2 hD3 HDg
          obtain ⟨hk, hk0, hL⟩ := HK.out
          have hmade := fun (d : Option (List UInt8)) (hd : ∀ z, d = some z → z.all (hasB digL) = true) => made_is (d := d) hk hk0 (letsA_plain j).1 (by rcases hL with e | e <;> rw [e]; exact (letsA_plain j).2.1; exact (letsA_plain j).2.2.1) (letsH_plain i).1 (letsH_plain i).2.1 hd
          rw [(letsA_plain j).2.2.2, (letsH_plain i).2.2] at hmade
          have hbW : Below w.heap.size w W1 := HB1.out
          have hld : (ofL D).size = D.length := ofL_size D
          obtain ⟨X, hX⟩ : ∃ X, ofL (((sg :: letsA j) ++ [58]) ++ letsH i) = X := ⟨_, rfl⟩
          rw [hX] at hsz ⊢
          by_cases p0 : p = 0
          · subst p0
            have hXd : X = ofL (madeL sg (letsA j) (letsH i) none) := by rw [← hX, madeL, tailL]; simp
            have hI := HI.out k X W1 hbW (by omega)
            rw [hXd, hmade none (fun z h => by cases h), ← hXd, portOk] at hI
            have HBW := Lib.hid hbW
            clear hmade hXd hX hbW hL hk hk0 hD
            by_cases cn1 : 1 ≤ j
            · by_cases cn50 : j ≤ 50
              · by_cases cm1 : 1 ≤ i
                · by_cases cm50 : i ≤ 50
                  · rw [decide_eq_true cn1, decide_eq_true cn50, decide_eq_true cm1, decide_eq_true cm50] at hI
                    simp only [Bool.and_true] at hI
                    have HIs := Lib.hid hI
                    clear hI
                    have dn1 : decide ((1 : Int) ≤ (j : Int)) = true := by simp; omega
                    have dn50 : decide ((j : Int) ≤ 50) = true := by simp; omega
                    have dm1 : decide ((1 : Int) ≤ (i : Int)) = true := by simp; omega
                    have dm50 : decide ((i : Int) ≤ 50) = true := by simp; omega
                    go_wp2_with fail
                    refine HDg.out.mono ?_
                    rintro e w' ⟨rfl, rfl⟩
                    go_wp2_with fail
                    refine (HIs.out).mono ?_
                    rintro e W9 ⟨rfl, hb9⟩
                    go_wp2_with fail
                    go_ret
                    exact ⟨by simp, HBW.out.trans (hb9.mono HBW.out.size)⟩
                  · have hv : decide (i ≤ 50) = false := decide_eq_false cm50
                    rw [hv] at hI
                    simp only [Bool.false_and, Bool.and_false] at hI
                    have HIs := Lib.hid hI
                    clear hI hv
                    have dn1 : decide ((1 : Int) ≤ (j : Int)) = true := by simp; omega
                    have dn50 : decide ((j : Int) ≤ 50) = true := by simp; omega
                    have dm1 : decide ((1 : Int) ≤ (i : Int)) = true := by simp; omega
                    have dm50 : decide ((i : Int) ≤ 50) = false := by simp; omega
                    go_wp2_with fail
                    refine HDg.out.mono ?_
                    rintro e w' ⟨rfl, rfl⟩
                    go_wp2_with fail
                    refine (HIs.out).mono ?_
                    rintro e W9 ⟨rfl, hb9⟩
                    go_wp2_with fail
                    go_ret
                    exact ⟨by simp, HBW.out.trans (hb9.mono HBW.out.size)⟩
                · have hv : decide (1 ≤ i) = false := decide_eq_false cm1
                  rw [hv] at hI
                  simp only [Bool.false_and, Bool.and_false] at hI
                  have HIs := Lib.hid hI
                  clear hI hv
                  have dn1 : decide ((1 : Int) ≤ (j : Int)) = true := by simp; omega
                  have dn50 : decide ((j : Int) ≤ 50) = true := by simp; omega
                  have dm1 : decide ((1 : Int) ≤ (i : Int)) = false := by simp; omega
                  go_wp2_with fail
                  refine HDg.out.mono ?_
                  rintro e w' ⟨rfl, rfl⟩
                  go_wp2_with fail
                  refine (HIs.out).mono ?_
                  rintro e W9 ⟨rfl, hb9⟩
                  go_wp2_with fail
                  go_ret
                  exact ⟨by simp, HBW.out.trans (hb9.mono HBW.out.size)⟩
              · have hv : decide (j ≤ 50) = false := decide_eq_false cn50
                rw [hv] at hI
                simp only [Bool.false_and, Bool.and_false] at hI
                have HIs := Lib.hid hI
                clear hI hv
                have dn1 : decide ((1 : Int) ≤ (j : Int)) = true := by simp; omega
                have dn50 : decide ((j : Int) ≤ 50) = false := by simp; omega
                go_wp2_with fail
                refine HDg.out.mono ?_
                rintro e w' ⟨rfl, rfl⟩
                go_wp2_with fail
                refine (HIs.out).mono ?_
                rintro e W9 ⟨rfl, hb9⟩
                go_wp2_with fail
                go_ret
                exact ⟨by simp, HBW.out.trans (hb9.mono HBW.out.size)⟩
            · have hv : decide (1 ≤ j) = false := decide_eq_false cn1
              rw [hv] at hI
              simp only [Bool.false_and, Bool.and_false] at hI
              have HIs := Lib.hid hI
              clear hI hv
              have dn1 : decide ((1 : Int) ≤ (j : Int)) = false := by simp; omega
              go_wp2_with fail
              refine HDg.out.mono ?_
              rintro e w' ⟨rfl, rfl⟩
              go_wp2_with fail
              refine (HIs.out).mono ?_
              rintro e W9 ⟨rfl, hb9⟩
              go_wp2_with fail
              go_ret
              exact ⟨by simp, HBW.out.trans (hb9.mono HBW.out.size)⟩
          · have hno1 : ¬ 9223372036854775807 < (⟨#[58]⟩ : ByteArray).size + (ofL D).size := by
              have : (⟨#[58]⟩ : ByteArray).size = 1 := rfl
              rw [hld]
              omega
            have hno2 : ¬ 9223372036854775807 < X.size + ((⟨#[58]⟩ : ByteArray) ++ ofL D).size := by
              have : (⟨#[58]⟩ : ByteArray).size = 1 := rfl
              rw [ByteArray.size_append, hld]
              omega
            have hXd : X ++ (⟨#[58]⟩ ++ ofL D) = ofL (madeL sg (letsA j) (letsH i) (some D)) := by
              rw [← hX, show (⟨#[58]⟩ : ByteArray) = ofL [58] from rfl, ofL_append, ofL_append, madeL, tailL]
              simp
            have hI := HI.out k (X ++ (⟨#[58]⟩ ++ ofL D)) W1 hbW (by
              have : (⟨#[58]⟩ : ByteArray).size = 1 := rfl
              rw [ByteArray.size_append, ByteArray.size_append, hld]
              omega)
            rw [hXd, hmade (some D) (fun z h => by cases h; exact hD1), ← hXd, portOk] at hI
            have dp : decide ((0 : Int) < (p : Int)) = true := by simp; omega
            have dq : ((p : Int) == 0) = false := by rw [beq_eq_false_iff_ne]; omega
            have HBW := Lib.hid hbW
            clear hmade hXd hX hbW hL hk hk0 hD
            by_cases cn1 : 1 ≤ j
            · by_cases cn50 : j ≤ 50
              · by_cases cm1 : 1 ≤ i
                · by_cases cm50 : i ≤ 50
                  · by_cases c5 : D.length ≤ 5
                    · rw [decide_eq_true cn1, decide_eq_true cn50, decide_eq_true cm1, decide_eq_true cm50, decide_eq_true hD2, decide_eq_true c5] at hI
                      simp only [Bool.and_true, Bool.true_and] at hI
                      have d5 : decide (D.length ≤ 5) = true := by simp; omega
                      have d5i : decide ((D.length : Int) ≤ 5) = true := by simp; omega
                      have HIs := Lib.hid hI
                      clear hI
                      have dn1 : decide ((1 : Int) ≤ (j : Int)) = true := by simp; omega
                      have dn50 : decide ((j : Int) ≤ 50) = true := by simp; omega
                      have dm1 : decide ((1 : Int) ≤ (i : Int)) = true := by simp; omega
                      have dm50 : decide ((i : Int) ≤ 50) = true := by simp; omega
                      go_wp2_with fail
                      refine HDg.out.mono ?_
                      rintro e w' ⟨rfl, rfl⟩
                      go_wp2_with fail
                      refine (HIs.out).mono ?_
                      rintro e W9 ⟨rfl, hb9⟩
                      go_wp2_with fail
                      go_ret
                      exact ⟨by simp, HBW.out.trans (hb9.mono HBW.out.size)⟩
                    · rw [decide_eq_true cn1, decide_eq_true cn50, decide_eq_true cm1, decide_eq_true cm50, decide_eq_true hD2, decide_eq_false c5] at hI
                      simp only [Bool.and_true, Bool.true_and] at hI
                      have d5 : decide (D.length ≤ 5) = false := by simp; omega
                      have d5i : decide ((D.length : Int) ≤ 5) = false := by simp; omega
                      have HIs := Lib.hid hI
                      clear hI
                      have dn1 : decide ((1 : Int) ≤ (j : Int)) = true := by simp; omega
                      have dn50 : decide ((j : Int) ≤ 50) = true := by simp; omega
                      have dm1 : decide ((1 : Int) ≤ (i : Int)) = true := by simp; omega
                      have dm50 : decide ((i : Int) ≤ 50) = true := by simp; omega
                      go_wp2_with fail
                      refine HDg.out.mono ?_
                      rintro e w' ⟨rfl, rfl⟩
                      go_wp2_with fail
                      refine (HIs.out).mono ?_
                      rintro e W9 ⟨rfl, hb9⟩
                      go_wp2_with fail
                      go_ret
                      exact ⟨by simp, HBW.out.trans (hb9.mono HBW.out.size)⟩
                  · have hv : decide (i ≤ 50) = false := decide_eq_false cm50
                    rw [hv] at hI
                    simp only [Bool.false_and, Bool.and_false] at hI
                    have HIs := Lib.hid hI
                    clear hI hv
                    have dn1 : decide ((1 : Int) ≤ (j : Int)) = true := by simp; omega
                    have dn50 : decide ((j : Int) ≤ 50) = true := by simp; omega
                    have dm1 : decide ((1 : Int) ≤ (i : Int)) = true := by simp; omega
                    have dm50 : decide ((i : Int) ≤ 50) = false := by simp; omega
                    go_wp2_with fail
                    refine HDg.out.mono ?_
                    rintro e w' ⟨rfl, rfl⟩
                    go_wp2_with fail
                    refine (HIs.out).mono ?_
                    rintro e W9 ⟨rfl, hb9⟩
                    go_wp2_with fail
                    go_ret
                    exact ⟨by simp, HBW.out.trans (hb9.mono HBW.out.size)⟩
                · have hv : decide (1 ≤ i) = false := decide_eq_false cm1
                  rw [hv] at hI
                  simp only [Bool.false_and, Bool.and_false] at hI
                  have HIs := Lib.hid hI
                  clear hI hv
                  have dn1 : decide ((1 : Int) ≤ (j : Int)) = true := by simp; omega
                  have dn50 : decide ((j : Int) ≤ 50) = true := by simp; omega
                  have dm1 : decide ((1 : Int) ≤ (i : Int)) = false := by simp; omega
                  go_wp2_with fail
                  refine HDg.out.mono ?_
                  rintro e w' ⟨rfl, rfl⟩
                  go_wp2_with fail
                  refine (HIs.out).mono ?_
                  rintro e W9 ⟨rfl, hb9⟩
                  go_wp2_with fail
                  go_ret
                  exact ⟨by simp, HBW.out.trans (hb9.mono HBW.out.size)⟩
              · have hv : decide (j ≤ 50) = false := decide_eq_false cn50
                rw [hv] at hI
                simp only [Bool.false_and, Bool.and_false] at hI
                have HIs := Lib.hid hI
                clear hI hv
                have dn1 : decide ((1 : Int) ≤ (j : Int)) = true := by simp; omega
                have dn50 : decide ((j : Int) ≤ 50) = false := by simp; omega
                go_wp2_with fail
                refine HDg.out.mono ?_
                rintro e w' ⟨rfl, rfl⟩
                go_wp2_with fail
                refine (HIs.out).mono ?_
                rintro e W9 ⟨rfl, hb9⟩
                go_wp2_with fail
                go_ret
                exact ⟨by simp, HBW.out.trans (hb9.mono HBW.out.size)⟩
            · have hv : decide (1 ≤ j) = false := decide_eq_false cn1
              rw [hv] at hI
              simp only [Bool.false_and, Bool.and_false] at hI
              have HIs := Lib.hid hI
              clear hI hv
              have dn1 : decide ((1 : Int) ≤ (j : Int)) = false := by simp; omega
              go_wp2_with fail
              refine HDg.out.mono ?_
              rintro e w' ⟨rfl, rfl⟩
              go_wp2_with fail
              refine (HIs.out).mono ?_
              rintro e W9 ⟨rfl, hb9⟩
              go_wp2_with fail
              go_ret
              exact ⟨by simp, HBW.out.trans (hb9.mono HBW.out.size)⟩
end Go.Proofs.Ytakibkbmikkpdaa
