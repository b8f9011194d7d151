/-
  The document's Digits, Err and In (package enfiladeref01): a number's digits are strconv.Itoa's; an error of a code; an error within a field.
-/
import Derived.Test.YtpehddbpingobaaDoorUtf8
import Derived.Test.YtpehddbpingobaaDoorCheck4
namespace Go.Proofs.YtpehddbpingobaaDoor
open Go.RowKit Go.Lib
set_option linter.unusedVariables false
set_option linter.unusedSimpArgs false

def dig (d : Nat) : ByteArray := ⟨#[UInt8.ofNat (48 + d)]⟩
theorem dig_size (d : Nat) : (dig d).size = 1 := rfl
theorem ten_cut : ∀ d : Fin 10, (ByteArray.mk #[48, 49, 50, 51, 52, 53, 54, 55, 56, 57]).extract d.val (d.val + 1) = ⟨#[UInt8.ofNat (48 + d.val)]⟩ := by decide
theorem data_append (a b : ByteArray) : (a ++ b).data.toList = a.data.toList ++ b.data.toList := by rw [ByteArray.data_append]; simp
theorem dec_big {m : Nat} (h : ¬ m < 10) : decDigits m = decDigits (m / 10) ++ [UInt8.ofNat (48 + m % 10)] := by rw [decDigits, dif_neg h]
def DigRel (n : Nat) (w : World) (k : Nat) (u t : Value) (wr : World) : Prop := ∃ (m : Nat) (s : ByteArray), m = k ∧ u = .int .i64 m ∧ t = .string s ∧ decDigits m ++ s.data.toList = decDigits n ∧ m ≤ 9223372036854775807 ∧ s.size + m ≤ 9223372036854775806 ∧ w = wr

theorem run_ten (w : World) (a b : Int) (d : Nat) (hd : d < 10) (ha : a = d) (hb : b = d + 1) :
    (Instr.slice 9 (.string ⟨#[48, 49, 50, 51, 52, 53, 54, 55, 56, 57]⟩) (some (.int .i64 a)) (some (.int .i64 b)) none).run Tryd.prog w = .ok (.string (dig d)) w := by
  subst ha; subst hb
  have hz : (ByteArray.mk #[48, 49, 50, 51, 52, 53, 54, 55, 56, 57]).size = 10 := rfl
  rw [run_slice_string (h := Tryd.underlying9) (h0 := by omega) (h1 := by omega) (h2 := by rw [hz]; omega)]
  have e1 : ((d : Int)).toNat = d := by omega
  have e2 : ((d : Int) + 1).toNat = d + 1 := by omega
  rw [e1, e2, ten_cut ⟨d, hd⟩]; rfl

set_option maxRecDepth 100000 in
set_option maxHeartbeats 4000000 in
theorem digits_any (n : Nat) (w : World) (hn : n ≤ 9223372036854775806) :
    Calls Tryd.prog 30 #[.int .i64 n] w fun e w' => e = .returned (.string (itoaB n)) ∧ w = w' := by
  go_enter Tryd.func30, Tryd.ntmps30
  go_wp2_with fail
  go_loopg [0, 3] n (DigRel n w)
  case atStart => exact ⟨n, ⟨#[]⟩, rfl, rfl, rfl, by simp, by omega, by have h0 : (ByteArray.mk #[]).size = 0 := rfl; omega, rfl⟩
  case round =>
    obtain ⟨m, s, rfl, rfl, rfl, hd, hm, hs, rfl⟩ := hrel
    have HD := Lib.hid hd
    clear hd
    by_cases h10 : 10 ≤ m
    · have hsl := run_ten w ((m : Int) % 10) ((m : Int) % 10 + 1) (m % 10) (Nat.mod_lt _ (by omega)) (by omega) (by omega)
      have hs1 := dig_size (m % 10)
      go_wp2_with fail
      go_roundg (m / 10)
      case rel =>
        refine ⟨m / 10, dig (m % 10) ++ s, rfl, by go_num, rfl, ?_, by omega, by rw [ByteArray.size_append, hs1]; omega, rfl⟩
        rw [← HD.out, data_append, ← List.append_assoc]
        congr 1
        exact (dec_big (m := m) (by omega)).symm
      case measure => omega
    · have hsl := run_ten w (m : Int) ((m : Int) + 1) m (by omega) rfl rfl
      have hs1 := dig_size m
      go_wp2_with fail
      go_ret
      refine ⟨congrArg (fun x => Ending.returned (Value.string x)) (ByteArray.ext (Array.ext' ?_)), rfl⟩
      rw [data_append]
      show _ = Lib.itoa (n : Int)
      rw [itoa_nonneg, ← HD.out, decDigits_one (by omega)]
      rfl

theorem err_any (c : Int) (w : World) : Calls Tryd.prog 27 #[.int .i64 c] w fun e w' => e = .returned (.agg #[.int .i64 c, .int .i64 (-1), .string ⟨#[]⟩]) ∧ Below w.heap.size w w' := by
  go_enter Tryd.func27, Tryd.ntmps27
  go_wp2
  exact bodyPost_ret (v := .agg #[.int .i64 c, .int .i64 (-1), .string ⟨#[]⟩]) (by simp [results, Tryd.results27, go_sem]) rfl ⟨rfl, (Below.refl _ _).alloc (Nat.le_refl _) _⟩

/-- An answer within a field. -/
def inPath (f : ByteArray) (c : Int) (p : ByteArray) : ByteArray := if c = 0 then p else (⟨#[47]⟩ ++ f) ++ p
theorem in_any (f p : ByteArray) (c n : Int) (w : World) (hf : f.size ≤ 1000000000) (hp : p.size ≤ 1000000000) :
    Calls Tryd.prog 29 #[.string f, .agg #[.int .i64 c, .int .i64 n, .string p]] w fun e w' => e = .returned (.agg #[.int .i64 c, .int .i64 n, .string (inPath f c p)]) ∧ Below w.heap.size w w' := by
  unfold inPath
  by_cases hc : c = 0
  · subst hc
    rw [if_pos rfl]
    go_enter Tryd.func29, Tryd.ntmps29
    go_wp2
    exact bodyPost_ret (v := .agg #[.int .i64 0, .int .i64 n, .string p]) (by simp [results, Tryd.results29, go_sem]) rfl ⟨rfl, by
      repeat (first | exact Below.refl _ _ | refine Below.setCell ?_ (by simp <;> omega) _ | refine Below.alloc ?_ (by simp <;> omega) _ | refine Below.drew ?_)⟩
  · have hc' : (c != 0) = true := by simpa using hc
    rw [if_neg hc]
    clear hc
    go_enter Tryd.func29, Tryd.ntmps29
    go_wp2
    exact bodyPost_ret (v := .agg #[.int .i64 c, .int .i64 n, .string ((⟨#[47]⟩ ++ f) ++ p)]) (by simp [results, Tryd.results29, go_sem]) rfl ⟨rfl, by
      repeat (first | exact Below.refl _ _ | refine Below.setCell ?_ (by simp <;> omega) _ | refine Below.alloc ?_ (by simp <;> omega) _ | refine Below.drew ?_)⟩
end Go.Proofs.YtpehddbpingobaaDoor
