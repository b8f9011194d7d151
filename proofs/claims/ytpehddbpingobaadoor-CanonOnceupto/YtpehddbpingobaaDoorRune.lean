/-
  The document's Rune (package enfiladeref01), walked: its answer is the decoder's (RuneOK).
-/
import Derived.Test.YtpehddbpingobaaDoorRunePure
import Derived.Test.YtpehddbpingobaaDoorRows
import Derived.WalkKit
import Derived.Lib.Hide
import Derived.Deep.LoopGhost
import Derived.Outline
namespace Go.Proofs.YtpehddbpingobaaDoor
open Go.RowKit Go.Lib
set_option linter.unusedVariables false
set_option linter.unusedSimpArgs false

theorem size_of_nilR {s : ByteArray} (h : s.toList = []) : s.size = 0 := by
  rw [Go.ByteArray.toList_eq] at h
  have := congrArg List.length h
  rw [Array.length_toList] at this
  exact this
def RunePost (s : ByteArray) (w : World) (e : Ending) (w' : World) : Prop := ∃ n k : Int, e = .returned (.tuple #[.int .i64 n, .int .i64 k]) ∧ RuneOK s n k ∧ w = w'
theorem isEmpty_of {s : ByteArray} (h0 : 0 < s.size) : s.toList.isEmpty = false := by
  cases h : s.toList with
  | nil => have := size_of_nilR h; omega
  | cons => rfl
theorem byte_lt (b : UInt8) : b.toNat < 256 := b.toNat_lt

theorem rune_empty (s : ByteArray) (w : World) (h0 : s.toList.isEmpty = true) :
    Calls Tryd.prog 45 #[.string s] w fun e w' => e = .returned (.tuple #[.int .i64 0, .int .i64 0]) ∧ w = w' := by
  go_enter Tryd.func45, Tryd.ntmps45
  go_wp2_with fail
  go_ret2
  exact ⟨rfl, rfl⟩

set_option maxRecDepth 100000 in
set_option maxHeartbeats 4000000 in
theorem rune_1 (s : ByteArray) (w : World) (hs : s.size ≤ 9223372036854775807) (h0 : 0 < s.size) (hx : (s[0].toNat : Int) < 128) :
    Calls Tryd.prog 45 #[.string s] w (RunePost s w) := by
  have hne := isEmpty_of h0
  go_enter Tryd.func45, Tryd.ntmps45
  go_wp2_with fail
  go_ret2
  exact ⟨_, _, rfl, rune1_ok s h0 (by omega), rfl⟩

set_option maxRecDepth 100000 in
set_option maxHeartbeats 4000000 in
theorem rune_0 (s : ByteArray) (w : World) (hs : s.size ≤ 9223372036854775807) (h0 : 0 < s.size) (hx : 128 ≤ (s[0].toNat : Int)) (hy : (s[0].toNat : Int) < 194 ∨ 245 ≤ (s[0].toNat : Int)) :
    Calls Tryd.prog 45 #[.string s] w (RunePost s w) := by
  have hne := isEmpty_of h0
  have hb := byte_lt s[0]
  have HB := Lib.hid (rune0_bad s h0 (by omega))
  rcases hy with hy | hy
  all_goals
    go_enter Tryd.func45, Tryd.ntmps45
    go_wp2_with fail
    go_ret2
    exact ⟨_, _, rfl, HB.out, rfl⟩

def RuneRel2 (s : ByteArray) (w : World) (hz : 2 ≤ s.size) (k : Nat) (n i : Value) (wr : World) : Prop := (k = 2 ∧ n = .int .i64 ((s[0].toNat : Int) - 192) ∧ i = .int .i64 1 ∧ (True) ∧ w = wr) ∨ (k = 1 ∧ n = .int .i64 (((s[0].toNat : Int) - 192) * 64 + (s[1].toNat : Int) - 128) ∧ i = .int .i64 2 ∧ ((128 ≤ s[1].toNat ∧ s[1].toNat ≤ 191) ∧ True) ∧ w = wr)

set_option maxRecDepth 100000 in
set_option maxHeartbeats 4000000 in
theorem rune_2 (s : ByteArray) (w : World) (hs : s.size ≤ 9223372036854775807) (h0 : 0 < s.size) (hx : 194 ≤ (s[0].toNat : Int)) (hy : (s[0].toNat : Int) < 224) :
    Calls Tryd.prog 45 #[.string s] w (RunePost s w) := by
  have hne := isEmpty_of h0
  have H0 : Hid (194 ≤ s[0].toNat ∧ s[0].toNat < 224) := ⟨by omega, by omega⟩
  by_cases hz : 2 ≤ s.size
  · have hz' : (2 : Int) ≤ s.size := by omega
    have hb0 := byte_lt s[0]
    have hb1 := byte_lt s[1]
    go_enter Tryd.func45, Tryd.ntmps45
    go_wp2_with fail
    go_loopg [6, 8] 2 (RuneRel2 s w hz)
    case atStart => exact .inl ⟨rfl, rfl, rfl, trivial, rfl⟩
    case round =>
      unfold RuneRel2 at hrel
      rcases hrel with ⟨rfl, rfl, rfl, hc, rfl⟩ | ⟨rfl, rfl, rfl, hc, rfl⟩
      · obtain ⟨-⟩ := hc
        by_cases t1 : (s[1].toNat : Int) < 128
        · go_wp2_with fail
          go_ret2
          exact ⟨_, _, rfl, rune2_bad s hz H0.out (by omega), rfl⟩
        by_cases t2 : 191 < (s[1].toNat : Int)
        · go_wp2_with fail
          go_ret2
          exact ⟨_, _, rfl, rune2_bad s hz H0.out (by omega), rfl⟩
        · go_wp2_with fail
          go_roundg 1
          case rel => exact .inr (⟨rfl, by go_num, rfl, ⟨⟨by omega, by omega⟩, trivial⟩, rfl⟩)
          case measure => omega
      · obtain ⟨hc1, -⟩ := hc
        go_wp2_with fail
        all_goals (go_ret2; exact ⟨_, _, rfl, rune2_ok s hz H0.out hc1, rfl⟩)
  · have hz' : ¬ (2 : Int) ≤ s.size := by omega
    go_enter Tryd.func45, Tryd.ntmps45
    go_wp2_with fail
    go_ret2
    exact ⟨_, _, rfl, rune_short2 s h0 H0.out (by omega), rfl⟩

def RuneRel3 (s : ByteArray) (w : World) (hz : 3 ≤ s.size) (k : Nat) (n i : Value) (wr : World) : Prop := (k = 3 ∧ n = .int .i64 ((s[0].toNat : Int) - 224) ∧ i = .int .i64 1 ∧ (True) ∧ w = wr) ∨ (k = 2 ∧ n = .int .i64 (((s[0].toNat : Int) - 224) * 64 + (s[1].toNat : Int) - 128) ∧ i = .int .i64 2 ∧ ((128 ≤ s[1].toNat ∧ s[1].toNat ≤ 191) ∧ True) ∧ w = wr) ∨ (k = 1 ∧ n = .int .i64 ((((s[0].toNat : Int) - 224) * 64 + (s[1].toNat : Int) - 128) * 64 + (s[2].toNat : Int) - 128) ∧ i = .int .i64 3 ∧ ((128 ≤ s[1].toNat ∧ s[1].toNat ≤ 191) ∧ (128 ≤ s[2].toNat ∧ s[2].toNat ≤ 191) ∧ True) ∧ w = wr)

set_option maxRecDepth 100000 in
set_option maxHeartbeats 4000000 in
theorem rune_3 (s : ByteArray) (w : World) (hs : s.size ≤ 9223372036854775807) (h0 : 0 < s.size) (hx : 224 ≤ (s[0].toNat : Int)) (hy : (s[0].toNat : Int) < 240) :
    Calls Tryd.prog 45 #[.string s] w (RunePost s w) := by
  have hne := isEmpty_of h0
  have H0 : Hid (224 ≤ s[0].toNat ∧ s[0].toNat < 240) := ⟨by omega, by omega⟩
  by_cases hz : 3 ≤ s.size
  · have hz' : (3 : Int) ≤ s.size := by omega
    have hb0 := byte_lt s[0]
    have hb1 := byte_lt s[1]
    have hb2 := byte_lt s[2]
    go_enter Tryd.func45, Tryd.ntmps45
    go_wp2_with fail
    go_loopg [6, 8] 3 (RuneRel3 s w hz)
    case atStart => exact .inl ⟨rfl, rfl, rfl, trivial, rfl⟩
    case round =>
      unfold RuneRel3 at hrel
      rcases hrel with ⟨rfl, rfl, rfl, hc, rfl⟩ | ⟨rfl, rfl, rfl, hc, rfl⟩ | ⟨rfl, rfl, rfl, hc, rfl⟩
      · obtain ⟨-⟩ := hc
        by_cases t1 : (s[1].toNat : Int) < 128
        · go_wp2_with fail
          go_ret2
          exact ⟨_, _, rfl, rune3_bad s hz H0.out (by omega), rfl⟩
        by_cases t2 : 191 < (s[1].toNat : Int)
        · go_wp2_with fail
          go_ret2
          exact ⟨_, _, rfl, rune3_bad s hz H0.out (by omega), rfl⟩
        · go_wp2_with fail
          go_roundg 2
          case rel => exact .inr (.inl ⟨rfl, by go_num, rfl, ⟨⟨by omega, by omega⟩, trivial⟩, rfl⟩)
          case measure => omega
      · obtain ⟨hc1, -⟩ := hc
        by_cases t1 : (s[2].toNat : Int) < 128
        · go_wp2_with fail
          go_ret2
          exact ⟨_, _, rfl, rune3_bad s hz H0.out (by omega), rfl⟩
        by_cases t2 : 191 < (s[2].toNat : Int)
        · go_wp2_with fail
          go_ret2
          exact ⟨_, _, rfl, rune3_bad s hz H0.out (by omega), rfl⟩
        · go_wp2_with fail
          go_roundg 1
          case rel => exact .inr (.inr (⟨rfl, by go_num, rfl, ⟨hc1, ⟨by omega, by omega⟩, trivial⟩, rfl⟩))
          case measure => omega
      · obtain ⟨hc1, hc2, -⟩ := hc
        go_wp2_with fail
        all_goals go_ret2
        all_goals first
          | (refine ⟨_, _, rfl, rune3_ok s hz H0.out hc1 hc2 ?_ ?_, rfl⟩ <;> omega)
          | (refine ⟨_, _, rfl, rune3_out s hz H0.out hc1 hc2 ?_, rfl⟩; omega)
  · have hz' : ¬ (3 : Int) ≤ s.size := by omega
    go_enter Tryd.func45, Tryd.ntmps45
    go_wp2_with fail
    go_ret2
    exact ⟨_, _, rfl, rune_short3 s h0 H0.out (by omega), rfl⟩

def RuneRel4 (s : ByteArray) (w : World) (hz : 4 ≤ s.size) (k : Nat) (n i : Value) (wr : World) : Prop := (k = 4 ∧ n = .int .i64 ((s[0].toNat : Int) - 240) ∧ i = .int .i64 1 ∧ (True) ∧ w = wr) ∨ (k = 3 ∧ n = .int .i64 (((s[0].toNat : Int) - 240) * 64 + (s[1].toNat : Int) - 128) ∧ i = .int .i64 2 ∧ ((128 ≤ s[1].toNat ∧ s[1].toNat ≤ 191) ∧ True) ∧ w = wr) ∨ (k = 2 ∧ n = .int .i64 ((((s[0].toNat : Int) - 240) * 64 + (s[1].toNat : Int) - 128) * 64 + (s[2].toNat : Int) - 128) ∧ i = .int .i64 3 ∧ ((128 ≤ s[1].toNat ∧ s[1].toNat ≤ 191) ∧ (128 ≤ s[2].toNat ∧ s[2].toNat ≤ 191) ∧ True) ∧ w = wr) ∨ (k = 1 ∧ n = .int .i64 (((((s[0].toNat : Int) - 240) * 64 + (s[1].toNat : Int) - 128) * 64 + (s[2].toNat : Int) - 128) * 64 + (s[3].toNat : Int) - 128) ∧ i = .int .i64 4 ∧ ((128 ≤ s[1].toNat ∧ s[1].toNat ≤ 191) ∧ (128 ≤ s[2].toNat ∧ s[2].toNat ≤ 191) ∧ (128 ≤ s[3].toNat ∧ s[3].toNat ≤ 191) ∧ True) ∧ w = wr)

set_option maxRecDepth 100000 in
set_option maxHeartbeats 4000000 in
theorem rune_4 (s : ByteArray) (w : World) (hs : s.size ≤ 9223372036854775807) (h0 : 0 < s.size) (hx : 240 ≤ (s[0].toNat : Int)) (hy : (s[0].toNat : Int) < 245) :
    Calls Tryd.prog 45 #[.string s] w (RunePost s w) := by
  have hne := isEmpty_of h0
  have H0 : Hid (240 ≤ s[0].toNat ∧ s[0].toNat < 245) := ⟨by omega, by omega⟩
  by_cases hz : 4 ≤ s.size
  · have hz' : (4 : Int) ≤ s.size := by omega
    have hb0 := byte_lt s[0]
    have hb1 := byte_lt s[1]
    have hb2 := byte_lt s[2]
    have hb3 := byte_lt s[3]
    go_enter Tryd.func45, Tryd.ntmps45
    go_wp2_with fail
    go_loopg [6, 8] 4 (RuneRel4 s w hz)
    case atStart => exact .inl ⟨rfl, rfl, rfl, trivial, rfl⟩
    case round =>
      unfold RuneRel4 at hrel
      rcases hrel with ⟨rfl, rfl, rfl, hc, rfl⟩ | ⟨rfl, rfl, rfl, hc, rfl⟩ | ⟨rfl, rfl, rfl, hc, rfl⟩ | ⟨rfl, rfl, rfl, hc, rfl⟩
      · obtain ⟨-⟩ := hc
        by_cases t1 : (s[1].toNat : Int) < 128
        · go_wp2_with fail
          go_ret2
          exact ⟨_, _, rfl, rune4_bad s hz H0.out (by omega), rfl⟩
        by_cases t2 : 191 < (s[1].toNat : Int)
        · go_wp2_with fail
          go_ret2
          exact ⟨_, _, rfl, rune4_bad s hz H0.out (by omega), rfl⟩
        · go_wp2_with fail
          go_roundg 3
          case rel => exact .inr (.inl ⟨rfl, by go_num, rfl, ⟨⟨by omega, by omega⟩, trivial⟩, rfl⟩)
          case measure => omega
      · obtain ⟨hc1, -⟩ := hc
        by_cases t1 : (s[2].toNat : Int) < 128
        · go_wp2_with fail
          go_ret2
          exact ⟨_, _, rfl, rune4_bad s hz H0.out (by omega), rfl⟩
        by_cases t2 : 191 < (s[2].toNat : Int)
        · go_wp2_with fail
          go_ret2
          exact ⟨_, _, rfl, rune4_bad s hz H0.out (by omega), rfl⟩
        · go_wp2_with fail
          go_roundg 2
          case rel => exact .inr (.inr (.inl ⟨rfl, by go_num, rfl, ⟨hc1, ⟨by omega, by omega⟩, trivial⟩, rfl⟩))
          case measure => omega
      · obtain ⟨hc1, hc2, -⟩ := hc
        by_cases t1 : (s[3].toNat : Int) < 128
        · go_wp2_with fail
          go_ret2
          exact ⟨_, _, rfl, rune4_bad s hz H0.out (by omega), rfl⟩
        by_cases t2 : 191 < (s[3].toNat : Int)
        · go_wp2_with fail
          go_ret2
          exact ⟨_, _, rfl, rune4_bad s hz H0.out (by omega), rfl⟩
        · go_wp2_with fail
          go_roundg 1
          case rel => exact .inr (.inr (.inr (⟨rfl, by go_num, rfl, ⟨hc1, hc2, ⟨by omega, by omega⟩, trivial⟩, rfl⟩)))
          case measure => omega
      · obtain ⟨hc1, hc2, hc3, -⟩ := hc
        go_wp2_with fail
        all_goals go_ret2
        all_goals first
          | (refine ⟨_, _, rfl, rune4_ok s hz H0.out hc1 hc2 hc3 ?_ ?_, rfl⟩ <;> omega)
          | (refine ⟨_, _, rfl, rune4_out s hz H0.out hc1 hc2 hc3 ?_, rfl⟩; omega)
  · have hz' : ¬ (4 : Int) ≤ s.size := by omega
    go_enter Tryd.func45, Tryd.ntmps45
    go_wp2_with fail
    go_ret2
    exact ⟨_, _, rfl, rune_short4 s h0 H0.out (by omega), rfl⟩

theorem rune_any (s : ByteArray) (w : World) (hs : s.size ≤ 9223372036854775807) (h0 : 0 < s.size) :
    Calls Tryd.prog 45 #[.string s] w (RunePost s w) := by
  by_cases a1 : (s[0].toNat : Int) < 128
  · exact rune_1 s w hs h0 a1
  by_cases a2 : (s[0].toNat : Int) < 194
  · exact rune_0 s w hs h0 (by omega) (.inl a2)
  by_cases a3 : (s[0].toNat : Int) < 224
  · exact rune_2 s w hs h0 (by omega) a3
  by_cases a4 : (s[0].toNat : Int) < 240
  · exact rune_3 s w hs h0 (by omega) a4
  by_cases a5 : (s[0].toNat : Int) < 245
  · exact rune_4 s w hs h0 (by omega) a5
  · exact rune_0 s w hs h0 (by omega) (.inr (by omega))
end Go.Proofs.YtpehddbpingobaaDoor
