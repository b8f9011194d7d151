/-
  Pieces: which field is wrong first, by the program; whether two are beside each other.
-/
import Derived.Test.YtmejpjknofbffaaDoorProg
import Derived.Test.YtmejpjknofbffaaDoorRe0
import Derived.WalkKit
import Derived.Lib.Hide
import Derived.Below
import Derived.IntWalk
import Derived.Deep.MidRow
import Derived.KernelRfl
import Derived.Test.YtmejpjknofbffaaDoorAs
namespace Go.Proofs.YtmejpjknofbffaaDoor
open Go.RowKit Go.Lib
set_option linter.unusedVariables false
set_option linter.unusedSimpArgs false

/-- A piece as the program's value, its data in a slice; as the document's. -/
def Pc.pv (p : Pc) (A : Option Addr) (c : Nat) : Value := .agg #[.int .i64 p.kd, .int .i64 p.ep, .int .i64 p.nu, .int .i64 p.pa, .int .i64 p.ps, .slice A p.da.length c]
def Pc.dv (p : Pc) : Value := .agg #[.int .i64 p.kd, .int .i64 p.ep, .int .i64 p.nu, .int .i64 p.pa, .int .i64 p.ps, .string ⟨p.da.toArray⟩]
def fieldOf : Nat → ByteArray
  | 1 => ⟨#[107, 105, 110, 100]⟩
  | 2 => ⟨#[101, 112, 111, 99, 104]⟩
  | 3 => ⟨#[110, 117, 109, 98, 101, 114]⟩
  | 4 => ⟨#[112, 97, 114, 116, 115]⟩
  | 5 => ⟨#[112, 97, 114, 116]⟩
  | 6 => ⟨#[100, 97, 116, 97]⟩
  | _ => ⟨#[]⟩
/-- Its numbers are ints. -/
structure Pc.Fit (p : Pc) : Prop where
  k : -9223372036854775808 ≤ p.kd ∧ p.kd ≤ 9223372036854775807
  e : -9223372036854775808 ≤ p.ep ∧ p.ep ≤ 9223372036854775807
  n : -9223372036854775808 ≤ p.nu ∧ p.nu ≤ 9223372036854775807
  a : -9223372036854775808 ≤ p.pa ∧ p.pa ≤ 9223372036854775807
  s : -9223372036854775808 ≤ p.ps ∧ p.ps ≤ 9223372036854775807
  d : p.da.length ≤ 9223372036854775807
set_option maxHeartbeats 4000000 in
set_option maxRecDepth 100000 in
theorem rwrong_any (p : Pc) (A : Option Addr) (c : Nat) (w : World) (hf : p.Fit) :
    Calls Tryd.prog 20 #[p.pv A c] w fun e w' => e = .returned (.string (fieldOf p.bad)) ∧ Below w.heap.size w w' := by
  obtain ⟨kd, ep, nu, pa, ps, da⟩ := p
  obtain ⟨hk, he, hn, ha, hs, hd⟩ := hf
  simp only at hk he hn ha hs hd
  unfold Pc.pv
  simp only
  obtain ⟨l, hl⟩ : ∃ l : Nat, da.length = l := ⟨_, rfl⟩
  obtain ⟨B, hB⟩ : ∃ B, fieldOf (Pc.bad ⟨kd, ep, nu, pa, ps, da⟩) = B := ⟨_, rfl⟩
  rw [hB]
  unfold Pc.bad at hB
  simp only [hl] at hB
  rw [hl] at hd ⊢
  have HB := Lib.hid hB
  clear hB
  go_enter Tryd.func20, Tryd.ntmps20
  go_wp2_with fail
  all_goals go_ret
  all_goals refine ⟨?_, (Below.refl _ _).alloc (Nat.le_refl _) _⟩
  all_goals rw [← HB.out]
  all_goals clear HB hk he hn ha hs hd
  all_goals
    first
    | (rw [if_pos (by omega)]; rfl)
    | (rw [if_neg (by omega), if_pos (by omega)]; rfl)
    | (rw [if_neg (by omega), if_neg (by omega), if_pos (by omega)]; rfl)
    | (rw [if_neg (by omega), if_neg (by omega), if_neg (by omega), if_pos (by omega)]; rfl)
    | (rw [if_neg (by omega), if_neg (by omega), if_neg (by omega), if_neg (by omega), if_pos (by omega)]; rfl)
    | (rw [if_neg (by omega), if_neg (by omega), if_neg (by omega), if_neg (by omega), if_neg (by omega), if_pos (by omega)]; rfl)
    | (rw [if_neg (by omega), if_neg (by omega), if_neg (by omega), if_neg (by omega), if_neg (by omega), if_neg (by omega)]; rfl)
theorem fieldOf_ne {p : Pc} (h : p.bad ≠ 0) : fieldOf p.bad ≠ ⟨#[]⟩ := by
  unfold Pc.bad at h ⊢
  split
  · decide
  split
  · decide
  split
  · decide
  split
  · decide
  split
  · decide
  split
  · decide
  · rename_i h1 h2 h3 h4 h5 h6
    rw [if_neg h1, if_neg h2, if_neg h3, if_neg h4, if_neg h5, if_neg h6] at h
    exact absurd rfl h
theorem fieldOf_ie {p : Pc} (h : p.bad ≠ 0) : (fieldOf p.bad).toList.isEmpty = false := isEmpty_ne (fieldOf_ne h)
/-- What Check answers. -/
def ChkAns (p : Pc) (w' : World) (ev : Value) : Prop := (p.bad = 0 ∧ ev = .nilIface) ∨ (p.bad ≠ 0 ∧ Chain w' [(-1, fieldOf p.bad)] 8 ev)
set_option maxHeartbeats 1000000 in
set_option maxRecDepth 100000 in
theorem rcheck_any (p : Pc) (A : Option Addr) (c : Nat) (w : World) (hf : p.Fit) :
    Calls Tryd.prog 9 #[p.pv A c] w fun e w' => ∃ ev, e = .returned ev ∧ ChkAns p w' ev ∧ Below w.heap.size w w' := by
  have HW := Lib.hid (fun W => rwrong_any p A c W hf)
  have hz : p.bad = 0 → fieldOf p.bad = ⟨#[]⟩ := fun h => by rw [h]; rfl
  have hnz := fieldOf_ie (p := p)
  obtain ⟨F, hF⟩ : ∃ F, fieldOf p.bad = F := ⟨_, rfl⟩
  unfold ChkAns
  rw [hF] at hz hnz HW
  simp only [hF]
  obtain ⟨v, hv⟩ : ∃ v, p.pv A c = v := ⟨_, rfl⟩
  rw [hv] at HW ⊢
  unfold Pc.pv at hv
  by_cases h0 : p.bad = 0
  · have hF0 := hz h0
    subst hF0
    clear hnz hz hF
    subst hv
    have H0 := Lib.hid h0
    clear h0
    go_enter Tryd.func9, Tryd.ntmps9
    go_wp2_with fail
    refine (HW.out _).mono ?_
    rintro e W1 ⟨rfl, hb1⟩
    have HB := Lib.hid hb1
    clear hb1
    go_wp2_with fail
    go_ret
    exact ⟨_, rfl, Or.inl ⟨H0.out, rfl⟩, ((Below.refl _ _).alloc (Nat.le_refl _) _).trans (HB.out.mono (by simp))⟩
  · have hne := hnz h0
    clear hnz hz hF
    subst hv
    have H0 := Lib.hid h0
    clear h0
    go_enter Tryd.func9, Tryd.ntmps9
    go_wp2_with fail
    refine (HW.out _).mono ?_
    rintro e W1 ⟨rfl, hb1⟩
    have HB := Lib.hid hb1
    clear hb1
    go_wp2_with fail
    go_ret
    refine ⟨_, rfl, Or.inr ⟨H0.out, _, _, rfl, ?_, ?_, ?_, rfl⟩, (((Below.refl _ _).alloc (Nat.le_refl _) _).trans (HB.out.mono (by simp))).alloc ?_ _⟩
    · simp
    · simp
    · simp
    · have := HB.out.size
      simp at this
      omega
end Go.Proofs.YtmejpjknofbffaaDoor
