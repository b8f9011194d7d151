/-
  What value.Check answers: nil of a right value; else the first error, wrapped by the keys and numbers on the way to it (chk). Conditions: the value lies in memory, no text or list of it is longer than 1000000.
-/
import Derived.Test.YtpehddbpingobaaDoorVals
import Derived.Shelf.GgClosure.Gives
import Derived.Deep.QuietTactic
import Derived.BigQuiet
namespace Go.Proofs.YtpehddbpingobaaDoor
open Go.RowKit Go.Lib

theorem Glob.below {w w' : World} (h : Glob w) (hb : Below w.heap.size w w') : Glob w' := by
  obtain ⟨h1, h2, h3⟩ := h
  refine ⟨?_, ⟨fun c hc => ?_, fun i hi => ⟨?_, ?_⟩⟩, ?_⟩
  · exact h1.below hb
  · rw [hb.cell (lt_of_cell (h2.1 c hc))]; exact h2.1 c hc
  · rw [hb.cell (lt_of_cell (h2.2 i hi).1)]; exact (h2.2 i hi).1
  · rw [hb.cell (lt_of_cell (h2.2 i hi).2)]; exact (h2.2 i hi).2
  · have hg : Tryd.prog.globalNamed "internal/strconv.uint64pow10" = some 3 := by kernel_rfl
    have hl := lt_of_cell (h3.cell hg 0 (by decide))
    exact var?_below hb hg hl h3

theorem valid_any (s : ByteArray) (w : World) (hs : s.size ≤ 9223372036854775807) (hG : Glob w) :
    Calls Tryd.prog 46 #[.string s] w fun e w' => e = .returned (.bool (validB s)) ∧ Below w.heap.size w w' :=
  Any.utf8_ValidString Tryd.laysValid s w hs hG.2.1
theorem itoa_any (i : Nat) (w : World) (hi : i ≤ 9223372036854775807) (hG : Glob w) :
    Calls Tryd.prog 34 #[.int .i64 i] w fun e w' => e = .returned (.string (itoaB i)) ∧ Below w.heap.size w w' :=
  (Tryd.strconv_Itoa i (by omega) (by omega) w hG.2.2).mono fun _ _ ⟨he, k, os, hw⟩ => ⟨he, hw ▸ below_grown w k os⟩

theorem within_any (s : ByteArray) (l : List (Int × ByteArray)) (c : Int) (v : Value) (w : World) (h : Chain w l c v) :
    Calls Tryd.prog 23 #[.string s, v] w fun e w' => (∃ v', e = .returned v' ∧ Chain w' ((-1, s) :: l) c v') ∧ Below w.heap.size w w' := by
  have HC := Lib.hid h
  obtain ⟨T, x, rfl⟩ := h.held
  clear h
  go_enter Tryd.func23, Tryd.ntmps23
  go_wp2
  go_ret
  exact ⟨⟨_, rfl, _, _, rfl, by simp, by simp, by simp, HC.out.below ((Below.refl _ _).alloc (Nat.le_refl _) _)⟩, (Below.refl _ _).alloc (Nat.le_refl _) _⟩

/-- An answer of a check: nil, or a chain of faults. -/
def Ans (r : Option (List ByteArray × Int)) (w : World) (e : Ending) (w' : World) : Prop :=
  Below w.heap.size w w' ∧ ((r = none ∧ e = .returned .nilIface) ∨ ∃ p c v, r = some (p, c) ∧ e = .returned v ∧ Chain w' (p.map fun s => (-1, s)) c v)

theorem checkKey_none (s : ByteArray) (A : Option Addr) (c : Nat) (w : World) (hs : s.size ≤ 1000000) (hG : Glob w) :
    Calls Tryd.prog 70 #[.string s, .slice A 0 c] w (Ans ((chkKey s none).map fun c => ([], c)) w) := by
  have hv := Lib.hid (valid_any s w (by omega) hG)
  unfold chkKey
  generalize validB s = B at hv
  cases B
  all_goals
    go_enter Tryd.func70, Tryd.ntmps70
    go_wp2_with fail
    refine hv.out.mono ?_
    rintro e w' ⟨rfl, hb⟩
    go_wp2_with fail
    go_ret
  · exact ⟨hb, .inr ⟨[], 5, _, by simp, rfl, rfl⟩⟩
  · exact ⟨hb, .inl ⟨by simp, rfl⟩⟩

theorem checkKey_some (s q : ByteArray) (b off n c : Nat) (w : World) (hs : s.size ≤ 1000000) (hn : n ≤ 1000000) (hq : w.cell? ⟨b, off + n * 7, none⟩ = some (.string q)) (hG : Glob w) :
    Calls Tryd.prog 70 #[.string s, .slice (some ⟨b, off, none⟩) (n + 1) c] w (Ans ((chkKey s (some q)).map fun c => ([], c)) w) := by
  have hv := Lib.hid (valid_any s w (by omega) hG)
  have hbl := lt_of_cell hq
  have hn0 : (((n : Int) + 1) == 0) = false := by rw [beq_eq_false_iff_ne]; omega
  obtain ⟨r, hr⟩ : ∃ r, (chkKey s (some q)).map (fun c => (([] : List ByteArray), c)) = r := ⟨_, rfl⟩
  rw [hr]
  have HR := Lib.hid hr
  clear hr
  cases hB : validB s
  · rw [hB] at hv
    have HB := Lib.hid hB
    clear hB
    go_enter Tryd.func70, Tryd.ntmps70
    go_wp2_with fail
    refine hv.out.mono ?_
    rintro e w' ⟨rfl, hb⟩
    go_wp2_with fail
    go_ret
    exact ⟨hb, .inr ⟨[], 5, _, by rw [← HR.out]; simp [chkKey, HB.out], rfl, rfl⟩⟩
  · rw [hB] at hv
    have HB := Lib.hid hB
    clear hB
    by_cases h1 : s.toList = q.toList
    · have h1b : (s.toList == q.toList) = true := by simp [h1]
      have H1 := Lib.hid h1
      clear h1
      go_enter Tryd.func70, Tryd.ntmps70
      go_wp2_with fail
      refine hv.out.mono ?_
      rintro e w' ⟨rfl, hb⟩
      have hq' : w'.cell? ⟨b, off + n * 7, none⟩ = some (.string q) := (hb.cell hbl).trans hq
      clear hq
      go_wp2_with fail
      go_ret
      exact ⟨hb, .inr ⟨[], 6, _, by rw [← HR.out]; simp [chkKey, HB.out, H1.out], rfl, rfl⟩⟩
    · have h1b : (s.toList == q.toList) = false := by simp [h1]
      have H1 := Lib.hid h1
      clear h1
      cases h2 : Op.bytesLess s.toList q.toList
      · have H2 := Lib.hid h2
        go_enter Tryd.func70, Tryd.ntmps70
        go_wp2_with fail
        refine hv.out.mono ?_
        rintro e w' ⟨rfl, hb⟩
        have hq' : w'.cell? ⟨b, off + n * 7, none⟩ = some (.string q) := (hb.cell hbl).trans hq
        clear hq
        go_wp2_with fail
        go_ret
        exact ⟨hb, .inl ⟨by rw [← HR.out]; simp [chkKey, HB.out, H1.out, bytesLt, H2.out], rfl⟩⟩
      · have H2 := Lib.hid h2
        go_enter Tryd.func70, Tryd.ntmps70
        go_wp2_with fail
        refine hv.out.mono ?_
        rintro e w' ⟨rfl, hb⟩
        have hq' : w'.cell? ⟨b, off + n * 7, none⟩ = some (.string q) := (hb.cell hbl).trans hq
        clear hq
        go_wp2_with fail
        go_ret
        exact ⟨hb, .inr ⟨[], 1, _, by rw [← HR.out]; simp [chkKey, HB.out, H1.out, bytesLt, H2.out], rfl, rfl⟩⟩
end Go.Proofs.YtpehddbpingobaaDoor
