/-
  Pieces joined: what Join answers.
-/
import Derived.Test.YthkcimojemofgaaDoorRe10
import Derived.Test.YthkcimojemofgaaDoorStp
import Derived.Deep.AppendLies
import Derived.Deep.RegionWith
namespace Go.Proofs.YthkcimojemofgaaDoor
open Go.RowKit Go.Lib
set_option linter.unusedVariables false
set_option linter.unusedSimpArgs false

/-- May the piece stand at this place of the row? -/
structure GoodAt (l : List Pc) (i : Nat) (p : Pc) : Prop where
  b : p.bad = 0
  a : p.pa = (i : Int)
  s : p.ps = (l.length : Int)
  h : p.kd = (l.getD 0 zeroPc).kd ∧ p.ep = (l.getD 0 zeroPc).ep ∧ p.nu = (l.getD 0 zeroPc).nu
  d : 0 < i → p.da.length ≠ 0
def JoinOk (l : List Pc) : Prop := 0 < l.length ∧ ∀ i (h : i < l.length), GoodAt l i l[i]
def joinB (l : List Pc) : List UInt8 := l.flatMap (·.da)
/-- What Join answers. -/
def JnAns (w : World) (l : List Pc) (e : Ending) (w' : World) : Prop :=
  (JoinOk l → ∃ A c, e = .returned (.tuple #[.slice A (joinB l).length c, .nilIface]) ∧ Bt w' A (joinB l) ∧ ∀ ad, A = some ad → ∃ g q, ad = ⟨g, q, none⟩) ∧ (¬ JoinOk l → e = .returned (.tuple #[.slice none 0 0, .iface 55 (.int .i64 1)])) ∧ Below w.heap.size w w'
theorem own_slice {w : World} {base : Nat} {v : Value} {x : List UInt8} (h : w.ownsRow base 5 1 v x.length (bcs x)) : ∃ A c, v = .slice A x.length c ∧ Bt w A x ∧ ∀ ad, A = some ad → ∃ g q, ad = ⟨g, q, none⟩ := by
  rcases h.2 with ⟨rfl, h0⟩ | ⟨g, cap, cur, rfl, hrest⟩
  · have hx : x = [] := List.eq_nil_of_length_eq_zero h0
    subst hx
    exact ⟨none, 0, rfl, fun h => absurd h (by simp), fun ad e => by cases e⟩
  · obtain ⟨g', c', e, -, -, -, -, h5, -⟩ := own_out h ⟨g, rfl⟩
    exact ⟨_, c', e, fun _ => ⟨_, rfl, fun j u hu => by rw [Addr.add_mid]; exact h5 j u hu⟩, fun ad e => by cases e; exact ⟨_, _, rfl⟩⟩
theorem jn_no {w w' : World} {l : List Pc} (h : ¬ JoinOk l) (hb : Below w.heap.size w w') : JnAns w l (.returned (.tuple #[.slice none 0 0, .iface 55 (.int .i64 1)])) w' := ⟨fun h1 => absurd h1 h, fun _ => rfl, hb⟩
theorem joinB_take (l : List Pc) (k : Nat) (h : k < l.length) : joinB (l.take (k + 1)) = joinB (l.take k) ++ l[k].da := by
  rw [joinB, joinB, List.take_succ_eq_append_getElem h, List.flatMap_append]
  simp
theorem joinB_len {l : List Pc} (h : ∀ p ∈ l, p.da.length ≤ 42) : (joinB l).length ≤ l.length * 42 := by
  induction l with
  | nil => simp [joinB]
  | cons p r ih =>
    have h1 := h p (by simp)
    have h2 := ih (fun q hq => h q (by simp [hq]))
    simp only [joinB, List.flatMap_cons, List.length_append, List.length_cons] at h2 ⊢
    omega
def JnRel (w : World) (l : List Pc) (A : Option Addr) (lim : Nat) (kk : Nat) (v i : Value) (wr : World) : Prop :=
  ∃ k : Nat, k + kk = l.length ∧ i = .int .i64 k ∧ wr.ownsRow w.heap.size 5 1 v (joinB (l.take k)).length (bcs (joinB (l.take k))) ∧ (∀ j (h : j < k) (hl : j < l.length), GoodAt l j l[j]) ∧ Ps wr A l lim ∧ Below w.heap.size w wr
set_option maxHeartbeats 4000000 in
set_option maxRecDepth 100000 in
theorem join_none (w : World) (A : Option Addr) (c : Nat) : Calls Tryd.prog 21 #[.slice A 0 c] w (JnAns w []) := by
  go_enter Tryd.func21, Tryd.ntmps21
  go_wp2_with fail
  go_ret2
  exact jn_no (fun h => absurd h.1 (by simp)) (Below.refl _ _)
end Go.Proofs.YthkcimojemofgaaDoor
