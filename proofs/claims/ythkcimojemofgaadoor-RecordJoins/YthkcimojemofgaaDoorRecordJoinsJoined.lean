/-
  Proved: the statement of the law RecordJoins (the bytes of any pieces, or that they aren't all, are the document's), for every input. Conditions: those of the given row alone (the listed package variables hold what their initialisers lay).
-/
import Derived.Test.YthkcimojemofgaaDoorRl4a
import Derived.Test.YthkcimojemofgaaDoorAw7
import Derived.Test.YthkcimojemofgaaDoorTell
import Derived.Test.YthkcimojemofgaaDoorCards
import Derived.Test.YthkcimojemofgaaDoorTie
import Derived.WalkKit
import Derived.ProofKit
import Derived.OpenShut
import Derived.Deep.DeepHandedRow
import Derived.Lib.LaidTab
import Derived.Lib.LaidIn
import Derived.Lib.LaidU8
import Derived.LaidHandle
import Derived.Test.YthkcimojemofgaaDoorReA
import Derived.Carry
import Derived.Deep.DeepWitnessRowRef
import Derived.SizedLaws
import Derived.ShutString
import Derived.ChangeMaps5
namespace Go.Proofs.YthkcimojemofgaaDoor
open Go.RowKit Go.Lib
set_option linter.unusedVariables false
set_option linter.unusedSimpArgs false

theorem cat_str (a b : List UInt8) : (⟨a.toArray⟩ : ByteArray) ++ ⟨b.toArray⟩ = ⟨(a ++ b).toArray⟩ := by
  apply ByteArray.ext
  rw [ByteArray.data_append]
  simp
theorem sz_str (a : List UInt8) : (⟨a.toArray⟩ : ByteArray).size = a.length := List.size_toArray
/-- Are two pieces unlike? -/
theorem run_neqP (a b c d e a' b' c' d' e' : Int) (s s' : ByteArray) (W : World) : Sem.run Tryd.prog (binOp BinOp.neq 23 (.agg #[.int .i64 a, .int .i64 b, .int .i64 c, .int .i64 d, .int .i64 e, .string s]) (.agg #[.int .i64 a', .int .i64 b', .int .i64 c', .int .i64 d', .int .i64 e', .string s'])) W = .ok (.bool (decide (¬ (a = a' ∧ b = b' ∧ c = c' ∧ d = d' ∧ e = e' ∧ s = s')))) W := by
  have hs : s.toList = s'.toList ↔ s = s' := ⟨fun h => by rw [Go.ByteArray.toList_eq, Go.ByteArray.toList_eq] at h; exact ByteArray.ext (Array.toList_inj.1 h), fun h => by rw [h]⟩
  go_simp
  by_cases h1 : a = a'
  rotate_left
  · simp [h1]
  by_cases h2 : b = b'
  rotate_left
  · simp [h1, h2]
  by_cases h3 : c = c'
  rotate_left
  · simp [h1, h2, h3]
  by_cases h4 : d = d'
  rotate_left
  · simp [h1, h2, h3, h4]
  by_cases h5 : e = e'
  rotate_left
  · simp [h1, h2, h3, h4, h5]
  by_cases h6 : s = s'
  · simp [h1, h2, h3, h4, h5, h6]
  · have h7 : ¬ s.toList = s'.toList := fun h => h6 (hs.1 h)
    simp [h1, h2, h3, h4, h5, h6, h7]
theorem oneE (a b : Int) (s : ByteArray) : (#[Value.int .i64 a, .int .i64 b, .string s]).all (·.oneCell') = true := by
  refine all_oneCell_toArray (cs := [Value.int .i64 a, .int .i64 b, .string s]) fun v hv => ?_
  simp only [List.mem_cons, List.not_mem_nil, or_false] at hv
  rcases hv with rfl | rfl | rfl <;> rfl
theorem Dps.ne {w : World} {g gE : Nat} {l : List Pc} {a b : Int} {s : ByteArray} (h : Dps w (some ⟨g, 0, none⟩) l) (h0 : 0 < l.length) (hE : HdD w gE [.int .i64 a, .int .i64 b, .string s]) : gE ≠ g := fun e => by
  subst e
  obtain ⟨g', q', e', hc⟩ := h h0
  cases e'
  have h1 := hc 0 h0 2 _ rfl
  have h2 := hE.cell 2 _ rfl
  simp only [Nat.zero_mul, Nat.zero_add] at h1
  rw [h2] at h1
  cases h1
theorem Dps.puts {w : World} {g gE : Nat} {l : List Pc} (h : Dps w (some ⟨g, 0, none⟩) l) (hne : gE ≠ g) (q : Nat) (vs : List Value) : Dps (w.setCells gE q vs) (some ⟨g, 0, none⟩) l := fun h0 => by
  obtain ⟨g', q', e, hc⟩ := h h0
  cases e
  exact ⟨g, 0, rfl, fun i hi j v hj => by
    rw [World.cell?_of_block (heap_setCells _ _ _ _ _ (by exact fun e => hne e.symm))]
    exact hc i hi j v hj⟩
theorem bin_exec {P : Program} {w : World} {x y : Operand} {bo : BinOp} {tx T ty : TypeId} {d : Option Nat} {ps : String} {af : Array Edge} {g : Option (Nat × Bool)} (a : Act) {v1 v2 v : Value} (h1 : a.eval x = v1) (h2 : a.eval y = v2) {u : _} (hg : (eqGuard bo tx x y v1 v2).run P w = .ok u w) (h : (binOp bo tx v1 v2).run P w = .ok v w) :
    (execOp a.eval ⟨d, .binOp bo tx x y ty, T, ps, af, g⟩).run P w = .ok (.value v) w := by
  simp [execOp, h1, h2, h, hg, Result.andThen]
theorem guardP (x y : Operand) (v1 v2 : Array Value) (w : World) : ∃ u, (eqGuard BinOp.neq 23 x y (.agg v1) (.agg v2)).run Tryd.prog w = .ok u w := ⟨(), by kernel_rfl⟩
def J1Rel (w : World) (l : List Pc) (kk : Nat) (s i : Value) (wr : World) : Prop := ∃ k : Nat, k + kk = l.length ∧ i = .int .i64 (k : Int) ∧ s = .string ⟨(joinB (l.take k)).toArray⟩ ∧ Below w.heap.size w wr
def J2Rel (N : Nat) (l l2 : List Pc) (Wy : World) (kk : Nat) (i : Value) (wr : World) : Prop := ∃ k : Nat, k + kk = N ∧ i = .int .i64 (k : Int) ∧ (∀ j (h1 : j < l.length) (h2 : j < l2.length), j < k → l[j] = l2[j]) ∧ Below Wy.heap.size Wy wr
/-- What the document's Join answers. -/
def RJAns (w : World) (l : List Pc) (e : Ending) (w' : World) : Prop :=
  (JoinOk l → e = .returned (.tuple #[.string ⟨(joinB l).toArray⟩, .bool true])) ∧ (¬ JoinOk l → e = .returned (.tuple #[.string ⟨#[]⟩, .bool false])) ∧ Below w.heap.size w w'
theorem rj_no {w w' : World} {l : List Pc} (h : ¬ JoinOk l) (hb : Below w.heap.size w w') : RJAns w l (.returned (.tuple #[.string ⟨#[]⟩, .bool false])) w' := ⟨fun h1 => absurd h1 h, fun _ => rfl, hb⟩
set_option maxRecDepth 100000 in
set_option maxHeartbeats 16000000 in
theorem rj_any (A : Option Addr) (l : List Pc) (c : Nat) (w : World) (hD : Dps w A l) (hf : ∀ p ∈ l, p.Fit) (hl : l.length ≤ 30) (h100 : ∀ p ∈ l, p.da.length ≤ 100) : Calls Tryd.prog 23 #[.slice A l.length c] w (RJAns w l) := by
  have HD := Lib.hid hD
  obtain ⟨n, hn⟩ : ∃ n, l.length = n := ⟨_, rfl⟩
  have HN := Lib.hid hn
  rw [hn] at hl ⊢
  have hjl : ∀ k, (joinB (l.take k)).length ≤ 3000 := fun k => by
    have h1 : ∀ r : List Pc, (∀ p ∈ r, p.da.length ≤ 100) → (joinB r).length ≤ r.length * 100 := fun r => by
      induction r with
      | nil => intro _; simp [joinB]
      | cons p r ih =>
        intro h
        have a := h p (by simp)
        have b := ih (fun q hq => h q (by simp [hq]))
        simp only [joinB, List.flatMap_cons, List.length_append, List.length_cons] at b ⊢
        omega
    have h2 := h1 (l.take k) (fun p hp => h100 p (List.mem_of_mem_take hp))
    have h3 : (l.take k).length ≤ 30 := by rw [List.length_take]; omega
    omega
  have HJl := Lib.hid (And.intro hjl (And.intro hf h100))
  clear hD hn hjl hf h100
  go_enter Tryd.func23, Tryd.ntmps23
  go_wp2_with fail
  go_loopg [4, 11] n (J1Rel w l)
  case atStart => exact ⟨0, by rw [HN.out]; omega, rfl, rfl, Below.refl _ _⟩
  case round =>
    obtain ⟨k, hk, rfl, rfl, hb⟩ := hrel
    rw [HN.out] at hk
    by_cases hlt : k < n
    · have hkl : k < l.length := by rw [HN.out]; exact hlt
      obtain ⟨g, q, rfl, hc⟩ := (HD.out.keep hb) (by omega)
      have y5 := hc k hkl 5 _ rfl
      have hfit : ¬ (9223372036854775807 < (⟨(joinB (l.take k)).toArray⟩ : ByteArray).size + (⟨l[k].da.toArray⟩ : ByteArray).size) := by
        rw [sz_str, sz_str]
        have := HJl.out.1 k
        have := HJl.out.2.2 l[k] (List.getElem_mem hkl)
        omega
      have hcat : (⟨(joinB (l.take k)).toArray⟩ : ByteArray) ++ ⟨l[k].da.toArray⟩ = ⟨(joinB (l.take (k + 1))).toArray⟩ := by rw [cat_str, joinB_take l k hkl]
      obtain ⟨S1, hS1⟩ : ∃ S : ByteArray, (⟨(joinB (l.take k)).toArray⟩ : ByteArray) = S := ⟨_, rfl⟩
      obtain ⟨S2, hS2⟩ : ∃ S : ByteArray, (⟨l[k].da.toArray⟩ : ByteArray) = S := ⟨_, rfl⟩
      obtain ⟨S3, hS3⟩ : ∃ S : ByteArray, (⟨(joinB (l.take (k + 1))).toArray⟩ : ByteArray) = S := ⟨_, rfl⟩
      rw [hS2] at y5
      rw [hS1, hS2] at hfit hcat
      rw [hS3] at hcat
      rw [hS1]
      have HB := Lib.hid hb
      have HK := Lib.hid hk
      have HS3 := Lib.hid hS3
      clear hc hb hk hS1 hS2 hS3
      go_wp2_with fail
      go_roundg (n - (k + 1))
      case rel => exact ⟨k + 1, by rw [HN.out]; have := HK.out; omega, by go_num, by rw [HS3.out], HB.out⟩
      case measure => have := HK.out; omega
    · obtain rfl : k = n := by omega
      rw [show l.take k = l from List.take_of_length_le (by rw [HN.out]; exact Nat.le_refl _)]
      rcases Nat.eq_zero_or_pos k with h0 | h0
      · subst h0
        have hl0 : l = [] := List.eq_nil_of_length_eq_zero HN.out
        have HB := Lib.hid hb
        have HNo := Lib.hid (show ¬ JoinOk l from fun h => by have := h.1; rw [hl0] at this; exact absurd this (by simp))
        clear hb
        go_wp2_with fail
        go_ret2
        exact rj_no HNo.out HB.out
      · have hb0 : ((k : Int) == 0) = false := by rw [beq_eq_false_iff_ne]; omega
        have hb1 : ¬ k = 0 := by omega
        obtain ⟨W1, hW1⟩ : ∃ W1 : World, W1 = wr := ⟨wr, rfl⟩
        subst hW1
        obtain ⟨g, q, rfl, hc⟩ := (HD.out.keep hb) (by rw [HN.out]; exact h0)
        obtain ⟨p0, hp0⟩ : ∃ p, l[0]'(by rw [HN.out]; exact h0) = p := ⟨_, rfl⟩
        have hg0 : l.getD 0 zeroPc = p0 := by rw [List.getD_eq_getElem?_getD, List.getElem?_eq_getElem (by rw [HN.out]; exact h0)]; exact hp0
        have hp0f : p0.Fit := by rw [← hp0]; exact HJl.out.2.1 _ (List.getElem_mem _)
        have hc0 := hc 0 (by rw [HN.out]; exact h0)
        rw [hp0] at hc0
        have HC := Lib.hid (fun V (hV : Below W1.heap.size W1 V) => show V.cell? ⟨g, q, none⟩ = some (.int .i64 p0.kd) ∧ V.cell? ⟨g, q + 1, none⟩ = some (.int .i64 p0.ep) ∧ V.cell? ⟨g, q + 2, none⟩ = some (.int .i64 p0.nu) from by
          have h := fun j v hj => (hV.cell (block_lt_of_cell (hc0 j v hj))).trans (hc0 j v hj)
          simp only [Nat.zero_mul, Nat.add_zero] at h
          exact ⟨h 0 _ rfl, h 1 _ rfl, h 2 _ rfl⟩)
        obtain ⟨x, hx⟩ : ∃ x, joinB l = x := ⟨_, rfl⟩
        have hx3 : x.length ≤ 3000 := by
          have := HJl.out.1 l.length
          rw [List.take_of_length_le (Nat.le_refl _), hx] at this
          exact this
        rw [hx]
        have hRs := fun W => (rs_any p0.kd p0.ep p0.nu x (by omega) hp0f.k hp0f.e hp0f.n W).mono fun e w' ha => rs_uni ha
        obtain ⟨N, hN⟩ : ∃ N, lS p0.kd p0.ep p0.nu x = N := ⟨_, rfl⟩
        obtain ⟨ec, hec⟩ : ∃ z, ecS p0.kd p0.ep p0.nu x = z := ⟨_, rfl⟩
        obtain ⟨es, hes⟩ : ∃ z, esS p0.kd p0.ep p0.nu x = z := ⟨_, rfl⟩
        rw [hN, hec, hes] at hRs
        obtain ⟨SX, hSX⟩ : ∃ S : ByteArray, (⟨x.toArray⟩ : ByteArray) = S := ⟨_, rfl⟩
        rw [hSX] at hRs
        rw [hSX]
        have HRs := Lib.hid hRs
        have HX := Lib.hid (And.intro hx (And.intro hg0 (And.intro hN (And.intro hec (And.intro hSX hx3)))))
        have HB1 := Lib.hid hb
        have HDc := Lib.hid hc
        clear hc hc0 hp0 hg0 hp0f hx hRs hN hec hes hSX hb hx3
        go_upto_region 9 with (fail)
        go_cut [6, 7] from 25 to 41 (fun v6 v7 wx => ∃ A9 c9 gE, v6 = .slice A9 N c9 ∧ v7 = .pointer (some ⟨gE, 0, none⟩) ∧ HdD wx gE [.int .i64 ec, .int .i64 (-1), .string es] ∧ (ec = 0 → (∃ g, A9 = some ⟨g, 0, none⟩) ∧ Dps wx A9 (splitL p0.kd p0.ep p0.nu x)) ∧ Below W1.heap.size W1 wx)
        case first =>
          have HB := Lib.hid (show Below W1.heap.size W1 W1.drew from (Below.refl _ _).drew)
          refine wp_region_held_drew (S := (fun V => V.cell? ⟨g, q, none⟩ = some (.int .i64 p0.kd) ∧ V.cell? ⟨g, q + 1, none⟩ = some (.int .i64 p0.ep) ∧ V.cell? ⟨g, q + 2, none⟩ = some (.int .i64 p0.nu))) (by kernel_rfl) (HC.out _ HB.out) (fun hS => ?_)
          refine wpAnyH_take (i := 0) (v := .slice (some ⟨g, q, none⟩) k c) rfl (by kernel_rfl) (by kernel_rfl) (by kernel_rfl) (fun _ _ _ h => h) (Or.inl ⟨by rfl, ?_⟩) hS ?_
          · intro w hSw
            obtain ⟨x0, x1, x2⟩ := hSw
            go_simp
          try simp only [List.getElem_toArray, List.getElem_cons_succ, List.getElem_cons_zero, Act.put, List.setIfInBounds_toArray, List.set_cons_zero, List.set_cons_succ]
          refine wpAnyH_take (i := 1) (v := .pointer (some ⟨g, q, none⟩)) rfl (by kernel_rfl) (by kernel_rfl) (by kernel_rfl) (fun _ _ _ h => h) (Or.inl ⟨by rfl, ?_⟩) hS ?_
          · intro w hSw
            obtain ⟨x0, x1, x2⟩ := hSw
            go_simp
          try simp only [List.getElem_toArray, List.getElem_cons_succ, List.getElem_cons_zero, Act.put, List.setIfInBounds_toArray, List.set_cons_zero, List.set_cons_succ]
          refine wpAnyH_take (i := 2) (v := .pointer (some ⟨g, q, none⟩)) rfl (by kernel_rfl) (by kernel_rfl) (by kernel_rfl) (fun _ _ _ h => h) (Or.inl ⟨by rfl, ?_⟩) hS ?_
          · intro w hSw
            obtain ⟨x0, x1, x2⟩ := hSw
            go_simp
          try simp only [List.getElem_toArray, List.getElem_cons_succ, List.getElem_cons_zero, Act.put, List.setIfInBounds_toArray, List.set_cons_zero, List.set_cons_succ]
          refine wpAnyH_take (i := 3) (v := .int .i64 p0.kd) rfl (by kernel_rfl) (by kernel_rfl) (by kernel_rfl) (fun _ _ _ h => h) (Or.inl ⟨by rfl, ?_⟩) hS ?_
          · intro w hSw
            obtain ⟨x0, x1, x2⟩ := hSw
            go_simp
          try simp only [List.getElem_toArray, List.getElem_cons_succ, List.getElem_cons_zero, Act.put, List.setIfInBounds_toArray, List.set_cons_zero, List.set_cons_succ]
          refine wpAnyH_take (i := 4) (v := .slice (some ⟨g, q, none⟩) k c) rfl (by kernel_rfl) (by kernel_rfl) (by kernel_rfl) (fun _ _ _ h => h) (Or.inl ⟨by rfl, ?_⟩) hS ?_
          · intro w hSw
            obtain ⟨x0, x1, x2⟩ := hSw
            go_simp
          try simp only [List.getElem_toArray, List.getElem_cons_succ, List.getElem_cons_zero, Act.put, List.setIfInBounds_toArray, List.set_cons_zero, List.set_cons_succ]
          refine wpAnyH_take (i := 5) (v := .pointer (some ⟨g, q, none⟩)) rfl (by kernel_rfl) (by kernel_rfl) (by kernel_rfl) (fun _ _ _ h => h) (Or.inl ⟨by rfl, ?_⟩) hS ?_
          · intro w hSw
            obtain ⟨x0, x1, x2⟩ := hSw
            go_simp
          try simp only [List.getElem_toArray, List.getElem_cons_succ, List.getElem_cons_zero, Act.put, List.setIfInBounds_toArray, List.set_cons_zero, List.set_cons_succ]
          refine wpAnyH_take (i := 6) (v := .pointer (some ⟨g, q + 1, none⟩)) rfl (by kernel_rfl) (by kernel_rfl) (by kernel_rfl) (fun _ _ _ h => h) (Or.inl ⟨by rfl, ?_⟩) hS ?_
          · intro w hSw
            obtain ⟨x0, x1, x2⟩ := hSw
            go_simp
          try simp only [List.getElem_toArray, List.getElem_cons_succ, List.getElem_cons_zero, Act.put, List.setIfInBounds_toArray, List.set_cons_zero, List.set_cons_succ]
          refine wpAnyH_take (i := 7) (v := .int .i64 p0.ep) rfl (by kernel_rfl) (by kernel_rfl) (by kernel_rfl) (fun _ _ _ h => h) (Or.inl ⟨by rfl, ?_⟩) hS ?_
          · intro w hSw
            obtain ⟨x0, x1, x2⟩ := hSw
            go_simp
          try simp only [List.getElem_toArray, List.getElem_cons_succ, List.getElem_cons_zero, Act.put, List.setIfInBounds_toArray, List.set_cons_zero, List.set_cons_succ]
          refine wpAnyH_take (i := 8) (v := .slice (some ⟨g, q, none⟩) k c) rfl (by kernel_rfl) (by kernel_rfl) (by kernel_rfl) (fun _ _ _ h => h) (Or.inl ⟨by rfl, ?_⟩) hS ?_
          · intro w hSw
            obtain ⟨x0, x1, x2⟩ := hSw
            go_simp
          try simp only [List.getElem_toArray, List.getElem_cons_succ, List.getElem_cons_zero, Act.put, List.setIfInBounds_toArray, List.set_cons_zero, List.set_cons_succ]
          refine wpAnyH_take (i := 9) (v := .pointer (some ⟨g, q, none⟩)) rfl (by kernel_rfl) (by kernel_rfl) (by kernel_rfl) (fun _ _ _ h => h) (Or.inl ⟨by rfl, ?_⟩) hS ?_
          · intro w hSw
            obtain ⟨x0, x1, x2⟩ := hSw
            go_simp
          try simp only [List.getElem_toArray, List.getElem_cons_succ, List.getElem_cons_zero, Act.put, List.setIfInBounds_toArray, List.set_cons_zero, List.set_cons_succ]
          refine wpAnyH_take (i := 10) (v := .pointer (some ⟨g, q + 2, none⟩)) rfl (by kernel_rfl) (by kernel_rfl) (by kernel_rfl) (fun _ _ _ h => h) (Or.inl ⟨by rfl, ?_⟩) hS ?_
          · intro w hSw
            obtain ⟨x0, x1, x2⟩ := hSw
            go_simp
          try simp only [List.getElem_toArray, List.getElem_cons_succ, List.getElem_cons_zero, Act.put, List.setIfInBounds_toArray, List.set_cons_zero, List.set_cons_succ]
          refine wpAnyH_take (i := 11) (v := .int .i64 p0.nu) rfl (by kernel_rfl) (by kernel_rfl) (by kernel_rfl) (fun _ _ _ h => h) (Or.inl ⟨by rfl, ?_⟩) hS ?_
          · intro w hSw
            obtain ⟨x0, x1, x2⟩ := hSw
            go_simp
          try simp only [List.getElem_toArray, List.getElem_cons_succ, List.getElem_cons_zero, Act.put, List.setIfInBounds_toArray, List.set_cons_zero, List.set_cons_succ]
          refine wpAnyH_take (i := 12) (v := .string SX) rfl (by kernel_rfl) (by kernel_rfl) (by kernel_rfl) (fun _ _ _ h => h) (Or.inl ⟨by rfl, ?_⟩) hS ?_
          · intro w hSw
            obtain ⟨x0, x1, x2⟩ := hSw
            go_simp
          try simp only [List.getElem_toArray, List.getElem_cons_succ, List.getElem_cons_zero, Act.put, List.setIfInBounds_toArray, List.set_cons_zero, List.set_cons_succ]
          refine wpAnyH_ready (rs := [13, 17]) (by kernel_rfl) (by simp) ?_
          refine AllReadyH.cons rfl (fun K hK => ?_) ?_
          · go_simp
            with_reducible refine (HRs.out _).mono ?_
            rintro e W6 ⟨A9, c9, rfl, hd9, hb6⟩
            have HD9 := Lib.hid hd9
            have HB := Lib.hid (HB.out.trans (hb6.mono HB.out.size))
            clear hb6 hd9
            refine hK.out _ _ (HC.out _ HB.out) (fun hS => ?_)
            clear hK K
            try simp only [List.getElem_toArray, List.getElem_cons_succ, List.getElem_cons_zero, Act.put, List.setIfInBounds_toArray, List.set_cons_zero, List.set_cons_succ]
            refine wpAnyH_take (i := 14) (v := .tuple #[.slice A9 N c9, .agg #[.int .i64 ec, .int .i64 (-1), .string es]]) rfl (by kernel_rfl) (by kernel_rfl) (by kernel_rfl) (fun _ _ _ h => h) (Or.inl ⟨by rfl, ?_⟩) hS ?_
            · intro w hSw
              obtain ⟨x0, x1, x2⟩ := hSw
              go_simp
            try simp only [List.getElem_toArray, List.getElem_cons_succ, List.getElem_cons_zero, Act.put, List.setIfInBounds_toArray, List.set_cons_zero, List.set_cons_succ]
            refine wpAnyH_take (i := 15) (v := .slice A9 N c9) rfl (by kernel_rfl) (by kernel_rfl) (by kernel_rfl) (fun _ _ _ h => h) (Or.inl ⟨by rfl, ?_⟩) hS ?_
            · intro w hSw
              obtain ⟨x0, x1, x2⟩ := hSw
              go_simp
            try simp only [List.getElem_toArray, List.getElem_cons_succ, List.getElem_cons_zero, Act.put, List.setIfInBounds_toArray, List.set_cons_zero, List.set_cons_succ]
            refine wpAnyH_take (i := 16) (v := .agg #[.int .i64 ec, .int .i64 (-1), .string es]) rfl (by kernel_rfl) (by kernel_rfl) (by kernel_rfl) (fun _ _ _ h => h) (Or.inl ⟨by rfl, ?_⟩) hS ?_
            · intro w hSw
              obtain ⟨x0, x1, x2⟩ := hSw
              go_simp
            try simp only [List.getElem_toArray, List.getElem_cons_succ, List.getElem_cons_zero, Act.put, List.setIfInBounds_toArray, List.set_cons_zero, List.set_cons_succ]
            refine wpAnyH_ready (rs := [17]) (by kernel_rfl) (by simp) ?_
            refine AllReadyH.cons rfl (fun K hK => ?_) (AllReadyH.nil)
            refine step_allocR rfl 26 rfl (.agg #[.int .i64 0, .int .i64 0, .string ⟨#[]⟩]) (by kernel_rfl) (fun v W => ∃ g, v = .pointer (some ⟨g, 0, none⟩) ∧ (HdD W g [.int .i64 0, .int .i64 0, .string ⟨#[]⟩] ∧ W1.heap.size ≤ g) ∧ Below W1.heap.size W1 W ∧ (ec = 0 → (∃ g, A9 = some ⟨g, 0, none⟩) ∧ Dps W A9 (splitL p0.kd p0.ep p0.nu x))) ⟨_, rfl, ⟨hd_new _ [.int .i64 0, .int .i64 0, .string ⟨#[]⟩] _, HB.out.size⟩, HB.out.alloc HB.out.size _, fun h => ⟨(HD9.out h).1, (HD9.out h).2.keep (new_below _ _)⟩⟩ ?_
            rintro _ W6 ⟨gE, rfl, ht, hb6, hd9⟩
            have HE0 := Lib.hid ht
            have HE := Lib.hid ht
            have HD9 := Lib.hid hd9
            have HB := Lib.hid hb6
            clear ht hb6 hd9
            refine hK.out _ _ (HC.out _ HB.out) (fun hS => ?_)
            clear hK K
            try simp only [List.getElem_toArray, List.getElem_cons_succ, List.getElem_cons_zero, Act.put, List.setIfInBounds_toArray, List.set_cons_zero, List.set_cons_succ]
            refine wpAnyH_take (i := 18) (v := .slice A9 N c9) rfl (by kernel_rfl) (by kernel_rfl) (by kernel_rfl) (fun _ _ _ h => h) (Or.inl ⟨by rfl, ?_⟩) hS ?_
            · intro w hSw
              obtain ⟨x0, x1, x2⟩ := hSw
              go_simp
            try simp only [List.getElem_toArray, List.getElem_cons_succ, List.getElem_cons_zero, Act.put, List.setIfInBounds_toArray, List.set_cons_zero, List.set_cons_succ]
            refine wpAnyH_ready (rs := [19]) (by kernel_rfl) (by simp) ?_
            refine AllReadyH.cons rfl (fun K hK => ?_) (AllReadyH.nil)
            refine step_storeH rfl 26 _ _ rfl gE 0 #[.int .i64 ec, .int .i64 (-1), .string es] rfl rfl HE.out.1.th (by kernel_rfl) (oneE _ _ _) ?_
            intro W8 HW8
            have b8 : Below W1.heap.size W1 W8 := by rw [HW8.out]; exact below_setCells HB.out HE.out.2 _ _
            refine hK.out _ _ (HC.out _ b8) (fun hS => ?_)
            clear hK K
            try simp only [List.getElem_toArray, List.getElem_cons_succ, List.getElem_cons_zero, Act.put, List.setIfInBounds_toArray, List.set_cons_zero, List.set_cons_succ]
            refine wpAnyH_done (by kernel_rfl) ?_ _
            go_wp2_with fail
            go_meet
            refine ⟨A9, c9, gE, rfl, rfl, by rw [HW8.out]; exact HE.out.1.all rfl, fun h => ?_, b8⟩
            obtain ⟨⟨g9, rfl⟩, hd⟩ := HD9.out h
            exact ⟨⟨g9, rfl⟩, by rw [HW8.out]; exact hd.puts (hd.ne (by rw [split_len]; exact parts_pos _) HE.out.1) 0 _⟩
          refine AllReadyH.cons rfl (fun K hK => ?_) (AllReadyH.nil)
          refine step_allocR rfl 26 rfl (.agg #[.int .i64 0, .int .i64 0, .string ⟨#[]⟩]) (by kernel_rfl) (fun v W => ∃ g, v = .pointer (some ⟨g, 0, none⟩) ∧ (HdD W g [.int .i64 0, .int .i64 0, .string ⟨#[]⟩] ∧ W1.heap.size ≤ g) ∧ Below W1.heap.size W1 W) ⟨_, rfl, ⟨hd_new _ [.int .i64 0, .int .i64 0, .string ⟨#[]⟩] _, HB.out.size⟩, HB.out.alloc HB.out.size _⟩ ?_
          rintro _ W6 ⟨gE, rfl, ht, hb6⟩
          have HE0 := Lib.hid ht
          have HB := Lib.hid hb6
          clear ht hb6
          refine hK.out _ _ (HC.out _ HB.out) (fun hS => ?_)
          clear hK K
          try simp only [List.getElem_toArray, List.getElem_cons_succ, List.getElem_cons_zero, Act.put, List.setIfInBounds_toArray, List.set_cons_zero, List.set_cons_succ]
          refine wpAnyH_ready (rs := [13]) (by kernel_rfl) (by simp) ?_
          refine AllReadyH.cons rfl (fun K hK => ?_) (AllReadyH.nil)
          go_simp
          with_reducible refine (HRs.out _).mono ?_
          rintro e W6 ⟨A9, c9, rfl, hd9, hb6⟩
          have HD9 := Lib.hid hd9
          have HE := Lib.hid (show HdD W6 gE [.int .i64 0, .int .i64 0, .string ⟨#[]⟩] ∧ W1.heap.size ≤ gE from ⟨HE0.out.1.keep (HE0.out.1.lt (by decide)) hb6, HE0.out.2⟩)
          have HB := Lib.hid (HB.out.trans (hb6.mono HB.out.size))
          clear hb6 hd9
          refine hK.out _ _ (HC.out _ HB.out) (fun hS => ?_)
          clear hK K
          try simp only [List.getElem_toArray, List.getElem_cons_succ, List.getElem_cons_zero, Act.put, List.setIfInBounds_toArray, List.set_cons_zero, List.set_cons_succ]
          refine wpAnyH_take (i := 14) (v := .tuple #[.slice A9 N c9, .agg #[.int .i64 ec, .int .i64 (-1), .string es]]) rfl (by kernel_rfl) (by kernel_rfl) (by kernel_rfl) (fun _ _ _ h => h) (Or.inl ⟨by rfl, ?_⟩) hS ?_
          · intro w hSw
            obtain ⟨x0, x1, x2⟩ := hSw
            go_simp
          try simp only [List.getElem_toArray, List.getElem_cons_succ, List.getElem_cons_zero, Act.put, List.setIfInBounds_toArray, List.set_cons_zero, List.set_cons_succ]
          refine wpAnyH_take (i := 15) (v := .slice A9 N c9) rfl (by kernel_rfl) (by kernel_rfl) (by kernel_rfl) (fun _ _ _ h => h) (Or.inl ⟨by rfl, ?_⟩) hS ?_
          · intro w hSw
            obtain ⟨x0, x1, x2⟩ := hSw
            go_simp
          try simp only [List.getElem_toArray, List.getElem_cons_succ, List.getElem_cons_zero, Act.put, List.setIfInBounds_toArray, List.set_cons_zero, List.set_cons_succ]
          refine wpAnyH_take (i := 16) (v := .agg #[.int .i64 ec, .int .i64 (-1), .string es]) rfl (by kernel_rfl) (by kernel_rfl) (by kernel_rfl) (fun _ _ _ h => h) (Or.inl ⟨by rfl, ?_⟩) hS ?_
          · intro w hSw
            obtain ⟨x0, x1, x2⟩ := hSw
            go_simp
          try simp only [List.getElem_toArray, List.getElem_cons_succ, List.getElem_cons_zero, Act.put, List.setIfInBounds_toArray, List.set_cons_zero, List.set_cons_succ]
          refine wpAnyH_take (i := 18) (v := .slice A9 N c9) rfl (by kernel_rfl) (by kernel_rfl) (by kernel_rfl) (fun _ _ _ h => h) (Or.inl ⟨by rfl, ?_⟩) hS ?_
          · intro w hSw
            obtain ⟨x0, x1, x2⟩ := hSw
            go_simp
          try simp only [List.getElem_toArray, List.getElem_cons_succ, List.getElem_cons_zero, Act.put, List.setIfInBounds_toArray, List.set_cons_zero, List.set_cons_succ]
          refine wpAnyH_ready (rs := [19]) (by kernel_rfl) (by simp) ?_
          refine AllReadyH.cons rfl (fun K hK => ?_) (AllReadyH.nil)
          refine step_storeH rfl 26 _ _ rfl gE 0 #[.int .i64 ec, .int .i64 (-1), .string es] rfl rfl HE.out.1.th (by kernel_rfl) (oneE _ _ _) ?_
          intro W8 HW8
          have b8 : Below W1.heap.size W1 W8 := by rw [HW8.out]; exact below_setCells HB.out HE.out.2 _ _
          refine hK.out _ _ (HC.out _ b8) (fun hS => ?_)
          clear hK K
          try simp only [List.getElem_toArray, List.getElem_cons_succ, List.getElem_cons_zero, Act.put, List.setIfInBounds_toArray, List.set_cons_zero, List.set_cons_succ]
          refine wpAnyH_done (by kernel_rfl) ?_ _
          go_wp2_with fail
          go_meet
          refine ⟨A9, c9, gE, rfl, rfl, by rw [HW8.out]; exact HE.out.1.all rfl, fun h => ?_, b8⟩
          obtain ⟨⟨g9, rfl⟩, hd⟩ := HD9.out h
          exact ⟨⟨g9, rfl⟩, by rw [HW8.out]; exact hd.puts (hd.ne (by rw [split_len]; exact parts_pos _) HE.out.1) 0 _⟩
        case rest =>
          obtain ⟨A9, c9, gE, rfl, rfl, hE, hd, hbx⟩ := hcut
          have e0 := hE.cell 0 _ rfl
          have e1 := hE.cell 1 _ rfl
          have e2 := hE.cell 2 _ rfl
          have HB2 := Lib.hid (HB1.out.trans (hbx.mono HB1.out.size))
          have HJ := Lib.hid (show JoinOk l → ec = 0 ∧ N = k ∧ splitL p0.kd p0.ep p0.nu x = l from fun hj => by
            have h1 := split_of_join hj
            have h2 := ok_parts hj
            rw [HX.out.2.1, HX.out.1] at h1
            rw [HX.out.1] at h2
            refine ⟨?_, ?_, h1.1⟩
            · rw [← HX.out.2.2.2.1, ecS, if_neg (by omega), if_pos h1.2]
            · rw [← HX.out.2.2.1, lS, if_neg (by omega), if_pos h1.2, h2.1, HN.out])
          have HD9 := Lib.hid hd
          have HBx := Lib.hid hbx
          clear hE hd hbx
          by_cases hec : ec = 0
          rotate_left
          · have d5 : (ec != 0) = true := by rw [bne_iff_ne]; exact hec
            have d6 : (ec == 0) = false := by rw [beq_eq_false_iff_ne]; exact hec
            have HNo := Lib.hid (show ¬ JoinOk l from fun h => hec (HJ.out h).1)
            clear hec
            go_wp2_with fail
            go_ret2
            exact rj_no HNo.out HB2.out
          subst hec
          by_cases hNk : N = k
          rotate_left
          · have d5 : ((N : Int) != (k : Int)) = true := by rw [bne_iff_ne]; omega
            have d6 : ((N : Int) == (k : Int)) = false := by rw [beq_eq_false_iff_ne]; omega
            have HNo := Lib.hid (show ¬ JoinOk l from fun h => hNk (HJ.out h).2.1)
            clear hNk
            go_wp2_with fail
            go_ret2
            exact rj_no HNo.out HB2.out
          have hNk' : k = N := hNk.symm
          subst hNk'
          obtain ⟨⟨g9, rfl⟩, hdp⟩ := HD9.out rfl
          obtain ⟨hx84, hbd0⟩ := ecS_0 HX.out.2.2.2.1
          have hl2 : (splitL p0.kd p0.ep p0.nu x).length = k := by
            have h := HX.out.2.2.1
            rw [lS, if_neg (by omega), if_pos hbd0] at h
            rw [split_len, h]
          have HL2 := Lib.hid (And.intro hl2 (And.intro hx84 hbd0))
          obtain ⟨Wy, hWy⟩ : ∃ Wy : World, Wy = wc := ⟨wc, rfl⟩
          subst hWy
          have HDp := Lib.hid hdp
          clear hdp hx84 hbd0 hl2 hNk
          go_wp2_with fail
          go_loopg [54] k (J2Rel k l (splitL p0.kd p0.ep p0.nu x) Wy)
          case atStart => exact ⟨0, by omega, rfl, fun j _ _ h => absurd h (Nat.not_lt_zero _), Below.refl _ _⟩
          case round =>
            obtain ⟨j, hj, rfl, hall, hbl⟩ := hrel
            have HBl := Lib.hid hbl
            have HB3 := Lib.hid (HB2.out.trans (hbl.mono HB2.out.size))
            have HAll := Lib.hid hall
            clear hbl hall
            by_cases hlt : j < k
            · have hjl : j < l.length := by rw [HN.out]; exact hlt
              have hjl2 : j < (splitL p0.kd p0.ep p0.nu x).length := by rw [HL2.out.1]; exact hlt
              have hca := HDc.out j hjl
              obtain ⟨g', q', e', hcb⟩ := (HDp.out.keep HBl.out) (by omega)
              cases e'
              have hcb := hcb j hjl2
              obtain ⟨pa, hpa⟩ : ∃ p, l[j] = p := ⟨_, rfl⟩
              obtain ⟨pb, hpb⟩ : ∃ p, (splitL p0.kd p0.ep p0.nu x)[j] = p := ⟨_, rfl⟩
              rw [hpa] at hca
              rw [hpb] at hcb
              unfold dcs at hca hcb
              obtain ⟨Sa, hSa⟩ : ∃ S : ByteArray, (⟨pa.da.toArray⟩ : ByteArray) = S := ⟨_, rfl⟩
              obtain ⟨Sb, hSb⟩ : ∃ S : ByteArray, (⟨pb.da.toArray⟩ : ByteArray) = S := ⟨_, rfl⟩
              rw [hSa] at hca
              rw [hSb] at hcb
              have H12 := Lib.hid (fun V (hV : Below wr.heap.size wr V) => show V.cell? ⟨g, q + j * 6, none⟩ = some (.int .i64 pa.kd) ∧ V.cell? ⟨g, q + j * 6 + 1, none⟩ = some (.int .i64 pa.ep) ∧ V.cell? ⟨g, q + j * 6 + 2, none⟩ = some (.int .i64 pa.nu) ∧ V.cell? ⟨g, q + j * 6 + 3, none⟩ = some (.int .i64 pa.pa) ∧ V.cell? ⟨g, q + j * 6 + 4, none⟩ = some (.int .i64 pa.ps) ∧ V.cell? ⟨g, q + j * 6 + 5, none⟩ = some (.string Sa) ∧ V.cell? ⟨g9, j * 6, none⟩ = some (.int .i64 pb.kd) ∧ V.cell? ⟨g9, j * 6 + 1, none⟩ = some (.int .i64 pb.ep) ∧ V.cell? ⟨g9, j * 6 + 2, none⟩ = some (.int .i64 pb.nu) ∧ V.cell? ⟨g9, j * 6 + 3, none⟩ = some (.int .i64 pb.pa) ∧ V.cell? ⟨g9, j * 6 + 4, none⟩ = some (.int .i64 pb.ps) ∧ V.cell? ⟨g9, j * 6 + 5, none⟩ = some (.string Sb) from by
                have hV1 : Below W1.heap.size W1 V := (HBx.out.trans (HBl.out.mono HBx.out.size)).trans (hV.mono (HBx.out.trans (HBl.out.mono HBx.out.size)).size)
                have a := fun i v hi => (hV1.cell (block_lt_of_cell (hca i v hi))).trans (hca i v hi)
                have b := fun i v hi => (hV.cell (block_lt_of_cell (hcb i v hi))).trans (hcb i v hi)
                simp only [Nat.zero_add] at b
                exact ⟨a 0 _ rfl, a 1 _ rfl, a 2 _ rfl, a 3 _ rfl, a 4 _ rfl, a 5 _ rfl, b 0 _ rfl, b 1 _ rfl, b 2 _ rfl, b 3 _ rfl, b 4 _ rfl, b 5 _ rfl⟩)
              have hnq := run_neqP pa.kd pa.ep pa.nu pa.pa pa.ps pb.kd pb.ep pb.nu pb.pa pb.ps Sa Sb
              obtain ⟨bb, hbb⟩ : ∃ y : Bool, decide (¬ (pa.kd = pb.kd ∧ pa.ep = pb.ep ∧ pa.nu = pb.nu ∧ pa.pa = pb.pa ∧ pa.ps = pb.ps ∧ Sa = Sb)) = y := ⟨_, rfl⟩
              rw [hbb] at hnq
              have HNq := Lib.hid hnq
              have HEq := Lib.hid (show pa = pb ↔ bb = false by
                rw [← hbb, decide_eq_false_iff_not, Decidable.not_not]
                constructor
                · rintro rfl
                  exact ⟨rfl, rfl, rfl, rfl, rfl, by rw [← hSa, hSb]⟩
                · rintro ⟨h1, h2, h3, h4, h5, h6⟩
                  rw [← hSa, ← hSb] at h6
                  have h7 := eq_bytes h6
                  obtain ⟨a1, a2, a3, a4, a5, a6⟩ := pa
                  obtain ⟨c1, c2, c3, c4, c5, c6⟩ := pb
                  simp only at h1 h2 h3 h4 h5 h7
                  rw [h1, h2, h3, h4, h5, h7])
              have HPp := Lib.hid (And.intro hpa hpb)
              clear hca hcb hSa hSb hnq hbb hpa hpb
              go_upto_region 15 with (fail)
              go_cut [65] from 57 to 65 (fun v65 wx => v65 = .bool bb ∧ Below wr.heap.size wr wx)
              case first =>
                have HB := Lib.hid (show Below wr.heap.size wr wr.drew from (Below.refl _ _).drew)
                refine wp_region_held_drew (S := (fun V => V.cell? ⟨g, q + j * 6, none⟩ = some (.int .i64 pa.kd) ∧ V.cell? ⟨g, q + j * 6 + 1, none⟩ = some (.int .i64 pa.ep) ∧ V.cell? ⟨g, q + j * 6 + 2, none⟩ = some (.int .i64 pa.nu) ∧ V.cell? ⟨g, q + j * 6 + 3, none⟩ = some (.int .i64 pa.pa) ∧ V.cell? ⟨g, q + j * 6 + 4, none⟩ = some (.int .i64 pa.ps) ∧ V.cell? ⟨g, q + j * 6 + 5, none⟩ = some (.string Sa) ∧ V.cell? ⟨g9, j * 6, none⟩ = some (.int .i64 pb.kd) ∧ V.cell? ⟨g9, j * 6 + 1, none⟩ = some (.int .i64 pb.ep) ∧ V.cell? ⟨g9, j * 6 + 2, none⟩ = some (.int .i64 pb.nu) ∧ V.cell? ⟨g9, j * 6 + 3, none⟩ = some (.int .i64 pb.pa) ∧ V.cell? ⟨g9, j * 6 + 4, none⟩ = some (.int .i64 pb.ps) ∧ V.cell? ⟨g9, j * 6 + 5, none⟩ = some (.string Sb))) (by kernel_rfl) (H12.out _ HB.out) (fun hS => ?_)
                refine wpAnyH_take (i := 0) (v := .slice (some ⟨g, q, none⟩) k c) rfl (by kernel_rfl) (by kernel_rfl) (by kernel_rfl) (fun _ _ _ h => h) (Or.inl ⟨by rfl, ?_⟩) hS ?_
                · intro w hSw
                  obtain ⟨x0, x1, x2, x3, x4, x5, x6, x7, x8, x9, x10, x11⟩ := hSw
                  go_simp
                try simp only [List.getElem_toArray, List.getElem_cons_succ, List.getElem_cons_zero, Act.put, List.setIfInBounds_toArray, List.set_cons_zero, List.set_cons_succ]
                refine wpAnyH_take (i := 1) (v := .int .i64 (j : Int)) rfl (by kernel_rfl) (by kernel_rfl) (by kernel_rfl) (fun _ _ _ h => h) (Or.inl ⟨by rfl, ?_⟩) hS ?_
                · intro w hSw
                  obtain ⟨x0, x1, x2, x3, x4, x5, x6, x7, x8, x9, x10, x11⟩ := hSw
                  go_simp
                try simp only [List.getElem_toArray, List.getElem_cons_succ, List.getElem_cons_zero, Act.put, List.setIfInBounds_toArray, List.set_cons_zero, List.set_cons_succ]
                refine wpAnyH_take (i := 2) (v := .pointer (some ⟨g, q + j * 6, none⟩)) rfl (by kernel_rfl) (by kernel_rfl) (by kernel_rfl) (fun _ _ _ h => h) (Or.inl ⟨by rfl, ?_⟩) hS ?_
                · intro w hSw
                  obtain ⟨x0, x1, x2, x3, x4, x5, x6, x7, x8, x9, x10, x11⟩ := hSw
                  go_simp
                try simp only [List.getElem_toArray, List.getElem_cons_succ, List.getElem_cons_zero, Act.put, List.setIfInBounds_toArray, List.set_cons_zero, List.set_cons_succ]
                refine wpAnyH_take (i := 3) (v := .agg #[.int .i64 pa.kd, .int .i64 pa.ep, .int .i64 pa.nu, .int .i64 pa.pa, .int .i64 pa.ps, .string Sa]) rfl (by kernel_rfl) (by kernel_rfl) (by kernel_rfl) (fun _ _ _ h => h) (Or.inl ⟨by rfl, ?_⟩) hS ?_
                · intro w hSw
                  obtain ⟨x0, x1, x2, x3, x4, x5, x6, x7, x8, x9, x10, x11⟩ := hSw
                  go_simp
                try simp only [List.getElem_toArray, List.getElem_cons_succ, List.getElem_cons_zero, Act.put, List.setIfInBounds_toArray, List.set_cons_zero, List.set_cons_succ]
                refine wpAnyH_take (i := 4) (v := .slice (some ⟨g9, 0, none⟩) k c9) rfl (by kernel_rfl) (by kernel_rfl) (by kernel_rfl) (fun _ _ _ h => h) (Or.inl ⟨by rfl, ?_⟩) hS ?_
                · intro w hSw
                  obtain ⟨x0, x1, x2, x3, x4, x5, x6, x7, x8, x9, x10, x11⟩ := hSw
                  go_simp
                try simp only [List.getElem_toArray, List.getElem_cons_succ, List.getElem_cons_zero, Act.put, List.setIfInBounds_toArray, List.set_cons_zero, List.set_cons_succ]
                refine wpAnyH_take (i := 5) (v := .int .i64 (j : Int)) rfl (by kernel_rfl) (by kernel_rfl) (by kernel_rfl) (fun _ _ _ h => h) (Or.inl ⟨by rfl, ?_⟩) hS ?_
                · intro w hSw
                  obtain ⟨x0, x1, x2, x3, x4, x5, x6, x7, x8, x9, x10, x11⟩ := hSw
                  go_simp
                try simp only [List.getElem_toArray, List.getElem_cons_succ, List.getElem_cons_zero, Act.put, List.setIfInBounds_toArray, List.set_cons_zero, List.set_cons_succ]
                refine wpAnyH_take (i := 6) (v := .pointer (some ⟨g9, j * 6, none⟩)) rfl (by kernel_rfl) (by kernel_rfl) (by kernel_rfl) (fun _ _ _ h => h) (Or.inl ⟨by rfl, ?_⟩) hS ?_
                · intro w hSw
                  obtain ⟨x0, x1, x2, x3, x4, x5, x6, x7, x8, x9, x10, x11⟩ := hSw
                  go_simp
                try simp only [List.getElem_toArray, List.getElem_cons_succ, List.getElem_cons_zero, Act.put, List.setIfInBounds_toArray, List.set_cons_zero, List.set_cons_succ]
                refine wpAnyH_take (i := 7) (v := .agg #[.int .i64 pb.kd, .int .i64 pb.ep, .int .i64 pb.nu, .int .i64 pb.pa, .int .i64 pb.ps, .string Sb]) rfl (by kernel_rfl) (by kernel_rfl) (by kernel_rfl) (fun _ _ _ h => h) (Or.inl ⟨by rfl, ?_⟩) hS ?_
                · intro w hSw
                  obtain ⟨x0, x1, x2, x3, x4, x5, x6, x7, x8, x9, x10, x11⟩ := hSw
                  go_simp
                try simp only [List.getElem_toArray, List.getElem_cons_succ, List.getElem_cons_zero, Act.put, List.setIfInBounds_toArray, List.set_cons_zero, List.set_cons_succ]
                refine wpAnyH_take (i := 8) (v := .bool bb) rfl (by kernel_rfl) (by kernel_rfl) (by kernel_rfl) (fun _ _ _ h => h) (Or.inl ⟨by rfl, ?_⟩) hS ?_
                · intro w hSw
                  obtain ⟨u, hu⟩ := guardP (.tmp 60) (.tmp 64) #[.int .i64 pa.kd, .int .i64 pa.ep, .int .i64 pa.nu, .int .i64 pa.pa, .int .i64 pa.ps, .string Sa] #[.int .i64 pb.kd, .int .i64 pb.ep, .int .i64 pb.nu, .int .i64 pb.pa, .int .i64 pb.ps, .string Sb] w
                  exact bin_exec _ rfl rfl hu (HNq.out w)
                try simp only [List.getElem_toArray, List.getElem_cons_succ, List.getElem_cons_zero, Act.put, List.setIfInBounds_toArray, List.set_cons_zero, List.set_cons_succ]
                refine wpAnyH_done (by kernel_rfl) ?_ _
                go_wp2_with fail
                go_meet
                exact ⟨rfl, HB.out⟩
              case rest =>
                obtain ⟨rfl, hby⟩ := hcut
                have HBy := Lib.hid hby
                clear hby
                cases bb with
                | true =>
                  have HNo := Lib.hid (show ¬ JoinOk l from fun h => by
                    have h1 := (HJ.out h).2.2
                    have h2 : pa = pb := by rw [← HPp.out.1, ← HPp.out.2]; simp only [h1]
                    have h3 := HEq.out.1 h2
                    cases h3)
                  go_wp2_with fail
                  go_ret2
                  exact rj_no HNo.out (HB3.out.trans (HBy.out.mono HB3.out.size))
                | false =>
                  go_wp2_with fail
                  go_roundg (k - (j + 1))
                  case rel =>
                    refine ⟨j + 1, by omega, by go_num, fun i h1 h2 h3 => ?_, HBl.out.trans (HBy.out.mono HBl.out.size)⟩
                    rcases Nat.lt_or_ge i j with h | h
                    · exact HAll.out i h1 h2 h
                    · obtain rfl : i = j := by omega
                      rw [HPp.out.1, HPp.out.2]
                      exact HEq.out.2 (by first | rfl | trivial)
                  case measure => omega
            · obtain rfl : j = k := by omega
              have heq : l = splitL p0.kd p0.ep p0.nu x := List.ext_getElem (by rw [HN.out, HL2.out.1]) fun i h1 h2 => HAll.out i h1 h2 (by rw [HN.out] at h1; exact h1)
              have HOk := Lib.hid (show JoinOk l by rw [heq]; exact join_of_split _ _ _ _ HL2.out.2.1 HL2.out.2.2)
              clear heq
              go_wp2_with fail
              go_ret2
              exact ⟨fun _ => by rw [HX.out.1, HX.out.2.2.2.2.1]; rfl, fun h => absurd HOk.out h, HB3.out⟩
end Go.Proofs.YthkcimojemofgaaDoor

namespace Go.Proofs.YthkcimojemofgaaDoor
open Go.RowKit Go.Lib
set_option linter.unusedVariables false
set_option linter.unusedSimpArgs false

theorem str_bt5 {W : World} {A : Option Addr} {x : List UInt8} (c : Nat) (h : Bt W A x) : Sem.run Tryd.prog (convert 28 9 (.slice A x.length c)) W = .ok (.string ⟨x.toArray⟩) W := by
  rcases Nat.eq_zero_or_pos x.length with h0 | h0
  · have hx : x = [] := List.eq_nil_of_length_eq_zero h0
    rw [hx]
    exact str_none A c W
  · obtain ⟨ad, rfl, hc⟩ := h h0
    have h1 := hc 0 _ (by rw [bcs_get, List.getElem?_eq_getElem h0]; rfl)
    obtain ⟨g, q, s⟩ := ad
    obtain rfl : s = none := by simpa [Addr.add] using World.cell?_spot h1
    exact str_of h c
def LjRel (w : World) (l : List Pc) (kk : Nat) (v i : Value) (wr : World) : Prop :=
  ∃ (k : Nat) (zs : List Zp), k + kk = l.length ∧ i = .int .i64 (k : Int) ∧ zs.map (·.1) = l.take k ∧ (∀ z ∈ zs, Zok wr z) ∧ wr.ownsRow w.heap.size 33 6 v k (zs.flatMap zcs) ∧ (∀ p ∈ l.take k, p.da.length ≤ 100) ∧ Below w.heap.size w wr ∧ (∀ z ∈ zs, ∀ ad, z.2.1 = some ad → v.ownBlock ≠ some ad.block)
theorem Zok.grown {w w' : World} {z : Zp} {r : Option Nat} (h : Zok w z) (hg : w.grownBy w' r) (hne : ∀ ad, z.2.1 = some ad → r ≠ some ad.block) : Zok w' z := by
  obtain ⟨h1, h2, h3, h4⟩ := h
  refine ⟨fun h0 => ?_, h2, h3, fun ad e => ?_⟩
  · obtain ⟨ad, e, hc⟩ := h1 h0
    obtain ⟨gb, qb, e1, -, e3⟩ := h4 ad e
    refine ⟨ad, e, fun j v hv => ?_⟩
    have h5 := hc j v hv
    subst e1
    rw [Addr.add_mid] at h5 ⊢
    rw [World.cell?_of_block (w := w) (hg.block gb e3 (fun e6 => hne _ e e6.symm))]
    exact h5
  · obtain ⟨gb, qb, e1, e2, e3⟩ := h4 ad e
    exact ⟨gb, qb, e1, e2, Nat.lt_of_lt_of_le e3 hg.size⟩
theorem lj_app {w wr W3 : World} {v : Value} {k : Nat} {zs : List Zp} {p : Pc} {A3 : Option Addr} {c3 : Nat} (how : wr.ownsRow w.heap.size 33 6 v k (zs.flatMap zcs)) (hb : Below w.heap.size w wr) (hz : ∀ z ∈ zs, Zok wr z) (hne : ∀ z ∈ zs, ∀ ad, z.2.1 = some ad → v.ownBlock ≠ some ad.block) (hk : k ≤ 1000) (h3 : Below wr.heap.size wr W3) (hz3 : Zok W3 (p, A3, c3)) (hn3 : ∀ ad, A3 = some ad → wr.heap.size ≤ ad.block) (ty : TypeId) :
    ∃ v' w', (Builtin.append_ #[47, 47] ty #[v, .slice (some ⟨W3.heap.size, 0, none⟩) 1 1]).run Tryd.prog (W3.alloc (.cells #[.int .i64 p.kd, .int .i64 p.ep, .int .i64 p.nu, .int .i64 p.pa, .int .i64 p.ps, .slice A3 p.da.length c3] 33)) = .ok v' w' ∧ w'.ownsRow w.heap.size 33 6 v' (k + 1) ((zs ++ [(p, A3, c3)]).flatMap zcs) ∧ Below w.heap.size w w' ∧ (∀ z ∈ zs ++ [(p, A3, c3)], Zok w' z) ∧ (∀ z ∈ zs ++ [(p, A3, c3)], ∀ ad, z.2.1 = some ad → v'.ownBlock ≠ some ad.block) := by
  obtain ⟨W4, hW4⟩ : ∃ W4, W4 = W3.alloc (.cells (zcs (p, A3, c3)).toArray 33) := ⟨_, rfl⟩
  have e4 : W3.alloc (.cells #[.int .i64 p.kd, .int .i64 p.ep, .int .i64 p.nu, .int .i64 p.pa, .int .i64 p.ps, .slice A3 p.da.length c3] 33) = W4 := hW4.symm
  rw [e4]
  have b34 : Below W3.heap.size W3 W4 := by rw [hW4]; exact new_below W3 _
  have br4 : Below wr.heap.size wr W4 := h3.trans (b34.mono h3.size)
  have hd : HdD W4 W3.heap.size (zcs (p, A3, c3)) := by rw [hW4]; exact hd_new W3 _ _
  have s4 : W4.heap.size = W3.heap.size + 1 := by rw [hW4, new_size]
  have ho4 := own_keepR how br4
  obtain ⟨i, hi, hz0, hz1, hz2⟩ := info_parts size_pc6
  obtain ⟨v', w', hr, h2, hg, h4⟩ := app_gen (P := Tryd.prog) w.heap.size 47 ty 33 i _ 6 64 Tryd.underlying47 hi hz0 hz1 hz2 rfl (by decide) v k _ ho4 (some ⟨W3.heap.size, 0, none⟩) 1 1 ([(p, A3, c3)].flatMap zcs) (srcs_one hd) (flatz_one _) (by simp only [maxLen]; omega) (by omega) (by have := hb.size; have := br4.size; omega)
  rw [← List.flatMap_append] at h2
  have hne4 : ∀ z ∈ zs ++ [(p, A3, c3)], ∀ ad, z.2.1 = some ad → v.ownBlock ≠ some ad.block := fun z hz' ad e => by
    rcases List.mem_append.1 hz' with h | h
    · exact hne z h ad e
    · obtain rfl := List.mem_singleton.1 h
      intro e5
      have h6 := (how.lt _ e5).2
      have h7 := hn3 ad e
      omega
  have hz4 : ∀ z ∈ zs ++ [(p, A3, c3)], Zok W3 z := fun z hz' => by
    rcases List.mem_append.1 hz' with h | h
    · exact (hz z h).keep h3
    · obtain rfl := List.mem_singleton.1 h
      exact hz3
  refine ⟨v', w', hr, h2, (hb.trans (br4.mono hb.size)).grown hg (hb.trans (br4.mono hb.size)).size (fun g hg2 => (ho4.lt g hg2).1), fun z hz' => ((hz4 z hz').keep b34).grown hg (hne4 z hz'), fun z hz' ad e => ?_⟩
  rcases h4 with h | h
  · rw [h]
    exact hne4 z hz' ad e
  · rw [h]
    intro e5
    obtain ⟨-, -, -, h8⟩ := hz4 z hz'
    obtain ⟨gb, qb, e6, -, e7⟩ := h8 ad e
    injection e5 with e5
    rw [e6] at e5
    simp only at e5
    omega
theorem own_ps {w : World} {base : Nat} {v : Value} {zs : List Zp} (h : w.ownsRow base 33 6 v zs.length (zs.flatMap zcs)) (hz : ∀ z ∈ zs, Zok w z) : ∃ A c, v = .slice A zs.length c ∧ Ps w A (zs.map (·.1)) 0 := by
  rcases h.2 with ⟨rfl, h0⟩ | ⟨g, cap, cur, rfl, hrest⟩
  · have hx : zs = [] := List.eq_nil_of_length_eq_zero h0
    subst hx
    exact ⟨none, 0, rfl, fun h => absurd h (by simp)⟩
  · obtain ⟨g', c', e, -, -, -, -, h5, -⟩ := own_out h ⟨g, rfl⟩
    exact ⟨_, c', e, ps_of h5 hz⟩
theorem NewBs.zok {w W : World} {p : Pc} {A : Option Addr} {c : Nat} (h : NewBs w W p.da (.slice A p.da.length c)) : Zok W (p, A, c) := by
  obtain ⟨A', c', e, h1, h2, h3, h4⟩ := h
  injection e with e1 e2 e3
  subst e1
  subst e3
  refine ⟨h1, h4, h2, fun ad e => ?_⟩
  obtain ⟨g, r1, r2, r3⟩ := h3 ad e
  exact ⟨g, 0, r1, Nat.zero_le _, r3⟩
theorem lj_below {wr W3 : World} {X : Obj} (h : Below (wr.alloc X).heap.size (wr.alloc X) W3) : Below wr.heap.size wr W3 := (new_below wr X).trans (h.mono (by simp))
theorem lj_ge {wr W3 : World} {X : Obj} {x : List UInt8} {A3 : Option Addr} {n c3 : Nat} (h : NewBs (wr.alloc X) W3 x (.slice A3 n c3)) : ∀ ad, A3 = some ad → wr.heap.size ≤ ad.block := fun ad e => by
  obtain ⟨A', c', e', -, -, h3, -⟩ := h
  injection e' with e1
  subst e1
  obtain ⟨g, r1, r2, -⟩ := h3 ad e
  rw [r1]
  rw [new_size] at r2
  show wr.heap.size ≤ g
  omega
set_option maxRecDepth 100000 in
set_option maxHeartbeats 16000000 in
theorem lawJoins_any (A : Option Addr) (l : List Pc) (c : Nat) (w : World) (hD : Dps w A l) (hf : ∀ p ∈ l, p.Fit) (hlc : l.length ≤ c) (hcm : c ≤ maxLen) (hG : G7 w) (hE : ErrVar w) :
    Calls Tryd.prog 6 #[.slice A l.length c] w fun e w' => e = .returned (.bool true) ∧ Below w.heap.size w w' := by
  have HAw := Lib.hid (fun W (hW : Below w.heap.size w W) => awake7_any W (hG.below hW))
  have HEr := Lib.hid (fun W (hW : Below w.heap.size w W) => hE.below hW)
  have HD := Lib.hid hD
  have HF := Lib.hid hf
  unfold maxLen at hcm
  obtain ⟨n, hn⟩ : ∃ n, l.length = n := ⟨_, rfl⟩
  have HN := Lib.hid hn
  rw [hn] at hlc ⊢
  have HAw0 := Lib.hid (HAw.out w (Below.refl _ _))
  clear hD hf hG hE hn
  go_enter Tryd.func6, Tryd.ntmps6
  by_cases h30 : 30 < n
  · have d1 : decide ((30 : Int) < (n : Int)) = true := decide_eq_true (by omega)
    have d2 : decide (30 < n) = true := decide_eq_true h30
    clear h30
    go_wp2_with (first
        | (go_at_call 9; go_must ((first | with_reducible refine (HAw0.out).mono ?_ | with_reducible refine (HAw.out _ HB1.out).mono ?_); rintro e W1 ⟨rfl, hb1⟩; (first | (have HB1 := Lib.hid (HB1.out.trans (hb1.mono HB1.out.size))) | (have HB1 := Lib.hid hb1)); clear hb1)))
    go_ret
    exact ⟨rfl, HB1.out⟩
  · have d1 : decide ((30 : Int) < (n : Int)) = false := decide_eq_false (by omega)
    have d2 : decide (30 < n) = false := decide_eq_false h30
    have hn30 : n ≤ 30 := by omega
    clear h30
    go_wp2_with (first
        | (go_at_call 9; go_must (with_reducible refine (HAw0.out).mono ?_; rintro e W1 ⟨rfl, hb1⟩; have HB1 := Lib.hid hb1; clear hb1)))
    go_loopg [3, 20] n (LjRel w l)
    case atStart => exact ⟨0, [], by rw [HN.out]; omega, rfl, rfl, by simp, World.ownsRow_nil _ _ _ _, by simp, HB1.out, by simp⟩
    case round =>
      obtain ⟨k, zs, hk, rfl, ez, hz, how, h100, hb, hne⟩ := hrel
      rw [HN.out] at hk
      have HB := Lib.hid hb
      by_cases hlt : k < n
      · have hkl : k < l.length := by rw [HN.out]; exact hlt
        obtain ⟨g, q, rfl, hc⟩ := (HD.out.keep hb) (by omega)
        have hc := hc k hkl
        obtain ⟨p, hp⟩ : ∃ p, l[k] = p := ⟨_, rfl⟩
        rw [hp] at hc
        have y0 := hc 0 _ rfl
        have y1 := hc 1 _ rfl
        have y2 := hc 2 _ rfl
        have y3 := hc 3 _ rfl
        have y4 := hc 4 _ rfl
        have y5 := hc 5 _ rfl
        simp only [Nat.add_zero] at y0
        have hRe := fun W => real_pc p W
        unfold Pc.dv Pc.pv at hRe
        obtain ⟨SP, hSP⟩ : ∃ S : ByteArray, (⟨p.da.toArray⟩ : ByteArray) = S := ⟨_, rfl⟩
        have hsz : SP.size = p.da.length := by rw [← hSP]; exact List.size_toArray
        rw [hSP] at y5 hRe
        obtain ⟨m, hm⟩ : ∃ m, p.da.length = m := ⟨_, rfl⟩
        rw [hm] at hsz
        have HRe := Lib.hid hRe
        have HR := Lib.hid (And.intro hk (And.intro ez (And.intro hz (And.intro how (And.intro h100 (And.intro hp (And.intro hm hSP)))))))
        have HAp := Lib.hid (fun (W3 : World) (A3 : Option Addr) (c3 : Nat) h3 hz3 hn3 => lj_app (p := p) (W3 := W3) (A3 := A3) (c3 := c3) how hb hz hne (by omega) h3 hz3 hn3 47)
        clear hc hb hk ez hz how h100 hp hSP hRe hm hne
        by_cases hm100 : 100 < m
        · have d3 : decide ((100 : Int) < (m : Int)) = true := decide_eq_true (by omega)
          have d4 : decide (100 < m) = true := decide_eq_true hm100
          clear hm100
          go_wp2_with fail
          go_ret
          exact ⟨rfl, HB.out.alloc HB.out.size _⟩
        · have d3 : decide ((100 : Int) < (m : Int)) = false := decide_eq_false (by omega)
          have d4 : decide (100 < m) = false := decide_eq_false hm100
          go_wp2_with (first
            | (go_at_call 11; go_must (with_reducible refine (HRe.out _).mono ?_; rintro e W3 ⟨A3, c3, rfl, hn3, hb3⟩; have h3 := lj_below hb3; obtain ⟨v', w', hr, ho, hbw, hz4, hne4⟩ := HAp.out W3 A3 c3 h3 hn3.zok (lj_ge hn3); have HO := Lib.hid (And.intro ho (And.intro hbw (And.intro hz4 hne4))); clear hn3 hb3 h3 ho hbw hz4 hne4))
            | ((with_reducible refine at_slot 32 ?_); go_must (refine wpList_runH rfl v' w' ?_ ?_; exact append_exec _ rfl rfl hr; intro W6 HW6)))
          go_roundg (n - (k + 1))
          case rel =>
            obtain ⟨r1, r2, r3, r4, r5, r6, r7, r8⟩ := HR.out
            obtain ⟨o1, o2, o3, o4⟩ := HO.out
            refine ⟨k + 1, zs ++ [(p, A3, c3)], by rw [HN.out]; omega, by go_num, ?_, by rw [HW6.out]; exact o3, by rw [HW6.out]; exact o1, ?_, by rw [HW6.out]; exact o2, o4⟩
            · rw [List.map_append, r2, List.take_succ_eq_append_getElem hkl, r6]
              rfl
            · intro z hz'
              rw [List.take_succ_eq_append_getElem hkl, r6] at hz'
              rcases List.mem_append.1 hz' with h | h
              · exact r5 z h
              · obtain rfl := List.mem_singleton.1 h
                rw [r7]
                omega
          case measure => have := HR.out.1; omega
      · obtain rfl : k = n := by omega
        rw [show l.take k = l from List.take_of_length_le (by rw [HN.out]; exact Nat.le_refl _)] at ez h100
        have hzl : zs.length = k := by
          have h := congrArg List.length ez
          rwa [List.length_map, HN.out] at h
        rw [← hzl] at how
        obtain ⟨Ap, cp, rfl, hps⟩ := own_ps how hz
        rw [hzl]
        rw [ez] at hps
        have hj := rjoin_any wr Ap cp l 0 hps HF.out (by rw [HN.out]; omega)
        rw [HN.out] at hj
        have hrj := fun W (hW : Below w.heap.size w W) => rj_any A l c W (HD.out.keep hW) HF.out (by rw [HN.out]; omega) h100
        rw [HN.out] at hrj
        obtain ⟨x, hx⟩ : ∃ x, joinB l = x := ⟨_, rfl⟩
        by_cases hok : JoinOk l
        · have HJ := Lib.hid (join_yes hj hok)
          have hrj2 := fun W (hW : Below w.heap.size w W) => (hrj W hW).mono fun e w' h => (⟨h.1 hok, h.2.2⟩ : e = .returned (.tuple #[.string ⟨(joinB l).toArray⟩, .bool true]) ∧ Below W.heap.size W w')
          rw [hx] at HJ hrj2
          have hst := fun W A' c' (hB : Bt W A' x) => str_bt5 c' hB
          obtain ⟨SX, hSX⟩ : ∃ S : ByteArray, (⟨x.toArray⟩ : ByteArray) = S := ⟨_, rfl⟩
          obtain ⟨m, hm⟩ : ∃ m, x.length = m := ⟨_, rfl⟩
          rw [hSX] at hrj2 hst
          rw [hm] at HJ hst
          have HRJ := Lib.hid hrj2
          have HSt := Lib.hid hst
          clear hk ez hz how h100 hb hne hzl hps hj hrj hx hok hrj2 hst hSX hm
          go_wp2_with (first
            | (go_at_call 21; go_must (with_reducible refine HJ.out.mono ?_; rintro e W8 ⟨Aj, cj, rfl, hbj, hb8⟩; have HBj := Lib.hid hbj.1; have HB8 := Lib.hid (HB.out.trans (hb8.mono HB.out.size)); clear hbj hb8))
            | (go_at_call 23; go_must (with_reducible refine (HRJ.out _ HB8.out).mono ?_; rintro e W9 ⟨rfl, hb9⟩; have hs9 := HSt.out W9 Aj cj (HBj.out.keep hb9); have HB9 := Lib.hid (HB8.out.trans (hb9.mono HB8.out.size)); clear hb9)))
          go_ret
          exact ⟨by simp, HB9.out⟩
        · have HJ := Lib.hid (join_ans hj hok)
          have HRJ := Lib.hid (fun W (hW : Below w.heap.size w W) => (hrj W hW).mono fun e w' h => (⟨h.2.1 hok, h.2.2⟩ : e = .returned (.tuple #[.string ⟨#[]⟩, .bool false]) ∧ Below W.heap.size W w'))
          have hT := fun W (hW : Below w.heap.size w W) => tell_err 1 W (HEr.out W hW)
          rw [show errR 1 = .iface 55 (.int .i64 1) from rfl] at hT
          have HT := Lib.hid hT
          clear hk ez hz how h100 hb hne hzl hps hj hrj hx hok hT
          go_wp2_with (first
            | (go_at_call 21; go_must (with_reducible refine HJ.out.mono ?_; rintro e W8 ⟨rfl, hb8⟩; have HB8 := Lib.hid (HB.out.trans (hb8.mono HB.out.size)); clear hb8))
            | (go_at_call 23; go_must (with_reducible refine (HRJ.out _ HB8.out).mono ?_; rintro e W9 ⟨rfl, hb9⟩; have HB9 := Lib.hid (HB8.out.trans (hb9.mono HB8.out.size)); clear hb9))
            | (go_at_call 13; go_must (with_reducible refine (HT.out _ HB9.out).mono ?_; rintro e W10 ⟨rfl, hb10⟩; have HB10 := Lib.hid (HB9.out.trans (hb10.mono HB9.out.size)); clear hb10))
            | (go_at_call 24; go_must (refine (err_any _ _).mono ?_; rintro e W11 ⟨rfl, hb11⟩; have HB11 := Lib.hid (HB10.out.trans (hb11.mono HB10.out.size)); clear hb11)))
          go_ret
          exact ⟨by simp, HB11.out⟩
end Go.Proofs.YthkcimojemofgaaDoor

namespace Go.Proofs.YthkcimojemofgaaDoor
open Go.ChangeShapes Go.WideShapes Go.ChangeAt Go.RowKit Go.Lib
set_option linter.unusedVariables false
set_option linter.unusedSimpArgs false

theorem own : ownKnob Tryd.prog.godebug = none := by kernel_rfl
theorem et : Tryd.prog.globalNamed "errors.errorType" = some 0 := by kernel_rfl
theorem rt : (Tryd.prog.cutTypes.find? (·.1 == "internal/reflectlite.rtype")).map (·.2) = some 101 := by kernel_rfl
theorem nTypes : Tryd.prog.types.size = 187 := by kernel_rfl
theorem oneRow : ((List.range 187).filter fun t => Tryd.prog.rowNamed t [101, 114, 114, 111, 114]) = [30] := by kernel_rfl
theorem errHandle : typeHandle Tryd.prog 30 = .pointer (some ⟨7, 30, none⟩) := by kernel_rfl
/-- The variables that the rows list: with errors.errorType; without. -/
def laidA : List (String × DataW Unit) := [("math/bits.deBruijn32tab", Rows.laid_math_bits_deBruijn32tab), ("math/bits.deBruijn64tab", Rows.laid_math_bits_deBruijn64tab), ("internal/strconv.uint64pow10", Rows.laid_internal_strconv_uint64pow10), ("errors.errorType", Rows.laid_errors_errorType), ("strconv.ErrRange", Rows.laid_strconv_ErrRange), ("strconv.ErrSyntax", Rows.laid_strconv_ErrSyntax)]
def laidB : List (String × DataW Unit) := [("math/bits.deBruijn32tab", Rows.laid_math_bits_deBruijn32tab), ("math/bits.deBruijn64tab", Rows.laid_math_bits_deBruijn64tab), ("internal/strconv.uint64pow10", Rows.laid_internal_strconv_uint64pow10), ("strconv.ErrRange", Rows.laid_strconv_ErrRange), ("strconv.ErrSyntax", Rows.laid_strconv_ErrSyntax)]
/-- The numbers that a table's data tells. -/
def litNums : DataW Unit → List Int
  | .agg l => l.filterMap fun | .lit (.int _ z) => some z | _ => none
  | _ => []
def debTab : List Int := litNums Rows.laid_math_bits_deBruijn64tab
set_option maxRecDepth 100000 in
theorem deb_eq : Rows.laid_math_bits_deBruijn64tab = tabData (H := Unit) .u8 debTab := by kernel_rfl
theorem deb_15 : debTab.getD 15 0 = 4 := by kernel_rfl
theorem deb_named : Tryd.prog.globalNamed "math/bits.deBruijn64tab" = some 6 := by kernel_rfl
theorem g7_of {W : World} {l : List (String × DataW Unit)} (h : laidMet Tryd.prog l W) (hm : ("math/bits.deBruijn64tab", Rows.laid_math_bits_deBruijn64tab) ∈ l) : G7 W := by
  obtain ⟨g, t, cs, fuel, p, hg, hty, hvar, hd⟩ := Lib.laidMet.reads h (n := "math/bits.deBruijn64tab") (d := Rows.laid_math_bits_deBruijn64tab) hm
  rw [deb_eq] at hd
  obtain rfl := Option.some.inj (deb_named.symm.trans hg)
  obtain rfl := Option.some.inj ((show (Tryd.prog.globals[6]?).map (·.type) = some 160 by kernel_rfl).symm.trans hty)
  have htab : Lib.TabIs Tryd.prog W "math/bits.deBruijn64tab" .u8 debTab := by
    unfold TabIs
    rw [hvar, ← cells_of_tab Tryd.underlying160 Tryd.underlying5 (by kernel_rfl) (by kernel_rfl) hd]
  have hc := htab.cell deb_named 15 (by decide)
  have hD : Deb W := by
    unfold Deb
    rw [hc]
    rw [deb_15]
  exact ⟨hD, lt_of_cell hD⟩
theorem g7_of_A {W : World} (h : laidMetH Tryd.prog laidA W) : G7 W ∧ ErrVar W := by
  have h' : laidMet Tryd.prog laidB W ∧ handlesMet Tryd.prog [("errors.errorType", Rows.laid_errors_errorType)] W := h
  refine ⟨g7_of h'.1 (.tail _ (.head _)), ?_⟩
  obtain ⟨name, u, ty, e1, e2, e3, e4, e5⟩ := h'.2 _ (List.mem_singleton.2 rfl)
  have en : name = [101, 114, 114, 111, 114] := (Option.some.inj e1).symm
  subst en
  obtain rfl := Option.some.inj (rt.symm.trans e2)
  have hm : ty ∈ (List.range 187).filter fun t => Tryd.prog.rowNamed t [101, 114, 114, 111, 114] := List.mem_filter.2 ⟨List.mem_range.2 (by rw [← nTypes]; exact e3), e4⟩
  rw [oneRow] at hm
  obtain rfl := List.mem_singleton.1 hm
  rw [errHandle] at e5
  unfold ErrVar
  simpa using World.var?_cell et e5 0
theorem g7_of_B {W : World} (h : laidMetH Tryd.prog laidB W) : G7 W := by
  have h' : laidMet Tryd.prog laidB W := h
  exact g7_of h' (.tail _ (.head _))
/-- The cells that a table's data tells. -/
def litCells : DataW Unit → List Value
  | .agg l => l.filterMap fun | .lit (.int k z) => some (.int k z) | _ => none
  | _ => []
/-- The text behind an error's value. -/
def litText : DataW Unit → ByteArray
  | .iface _ (.ptr (.agg [.lit (.string l)])) => ⟨l.toArray⟩
  | _ => ⟨#[]⟩
/-- A world for the witness: the settled one, the listed variables holding what their initialisers lay. -/
noncomputable def laidWorld (os : Os) : World :=
  let w0 := World.holding Tryd.prog os ⟨#[], #[], []⟩
  let put (h : Array Obj) (g : Nat) (cs : Array Value) : Array Obj := h.modify g fun
    | .cells _ t frozen => .cells cs t frozen
    | o => o
  let h1 := put w0.heap 3 (litCells Rows.laid_internal_strconv_uint64pow10).toArray
  let h2 := put h1 5 (litCells Rows.laid_math_bits_deBruijn32tab).toArray
  let h3 := put h2 6 (litCells Rows.laid_math_bits_deBruijn64tab).toArray
  let h4 := put h3 0 #[.iface 101 (.agg #[.pointer (some ⟨7, 30, none⟩)])]
  let h5 := put h4 2 #[.iface 146 (.pointer (some ⟨w0.heap.size, 0, none⟩))]
  let h6 := put h5 1 #[.iface 146 (.pointer (some ⟨w0.heap.size + 1, 0, none⟩))]
  { w0 with heap := (h6.push (.cells #[.string (litText Rows.laid_strconv_ErrRange)] 148)).push (.cells #[.string (litText Rows.laid_strconv_ErrSyntax)] 148) }
set_option maxRecDepth 100000 in
theorem laid_metB (os : Os) (args : Array Value) : laidMetH Tryd.prog laidB ((laidWorld os).forCall (fun _ _ => 0) ⟨#[], args, []⟩).memory :=
  laidMetH_of_parts (laidMet_of_run' 8 (by kernel_rfl) (by kernel_rfl)) (by kernel_rfl)
set_option maxRecDepth 100000 in
theorem laid_metA (os : Os) (args : Array Value) : laidMetH Tryd.prog laidA ((laidWorld os).forCall (fun _ _ => 0) ⟨#[], args, []⟩).memory :=
  laidMetH_of_parts (laidMet_of_run' 8 (by kernel_rfl) (by kernel_rfl)) (by kernel_rfl)
end Go.Proofs.YthkcimojemofgaaDoor

namespace Go.Proofs.YthkcimojemofgaaDoor.recordJoins
open Go.ChangeMaps Go.ChangeShapes Go.WideShapes Go.ChangeAt Go.RowKit Go.Lib
set_option linter.unusedVariables false
set_option linter.unusedSimpArgs false

theorem laidOut : laidOutB Tryd.prog = true := by kernel_rfl

set_option maxRecDepth 100000 in
/-- What the walk gives, for every argument and every world that holds the variable. -/
theorem contract (H : Type) (enc : TypeId × Value → H) (W : World) (base : Nat) (args : Array Value) (ds gs : List (DataW H)) (before : List MemPlace)
    (hval : ∀ (j : Nat) t v, Tryd.f6.params[j]? = some t → args[j]? = some v → Value.okWide Tryd.prog W .any base t v)
    (hW : DataW.Whole enc Tryd.prog Tryd.f6.params.toList Rows.recordJoinsSpec.vars false W args.toList ds gs before) (hL : laidMetH Tryd.prog Rows.recordJoinsRow.laid W) :
    Calls Tryd.prog 6 args W fun e W' => ∃ v, e = .returned v ∧ Rows.recordJoinsSpec.post enc Tryd.prog Tryd.f6 false true false false W args v W' := by
  obtain ⟨hG, hE⟩ := g7_of_A hL
  have hW' := hW
  obtain ⟨p, q, hA0, hV, rfl, hfz, hnd⟩ := hW
  have hA : DataW.TrodAll enc Tryd.prog W 0 (fun _ => true) true Tryd.f6.params.toList args.toList ds p := hA0
  rw [Tryd.params6] at hA hval
  obtain ⟨v0, d0, rfl, rfl, h0⟩ := trodAll_one hA
  obtain ⟨rfl, rfl⟩ := trodVars_none hV
  obtain ⟨a0, l0, c0, rfl⟩ := okWide_slice Tryd.underlying50 (hval 0 50 v0 rfl rfl)
  have h0k := h0
  obtain ⟨fuel0, hf0⟩ := h0
  clear hA0
  simp only [List.append_nil] at hW'
  obtain ⟨A, l, cx, hw0, hlc, hcm, -, hD, hF⟩ := open_ps hf0
  have e2' : Value.slice a0 l0 c0 = .slice A l.length cx := by simpa [Value.cells] using hw0
  injection e2' with i4 i5 i6
  subst i4 i5 i6
  have hlt0 : ∀ x ∈ p, x.block < W.heap.size := fun x hx => by simpa using hW'.lt x hx
  refine (lawJoins_any _ l _ W hD hF hlc hcm hG hE).mono fun e W' ⟨he, hb⟩ => ?_
  subst he
  refine ⟨_, rfl, _, _, _, [], p, [], hW', ?_, ?_, rfl, hb.frame _, fun h => by cases h⟩
  · exact trodAll_mk1 (shut_bool Tryd.underlying4 true)
  · exact trodAll_mk1 (Below.trod laidOut (by kernel_rfl) (of_decide_eq_true (by kernel_rfl)) h0k hb hlt0)

theorem reads (os : Os) {H : Type} (enc : TypeId × Value → H) : ∃ places, DataW.whole enc Tryd.prog ((laidWorld os).forCall (fun _ _ => 0) ⟨#[], #[.slice none 0 0], []⟩).memory Tryd.f6.params.toList Rows.recordJoinsSpec.vars false (#[.slice none 0 0] : Array Value).toList 8 = some ([.nil], [], places) :=
  ⟨[], by kernel_rfl⟩

set_option maxRecDepth 100000 in
theorem lifted (os : Os) (started : os.Started) (H : Type) (enc : TypeId × Value → H) (F : Stop.Interp) :
    ReturnsInHanded {} Tryd.checked os 6 .any ((OpenSpec.ofChange Rows.recordJoinsSpec).preRow enc Tryd.prog Tryd.f6 Rows.recordJoinsRow.domain false Rows.recordJoinsRow.laid) (((OpenSpec.ofChange Rows.recordJoinsSpec).at F).post enc Tryd.prog Tryd.f6 false true false false) := by
  obtain ⟨places, hx⟩ := reads os enc
  refine returnsInHanded_of_row (C := Tryd.checked) (s := OpenSpec.ofChange Rows.recordJoinsSpec) own started (by kernel_rfl) Tryd.func6
    (witness_row_at (enc := enc) (C := Tryd.checked) false (laidWorld os) #[.slice none 0 0] rfl (by kernel_rfl) (by kernel_rfl) (by kernel_rfl)
      (OpenSpec.preRow_of_cond 8 hx (by kernel_rfl) (fun k hk => by cases hk) (by kernel_rfl) (laid_metA os _))) ?_
  intro W base args ds gs before hval hW _ _ _ hL _ _
  exact contract H enc W base args ds gs before hval hW hL

theorem said : Rows.RecordJoinsSaid :=
  OpenClaim.holds_of_cond 6 Tryd.f6 rfl rfl rfl rfl rfl rfl rfl ⟨rfl, rfl, rfl, rfl, rfl⟩ rfl rfl rfl rfl rfl (by kernel_rfl) Tryd.func6 (by kernel_rfl)
    (of_decide_eq_true (by kernel_rfl)) (by unfold Func.isWrapper; first | (rw [if_pos (by decide +kernel)]; kernel_rfl) | (rw [if_neg (by decide +kernel)]; exact ⟨rfl, rfl⟩))
    (fun os started H enc _ F => by rw [OpenClaim.pre_eq_preRow]; exact lifted os started H enc F)

theorem plain (f : FuncId) (fn : Func) (hf : Tryd.pinned.checked.prog.funcNamed "enfilade/enfiladelaw07.RecordJoins" = some f) (hfn : Tryd.pinned.checked.prog.funcs[f]? = some fn) :
    true = Tryd.pinned.checked.prog.looks [] ∧ ∀ (j : Nat) t, fn.params[j]? = some t → Tryd.pinned.checked.prog.wantsStandIn t = false := by
  obtain rfl : f = 6 := Option.some.inj ((show Tryd.prog.funcNamed "enfilade/enfiladelaw07.RecordJoins" = some 6 by kernel_rfl).symm.trans hf) |>.symm
  obtain rfl : fn = Tryd.f6 := (Option.some.inj (Tryd.func6.symm.trans hfn)).symm
  refine ⟨by kernel_rfl, fun j t ht => ?_⟩
  rw [Tryd.params6] at ht
  obtain rfl : t = 50 := by simpa using Array.mem_of_getElem? ht
  exact (show Tryd.prog.wantsStandIn 50 = false by kernel_rfl)

theorem card : Rows.RecordJoinsCardSaid :=
  Claim7.holds_tied_plain_at .later [] _ _ _ _ said (fun _ h => by cases h) (by kernel_rfl) (fun _ h => by cases h) recordJoins_row_tie rfl ⟨rfl, rfl⟩ (by kernel_rfl) rfl plain (by kernel_rfl)
end Go.Proofs.YthkcimojemofgaaDoor.recordJoins
namespace Go.Proofs.YthkcimojemofgaaDoor
theorem recordJoins_card : Rows.RecordJoinsCardSaid := recordJoins.card
end Go.Proofs.YthkcimojemofgaaDoor
