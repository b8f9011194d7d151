/-
  What the form's reading of an argument of the document's kind V gives: a tree, and memory that holds it; how much there is of it is bounded by how much was read.
-/
import Derived.Test.YtpehddbpingobaaDoorMem2
import Derived.Test.YtpehddbpingobaaDoorFew
import Derived.Test.YtpehddbpingobaaDoorCards
import Derived.Deep.Slices
import Derived.ChangeArms
namespace Go.Proofs.YtpehddbpingobaaDoor
open Go.RowKit Go.Lib
set_option linter.unusedVariables false
set_option linter.unusedSimpArgs false

theorem bulk_pos {H : Type} (d : DataW H) : 1 ≤ Rows.uptoBulk d := by
  cases d with
  | lit l => cases l <;> simp [Rows.uptoBulk]
  | nil => simp [Rows.uptoBulk]
  | ptr d => simp [Rows.uptoBulk]
  | slice elems spare => simp [Rows.uptoBulk]
  | agg parts => simp [Rows.uptoBulk]
  | iface t d => simp [Rows.uptoBulk]
  | map entries => simp [Rows.uptoBulk]
  | held h => simp [Rows.uptoBulk]
theorem bulkAll_len {H : Type} : ∀ (l : List (DataW H)), l.length ≤ Rows.uptoBulkAll l
  | [] => by simp [Rows.uptoBulkAll]
  | x :: r => by have := bulk_pos x; have := bulkAll_len r; simp only [Rows.uptoBulkAll, List.length_cons]; omega
theorem bulkAll_mem {H : Type} {d : DataW H} : ∀ {l : List (DataW H)}, d ∈ l → Rows.uptoBulk d ≤ Rows.uptoBulkAll l
  | x :: r, h => by
    simp only [Rows.uptoBulkAll]
    rcases List.mem_cons.1 h with e | e
    · subst e; omega
    · have := bulkAll_mem e; omega

theorem cV : Tryd.prog.cellsOf 25 = 6 := by kernel_rfl
theorem cM : Tryd.prog.cellsOf 50 = 7 := by kernel_rfl
theorem cInt : Tryd.prog.cellsOf 3 = 1 := by kernel_rfl
theorem cBool : Tryd.prog.cellsOf 4 = 1 := by kernel_rfl
theorem cStr : Tryd.prog.cellsOf 9 = 1 := by kernel_rfl
theorem cVs : Tryd.prog.cellsOf 22 = 1 := by kernel_rfl
theorem cMs : Tryd.prog.cellsOf 23 = 1 := by kernel_rfl

/-- Elements that are read one by one, as a list. -/
theorem list_of {H : Type} {W : World} {M b off : Nat} (D : Nat → DataW H) : ∀ (len start : Nat), (∀ i, start ≤ i → i < start + len → ∃ (v : V) (c : C6), b < W.heap.size ∧ (∀ j, j < 6 → W.cell? ⟨b, off + i * 6 + j, none⟩ = c.arr[j]?) ∧ Val W (· < W.heap.size) M v c.arr ∧ wgt v ≤ Rows.uptoBulk (D i)) →
    ∃ l : List V, l.length = len ∧ ValL W (· < W.heap.size) M l (some ⟨b, off, none⟩) start ∧ wgtL l ≤ Rows.uptoBulkAll ((List.range len).map fun i => D (start + i))
  | 0, start, _ => ⟨[], rfl, by rw [ValL]; trivial, by simp [wgtL]⟩
  | len + 1, start, h => by
    obtain ⟨v, c, hb, hc, hv, hw⟩ := h start (Nat.le_refl _) (by omega)
    obtain ⟨l, hl, hvl, hwl⟩ := list_of D len (start + 1) (fun i h1 h2 => h i (by omega) (by omega))
    refine ⟨v :: l, by simp [hl], ?_, ?_⟩
    · rw [ValL]
      exact ⟨⟨b, off, c.arr, rfl, hb, hc, hv⟩, hvl⟩
    · rw [wgtL, List.range_succ_eq_map, List.map_cons, Rows.uptoBulkAll, List.map_map]
      have e : ((fun i => D (start + i)) ∘ Nat.succ) = fun i => D (start + 1 + i) := funext fun i => by show D (start + (i + 1)) = _; congr 1; omega
      rw [e]
      simp only [Nat.add_zero]
      omega
theorem map_of {H : Type} {W : World} {M b off : Nat} (D : Nat → DataW H) : ∀ (len start : Nat), (∀ i, start ≤ i → i < start + len → ∃ (s : ByteArray) (v : V) (c : C6), b < W.heap.size ∧ s.size ≤ M ∧ W.cell? ⟨b, off + i * 7, none⟩ = some (.string s) ∧ (∀ j, j < 6 → W.cell? ⟨b, off + i * 7 + (1 + j), none⟩ = c.arr[j]?) ∧ Val W (· < W.heap.size) M v c.arr ∧ wgt v + s.size / 20 ≤ Rows.uptoBulk (D i)) →
    ∃ l : List (ByteArray × V), l.length = len ∧ ValM W (· < W.heap.size) M l (some ⟨b, off, none⟩) start ∧ wgtM l ≤ Rows.uptoBulkAll ((List.range len).map fun i => D (start + i))
  | 0, start, _ => ⟨[], rfl, by rw [ValM]; trivial, by simp [wgtM]⟩
  | len + 1, start, h => by
    obtain ⟨s, v, c, hb, hs, hk, hc, hv, hw⟩ := h start (Nat.le_refl _) (by omega)
    obtain ⟨l, hl, hvl, hwl⟩ := map_of D len (start + 1) (fun i h1 h2 => h i (by omega) (by omega))
    refine ⟨(s, v) :: l, by simp [hl], ?_, ?_⟩
    · rw [ValM]
      exact ⟨⟨b, off, c.arr, rfl, hb, hs, hk, hc, hv⟩, hvl⟩
    · rw [wgtM, List.range_succ_eq_map, List.map_cons, Rows.uptoBulkAll, List.map_map]
      have e : ((fun i => D (start + i)) ∘ Nat.succ) = fun i => D (start + 1 + i) := funext fun i => by show D (start + (i + 1)) = _; congr 1; omega
      rw [e]
      simp only [Nat.add_zero]
      omega

set_option maxRecDepth 100000 in
theorem open_V {H : Type} {enc : TypeId × Value → H} {W : World} {M : Nat} : ∀ (K fuel : Nat) (cs : List Value) (x : DataW H × List MemPlace), DataW.trod enc Tryd.prog W 0 (fun _ => true) true fuel 25 cs = some x → Rows.uptoBulk x.1 ≤ K → K ≤ M →
    ∃ (v : V) (c : C6), cs = c.cells ∧ Val W (· < W.heap.size) M v c.arr ∧ wgt v ≤ Rows.uptoBulk x.1
  | 0, fuel, cs, x, h, hk, hM => by have := bulk_pos x.1; omega
  | K + 1, fuel, cs, x, h, hk, hM => by
    obtain ⟨xs, n, rfl, rfl, hcl, hxl, hf⟩ := DataW.trod_struct Tryd.underlying25 h
    rw [cV] at hcl
    match xs, hxl, cs, hcl with
    | [x0, x1, x2, x3, x4, x5], _, [v0, v1, v2, v3, v4, v5], _ =>
    have g0 : DataW.trod enc Tryd.prog W 0 (fun _ => true) true n 3 (([v0, v1, v2, v3, v4, v5].drop 0).take (Tryd.prog.cellsOf 3)) = some x0 := hf 0 _ rfl
    have g1 : DataW.trod enc Tryd.prog W 0 (fun _ => true) true n 4 (([v0, v1, v2, v3, v4, v5].drop 1).take (Tryd.prog.cellsOf 4)) = some x1 := hf 1 _ rfl
    have g2 : DataW.trod enc Tryd.prog W 0 (fun _ => true) true n 3 (([v0, v1, v2, v3, v4, v5].drop 2).take (Tryd.prog.cellsOf 3)) = some x2 := hf 2 _ rfl
    have g3 : DataW.trod enc Tryd.prog W 0 (fun _ => true) true n 9 (([v0, v1, v2, v3, v4, v5].drop 3).take (Tryd.prog.cellsOf 9)) = some x3 := hf 3 _ rfl
    have g4 : DataW.trod enc Tryd.prog W 0 (fun _ => true) true n 22 (([v0, v1, v2, v3, v4, v5].drop 4).take (Tryd.prog.cellsOf 22)) = some x4 := hf 4 _ rfl
    have g5 : DataW.trod enc Tryd.prog W 0 (fun _ => true) true n 23 (([v0, v1, v2, v3, v4, v5].drop 5).take (Tryd.prog.cellsOf 23)) = some x5 := hf 5 _ rfl
    simp only [cInt, cBool, cStr, cVs, cMs, List.drop_zero, List.drop_succ_cons, List.take_succ_cons, List.take_zero] at g0 g1 g2 g3 g4 g5
    obtain ⟨k, e0, rfl, -⟩ := DataW.trod_int Tryd.underlying3 g0
    obtain ⟨y, e1, rfl⟩ := DataW.trod_bool Tryd.underlying4 g1
    obtain ⟨m, e2, rfl, -⟩ := DataW.trod_int Tryd.underlying3 g2
    obtain ⟨t, e3, rfl, -⟩ := DataW.trod_string Tryd.underlying9 g3
    simp only [List.cons.injEq, and_true] at e0 e1 e2 e3
    subst e0 e1 e2 e3
    clear g0 g1 g2 g3 hf h
    simp only [List.map_cons, List.map_nil, Rows.uptoBulk, Rows.uptoBulkAll] at hk ⊢
    have htl : t.data.toList.length = t.size := by rw [Array.length_toList]; rfl
    rw [htl] at hk ⊢
    have b4 := bulk_pos x4.1
    have b5 := bulk_pos x5.1
    have hk4 : Rows.uptoBulk x4.1 + 1 ≤ K + 1 := by omega
    have hk5 : Rows.uptoBulk x5.1 + 1 ≤ K + 1 := by omega
    have hL : ∃ (A : Option Addr) (l : List V) (c : Nat), v4 = .slice A l.length c ∧ l.length ≤ c ∧ (A = none → c = 0) ∧ ValL W (· < W.heap.size) M l A 0 ∧ l.length ≤ M ∧ wgtL l + 1 ≤ Rows.uptoBulk x4.1 := by
      rcases Go.Deep.open_slice Tryd.underlying22 g4 with ⟨e, rfl⟩ | ⟨a, len, cap, mm, n', D, Pl, e, -, hl, hc, hmm, rfl, hx⟩
      · simp only [List.cons.injEq, and_true] at e
        exact ⟨none, [], 0, e, by simp, fun _ => rfl, by rw [ValL]; trivial, by simp, by simp [wgtL, Rows.uptoBulk]⟩
      · simp only [List.cons.injEq, and_true] at e
        simp only [if_true] at hmm
        obtain rfl : mm = cap := hmm
        simp only [Rows.uptoBulk] at hk4 ⊢
        clear hk b4
        have hlen := bulkAll_len ((List.range len).map D)
        simp only [List.length_map, List.length_range] at hlen
        obtain ⟨b, off, spot⟩ := a
        by_cases h0 : len = 0
        · subst h0
          exact ⟨some ⟨b, off, spot⟩, [], mm, e, by simp, (fun h => by cases h), by rw [ValL]; trivial, by simp, by simp [wgtL, Rows.uptoBulkAll]⟩
        · have hspot : spot = none := by
            obtain ⟨cs', h1, -⟩ := hx 0 (by omega)
            rw [cV] at h1
            have := (World.cells?_some h1).2.2 0 (by omega)
            have hl6 := (World.cells?_some h1).2.1
            rw [List.getElem?_eq_getElem (by omega)] at this
            simpa [Addr.add] using World.cell?_spot this
          subst hspot
          obtain ⟨l, hll, hvl, hwl⟩ := list_of (W := W) (M := M) (b := b) (off := off) D len 0 (fun i _ hi => by
            obtain ⟨cs', h1, h2⟩ := hx i (by omega)
            rw [cV] at h1
            obtain ⟨-, hl6, hcell⟩ := World.cells?_some h1
            have hmem : D i ∈ (List.range len).map D := List.mem_map.2 ⟨i, List.mem_range.2 (by omega), rfl⟩
            have hbd := bulkAll_mem hmem
            obtain ⟨v, c, rfl, hv, hw⟩ := open_V (M := M) K n' cs' (D i, Pl i) h2 (by simp only; omega) (by omega)
            refine ⟨v, c, ?_, fun j hj => ?_, hv, hw⟩
            · have := hcell 0 (by omega)
              rw [List.getElem?_eq_getElem (by omega)] at this
              have := World.block_lt_of_cell? W _ this
              simpa [block_add] using this
            · have := hcell j hj
              rw [add_plain, add_plain] at this
              rw [this, C6.arr_get])
          have ez : (fun i => D (0 + i)) = D := funext fun i => by rw [Nat.zero_add]
          rw [ez] at hwl
          exact ⟨some ⟨b, off, none⟩, l, mm, by rw [hll]; exact e, by omega, (fun h => by cases h), hvl, by omega, by omega⟩
    have hMp : ∃ (A : Option Addr) (l : List (ByteArray × V)) (c : Nat), v5 = .slice A l.length c ∧ l.length ≤ c ∧ (A = none → c = 0) ∧ ValM W (· < W.heap.size) M l A 0 ∧ l.length ≤ M ∧ wgtM l + 1 ≤ Rows.uptoBulk x5.1 := by
      rcases Go.Deep.open_slice Tryd.underlying23 g5 with ⟨e, rfl⟩ | ⟨a, len, cap, mm, n', D, Pl, e, -, hl, hc, hmm, rfl, hx⟩
      · simp only [List.cons.injEq, and_true] at e
        exact ⟨none, [], 0, e, by simp, fun _ => rfl, by rw [ValM]; trivial, by simp, by simp [wgtM, Rows.uptoBulk]⟩
      · simp only [List.cons.injEq, and_true] at e
        simp only [if_true] at hmm
        obtain rfl : mm = cap := hmm
        simp only [Rows.uptoBulk] at hk5 ⊢
        clear hk b5 hL
        have hlen := bulkAll_len ((List.range len).map D)
        simp only [List.length_map, List.length_range] at hlen
        obtain ⟨b, off, spot⟩ := a
        by_cases h0 : len = 0
        · subst h0
          exact ⟨some ⟨b, off, spot⟩, [], mm, e, by simp, (fun h => by cases h), by rw [ValM]; trivial, by simp, by simp [wgtM, Rows.uptoBulkAll]⟩
        · have hspot : spot = none := by
            obtain ⟨cs', h1, -⟩ := hx 0 (by omega)
            rw [cM] at h1
            have := (World.cells?_some h1).2.2 0 (by omega)
            have hl6 := (World.cells?_some h1).2.1
            rw [List.getElem?_eq_getElem (by omega)] at this
            simpa [Addr.add] using World.cell?_spot this
          subst hspot
          obtain ⟨l, hll, hvl, hwl⟩ := map_of (W := W) (M := M) (b := b) (off := off) D len 0 (fun i _ hi => by
            obtain ⟨cs', h1, h2⟩ := hx i (by omega)
            rw [cM] at h1
            obtain ⟨-, hl7, hcell⟩ := World.cells?_some h1
            have hmem : D i ∈ (List.range len).map D := List.mem_map.2 ⟨i, List.mem_range.2 (by omega), rfl⟩
            have hbd := bulkAll_mem hmem
            obtain ⟨zs, n2, -, hz, hzl, hzn, hzf⟩ := DataW.trod_struct Tryd.underlying50 h2
            match zs, hzn, cs', hl7 with
            | [z0, z1], _, [u0, u1, u2, u3, u4, u5, u6], _ =>
            have q0 : DataW.trod enc Tryd.prog W 0 (fun _ => true) true n2 9 (([u0, u1, u2, u3, u4, u5, u6].drop 0).take (Tryd.prog.cellsOf 9)) = some z0 := hzf 0 _ rfl
            have q1 : DataW.trod enc Tryd.prog W 0 (fun _ => true) true n2 25 (([u0, u1, u2, u3, u4, u5, u6].drop 1).take (Tryd.prog.cellsOf 25)) = some z1 := hzf 1 _ rfl
            simp only [cStr, cV, List.drop_zero, List.drop_succ_cons, List.take_succ_cons, List.take_zero] at q0 q1
            obtain ⟨s, es, rfl, -⟩ := DataW.trod_string Tryd.underlying9 q0
            simp only [List.cons.injEq, and_true] at es
            subst es
            simp only [List.map_cons, List.map_nil, Prod.mk.injEq] at hz
            rw [hz.1] at hbd ⊢
            simp only [Rows.uptoBulk, Rows.uptoBulkAll] at hbd ⊢
            have hsl : s.data.toList.length = s.size := by rw [Array.length_toList]; rfl
            rw [hsl] at hbd ⊢
            obtain ⟨v, c, hcs, hv, hw⟩ := open_V (M := M) K n2 _ z1 q1 (by omega) (by omega)
            refine ⟨s, v, c, ?_, by omega, ?_, fun j hj => ?_, hv, by omega⟩
            · have := hcell 0 (by omega)
              have := World.block_lt_of_cell? W _ this
              simpa [block_add] using this
            · have := hcell 0 (by omega)
              rw [add_plain, add_plain] at this
              simpa using this
            · have := hcell (1 + j) (by omega)
              rw [add_plain, add_plain] at this
              rw [this, C6.arr_get, ← hcs, Nat.add_comm 1 j]
              rfl)
          have ez : (fun i => D (0 + i)) = D := funext fun i => by rw [Nat.zero_add]
          rw [ez] at hwl
          exact ⟨some ⟨b, off, none⟩, l, mm, by rw [hll]; exact e, by omega, (fun h => by cases h), hvl, by omega, by omega⟩
    obtain ⟨A, l, c, rfl, hlc, hA, hvl, hlM, hwl⟩ := hL
    obtain ⟨A', mp, c', rfl, hmc, hA', hvm, hmM, hwm⟩ := hMp
    refine ⟨.mk k y m t l mp, ⟨k, y, m, t, A, l.length, c, A', mp.length, c'⟩, rfl, ?_, ?_⟩
    · rw [Val]
      exact ⟨A, c, A', c', rfl, ⟨hlc, hmc, by omega, hlM, hmM, hA, hA'⟩, hvl, hvm⟩
    · rw [wgt]; omega
end Go.Proofs.YtpehddbpingobaaDoor
