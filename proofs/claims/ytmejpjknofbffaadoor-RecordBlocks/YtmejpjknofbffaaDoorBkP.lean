/-
  Rows that a call makes: append of whatever slice, append of noughts.
-/
import Derived.Test.YtmejpjknofbffaaDoorProg
import Derived.Test.YtmejpjknofbffaaDoorBkL
import Derived.Test.YtmejpjknofbffaaDoorBcs
import Derived.Lib.SlBytesConst
import Derived.Deep.RegionLaw
import Derived.IntWalk
import Derived.KernelRfl
import Derived.Maps.AppendAt
import Derived.Lib.AppendZeros
import Derived.Laws.OwnMore
namespace Go.Proofs.YtmejpjknofbffaaDoor
open Go.RowKit Go.Lib
set_option linter.unusedVariables false
set_option linter.unusedSimpArgs false

/-- A slice of so many elements, its cells known (nil and empty ones too). -/
def Srcs (w : World) (size : Nat) (A : Option Addr) (m : Nat) (xs : List Value) : Prop := xs.length = m * size ∧ (0 < m → ∃ ad, A = some ad ∧ ∀ j u, xs[j]? = some u → w.cell? (ad.add j) = some u)
theorem Bt.srcs {w : World} {A : Option Addr} {x : List UInt8} (h : Bt w A x) : Srcs w 1 A x.length (bcs x) := ⟨by rw [bcs_len, Nat.mul_one], h⟩
/-- append of whatever slice, to a row of the call's own. -/
theorem app_gen {P : Program} {w : World} (base : Nat) (t ty e : TypeId) (i : TypeInfo) (z : Value) (size bytes : Nat) (ht : P.underlying t = some (.slice e)) (hi : P.info? e = some i) (hz : i.zero = some z) (hsize : i.size = size) (hby : i.bytes = bytes) (hzs : z.cells.size = size) (hsz : 0 < size)
    (v : Value) (n : Nat) (xs : List Value) (hown : w.ownsRow base e size v n xs) (A : Option Addr) (m c : Nat) (news : List Value) (hs : Srcs w size A m news) (h1 : ∀ u ∈ news, u.oneCell' = true) (h63 : n + m ≤ maxLen) (hbytes : (n + m) * bytes ≤ 140737488355328) (hb : base ≤ w.heap.size) :
    ∃ v' w', (Builtin.append_ #[t, t] ty #[v, .slice A m c]).run P w = .ok v' w' ∧ w'.ownsRow base e size v' (n + m) (xs ++ news) ∧ w.grownBy w' v.ownBlock ∧ (v'.ownBlock = v.ownBlock ∨ v'.ownBlock = some w.heap.size) := by
  have none_ : m = 0 → news = [] := fun h => List.eq_nil_of_length_eq_zero (by rw [hs.1, h, Nat.zero_mul])
  cases A with
  | none =>
    have hm0 : m = 0 := by
      rcases Nat.eq_zero_or_pos m with h | h
      · exact h
      · obtain ⟨ad, h, -⟩ := hs.2 h
        cases h
    obtain rfl := none_ hm0
    subst hm0
    refine ⟨v, w, ?_, by simpa using hown, ⟨rfl, rfl, rfl, Nat.le_refl _, fun _ _ _ => rfl⟩, .inl rfl⟩
    rcases hown.2 with ⟨rfl, rfl⟩ | ⟨g, cap, cur, rfl, _, _, hnc, _⟩
    · simp [Builtin.append_, run_underlying ht, sizeOf, typeInfo, hi, Builtin.lenOf, Builtin.firstCells]
    · simp [Builtin.append_, run_underlying ht, sizeOf, typeInfo, hi, Builtin.lenOf, Builtin.firstCells, hnc, storeCells]
  | some ad =>
    have hcells : ∀ q u, news[q]? = some u → w.cell? (ad.add q) = some u := fun q u hu => by
      rcases Nat.eq_zero_or_pos m with h | h
      · rw [none_ h, List.getElem?_nil] at hu
        cases hu
      · obtain ⟨ad', h, hc⟩ := hs.2 h
        injection h with h
        subst h
        exact hc q u hu
    obtain ⟨v', w', hrun, h2, h3, _, h5⟩ := run_append_own_at (P := P) w base t ty e i z size bytes ht hi hz hsize hby hzs hsz v n xs hown ad m c news hs.1 hcells h1 h63 hbytes hb
    exact ⟨v', w', hrun, h2, h3, h5⟩
/-- What a row of the call's own is, written out. -/
theorem own_out {w : World} {base : Nat} {e : TypeId} {size : Nat} {v : Value} {n : Nat} {xs : List Value} (h : w.ownsRow base e size v n xs) (hv : ∃ g, v.ownBlock = some g) :
    ∃ g c, v = .slice (some ⟨g, 0, none⟩) n c ∧ base ≤ g ∧ g < w.heap.size ∧ n ≤ c ∧ c ≤ maxLen ∧ w.rangeAt g 0 xs ∧ w.there g 0 (c * size) := by
  rcases h.2 with ⟨rfl, rfl⟩ | ⟨g, cap, cur, rfl, hg, hh, hnc, hm, hcs, hx⟩
  · obtain ⟨g, hv⟩ := hv
    simp [Value.ownBlock] at hv
  · have hlt : g < w.heap.size := by
      rcases Nat.lt_or_ge g w.heap.size with h | h
      · exact h
      · rw [Array.getElem?_eq_none h] at hh
        cases hh
    refine ⟨g, cap, rfl, hg, hlt, hnc, hm, fun j u hu => ?_, fun j hj => ?_⟩
    · rw [cell_of_row w g (0 + j) cur e (0, 0) hh, Nat.zero_add]
      rw [← hx, List.getElem?_take] at hu
      split at hu
      · rw [Array.getElem?_toList] at hu
        exact hu
      · cases hu
    · refine ⟨?_, by simp [World.frozen?, hh]⟩
      rw [cell_of_row w g (0 + j) cur e (0, 0) hh, Nat.zero_add]
      simp
      omega
theorem info_u8 : (Tryd.prog.info? 5).map (fun i => (i.zero, i.size, i.bytes)) = some (some (.int .u8 0), 1, 1) := by kernel_rfl
/-- The empty row. -/
theorem own_empty (W : World) (base : Nat) (e : TypeId) (size : Nat) (hb : base ≤ W.heap.size) : (W.alloc (.cells #[] e)).ownsRow base e size (.slice (some ⟨W.heap.size, 0, none⟩) 0 0) 0 [] :=
  ⟨by simp, .inr ⟨W.heap.size, 0, #[], rfl, hb, heap_alloc_new W _, Nat.le_refl _, by simp [maxLen], by simp, by simp⟩⟩
def ByteRow (w : World) (v : Value) (x : List UInt8) (w' : World) : Prop := ∃ g c, v = .slice (some ⟨g, 0, none⟩) x.length c ∧ w.heap.size ≤ g ∧ g < w'.heap.size ∧ x.length ≤ c ∧ w'.rangeAt g 0 (bcs x) ∧ w'.there g 0 c ∧ Below w.heap.size w w'
/-- append([]byte{}, b...). -/
theorem app_copy {w : World} {A : Option Addr} {x : List UInt8} (c : Nat) (h : Bt w A x) (hx : x.length ≤ 65536) (ty : TypeId) :
    ∃ v' w', (Builtin.append_ #[28, 28] ty #[.slice (some ⟨w.heap.size, 0, none⟩) 0 0, .slice A x.length c]).run Tryd.prog (w.alloc (.cells #[] 5)) = .ok v' w' ∧ ByteRow w v' x w' := by
  obtain ⟨i, hi, hz0, hz1, hz2⟩ := info_parts info_u8
  have hs : Srcs (w.alloc (.cells #[] 5)) 1 A x.length (bcs x) := (h.keep (new_below w _)).srcs
  obtain ⟨v', w', hr, h2, h3, h4⟩ := app_gen (P := Tryd.prog) w.heap.size 28 ty 5 i _ 1 1 Tryd.underlying28 hi hz0 hz1 hz2 rfl (by decide) _ 0 [] (own_empty w w.heap.size 5 1 (Nat.le_refl _)) A x.length c (bcs x) hs (bcs_one x) (by simp only [maxLen]; omega) (by omega) (by rw [new_size]; omega)
  rw [Nat.zero_add, List.nil_append] at h2
  obtain ⟨g, c', rfl, hg, hg', hc, hm, hra, hth⟩ := own_out h2 (by
    rcases h4 with h | h
    · exact ⟨w.heap.size, by rw [h]; rfl⟩
    · exact ⟨_, h⟩)
  rw [Nat.mul_one] at hth
  exact ⟨_, w', hr, g, c', rfl, hg, hg', hc, hra, hth, (new_below w _).grown h3 (by rw [new_size]; omega) (fun k hk => by simp [Value.ownBlock] at hk; omega)⟩
theorem zeroC (m : Nat) : Builtin.zeroCells (Value.int .u8 0).cells m = (bcs (List.replicate m 0)).toArray := by
  unfold Builtin.zeroCells
  have e : (Value.int .u8 0).cells = #[.int .u8 0] := rfl
  rw [e]
  apply Array.ext
  · simp [bcs]
  · intro j h1 h2
    simp [bcs, Nat.mod_one]
theorem ByteRow.grow {w : World} {x y : List UInt8} {w' w2 : World} {c2 : Nat} {t : TypeId} (hg : w.heap.size ≤ w'.heap.size) (hb : Below w.heap.size w w') (hc : (x ++ y).length ≤ c2) (h2 : w2 = w'.drew.alloc (.cells ((bcs x ++ bcs y).toArray ++ (bcs (List.replicate (c2 - (x ++ y).length) 0)).toArray) t)) :
    ByteRow w (.slice (some ⟨w'.heap.size, 0, none⟩) (x ++ y).length c2) (x ++ y) w2 := by
  have hr := new_range w'.drew ((bcs x ++ bcs y).toArray ++ (bcs (List.replicate (c2 - (x ++ y).length) 0)).toArray) t
  have ht := new_there w'.drew ((bcs x ++ bcs y).toArray ++ (bcs (List.replicate (c2 - (x ++ y).length) 0)).toArray) t c2 (by simp only [Array.size_append, List.size_toArray, List.length_append, bcs_len, List.length_replicate] at hc ⊢; omega)
  rw [← h2] at hr ht
  rw [Array.toList_append, List.toList_toArray, ← bcs_app] at hr
  exact ⟨w'.heap.size, c2, rfl, hg, by rw [h2, new_size]; exact Nat.lt_succ_self _, hc, (range_part hr).1, ht, by rw [h2]; exact (hb.drew).alloc hg _⟩
/-- append of so many noughts. -/
theorem app_zeros {w : World} {v : Value} {x : List UInt8} {w' : World} (h : ByteRow w v x w') (m : Nat) (hm : x.length + m ≤ 65536) (ty : TypeId) :
    ∃ v' w2, (Builtin.append_ #[28, 3] ty #[v, .int .i64 (m : Int)]).run Tryd.prog w' = .ok v' w2 ∧ ByteRow w v' (x ++ List.replicate m 0) w2 := by
  obtain ⟨i, hi, hz0, hz1, hz2⟩ := info_parts info_u8
  obtain ⟨g, c, rfl, hg, hg', hc, hra, hth, hb⟩ := h
  have ht := Tryd.underlying28
  have htn := Tryd.underlying3
  have hw : IntKind.i64.wrap (m : Int) = m := IntWalk.i64_in _ (by omega)
  have hneg : ¬ ((m : Int) < 0) := by omega
  have h48i : ¬ (281474976710656 < (m : Int)) := by omega
  by_cases hroom : x.length + m ≤ c
  · have hst := run_storeCells_cells (P := Tryd.prog) g x.length (bcs (List.replicate m 0)) 0 w' (fun j hj => (by have := (hth (x.length + j) (by rw [bcs_len, List.length_replicate] at hj; omega)).1; simpa using this)) (fun j hj => (by have := (hth (x.length + j) (by rw [bcs_len, List.length_replicate] at hj; omega)).2; simpa using this)) (bcs_one _)
    simp only [Nat.add_zero] at hst
    refine ⟨.slice (some ⟨g, 0, none⟩) (x.length + m) c, w'.setCells g x.length (bcs (List.replicate m 0)), ?_, g, c, by simp, hg, by rw [size_setCells]; exact hg', by simpa using hroom, ?_, World.there_setCells hth _ _ _, below_setCells hb hg _ _⟩
    · by_cases h0 : m = 0
      · subst h0
        have w0 : IntKind.i64.wrap 0 = 0 := by decide
        simp [w0, Builtin.append_, run_underlying ht, run_underlying htn, sizeOf, typeInfo, hi, asInt, asIntOf, hw, hc, bcs, storeCells, hz1]
        rfl
      · have hns : ¬ (m = 0) := h0
        simp [Builtin.append_, run_underlying ht, run_underlying htn, sizeOf, typeInfo, zeroValue, hi, hz0, hz1, hz2, asInt, asIntOf, hw, hneg, h48i, hroom, hns, zeroC, Addr.add_lit, hst]
    · rw [bcs_app]
      refine range_join (World.rangeAt_setCells_apart hra _ _ _ (Or.inr (Or.inl (by rw [bcs_len]; omega)))) ?_
      rw [Nat.zero_add, bcs_len]
      exact World.rangeAt_setCells_same _ _ _ _ fun j hj => (by have := hth (x.length + j) (by rw [bcs_len, List.length_replicate] at hj; omega); simpa using this)
  · have hold : (Builtin.firstCells 1 x.length (.slice (some ⟨g, 0, none⟩) x.length c)).run Tryd.prog w'.drew = .ok (bcs x).toArray w'.drew := run_firstCells_some (P := Tryd.prog) w'.drew 1 x.length ⟨g, 0, none⟩ x.length c (bcs x) (by rw [bcs_len, Nat.mul_one]) (fun j u hu => by
      rw [Addr.add_mid]
      exact hra j u hu)
    have h63' : ¬ (9223372036854775807 < ((x.length : Int) + (m : Int))) := by omega
    have hn2 := nextslicecap_le (need := x.length + m) (old := c) (by omega)
    have h48' : ¬ (281474976710656 < Builtin.nextslicecap (x.length + m) c) := by omega
    have hns : ¬ (m = 0) := by omega
    have hge := grownCap_ge w' (x.length + m) c 5
    refine ⟨.slice (some ⟨w'.heap.size, 0, none⟩) (x ++ List.replicate m 0).length (grownCap w' (x.length + m) c 5), w'.drew.alloc (.cells ((bcs x ++ bcs (List.replicate m 0)).toArray ++ (bcs (List.replicate (grownCap w' (x.length + m) c 5 - (x ++ List.replicate m 0).length) 0)).toArray) 5), ?_, ByteRow.grow hb.size hb (by simpa using hge) rfl⟩
    simp [Builtin.append_, run_underlying ht, run_underlying htn, sizeOf, typeInfo, zeroValue, hi, hz0, hz1, hz2, asInt, asIntOf, hw, hneg, h48i, hroom, hns, zeroC, h63', h48', Question.forced, hold, newRow, grownCap]
end Go.Proofs.YtmejpjknofbffaaDoor
