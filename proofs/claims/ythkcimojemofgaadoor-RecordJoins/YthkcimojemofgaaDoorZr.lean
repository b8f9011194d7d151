/-
  Rows of pieces that a call makes.
-/
import Derived.Test.YthkcimojemofgaaDoorRe11
import Derived.Test.YthkcimojemofgaaDoorStp
namespace Go.Proofs.YthkcimojemofgaaDoor
open Go.RowKit Go.Lib
set_option linter.unusedVariables false
set_option linter.unusedSimpArgs false

/-- A piece, its data's slice. -/
abbrev Zp : Type := Pc × Option Addr × Nat
def zcs (z : Zp) : List Value := pcs z.1 z.2.1 z.2.2
theorem zcs_len (z : Zp) : (zcs z).length = 6 := rfl
theorem zcs_one (z : Zp) : ∀ v ∈ zcs z, v.oneCell' = true := fun v hv => by
  simp only [zcs, pcs, List.mem_cons, List.not_mem_nil, or_false] at hv
  rcases hv with rfl | rfl | rfl | rfl | rfl | rfl <;> rfl
theorem flatz_len : ∀ zs : List Zp, (zs.flatMap zcs).length = zs.length * 6
  | [] => rfl
  | z :: r => by rw [List.flatMap_cons, List.length_append, flatz_len r, zcs_len, List.length_cons]; omega
theorem flatz_get : ∀ (zs : List Zp) (i j : Nat) (h : i < zs.length), j < 6 → (zs.flatMap zcs)[i * 6 + j]? = (zcs zs[i])[j]?
  | z :: r, 0, j, h, hj => by
    rw [List.flatMap_cons, List.getElem?_append_left (by rw [zcs_len]; omega)]
    simp
  | z :: r, i + 1, j, h, hj => by
    have ih := flatz_get r i j (by simpa using h) hj
    rw [List.flatMap_cons, List.getElem?_append_right (by rw [zcs_len]; omega), zcs_len, show (i + 1) * 6 + j - 6 = i * 6 + j by omega, ih]
    simp
theorem flatz_one (zs : List Zp) : ∀ u ∈ zs.flatMap zcs, u.oneCell' = true := fun u hu => by
  obtain ⟨x, _, h⟩ := List.mem_flatMap.1 hu
  exact zcs_one x u h
/-- A piece's data lies in memory. -/
def Zok (w : World) (z : Zp) : Prop := Bt w z.2.1 z.1.da ∧ (z.2.1 = none → z.1.da.length = 0 ∧ z.2.2 = 0) ∧ z.1.da.length ≤ z.2.2 ∧ ∀ ad, z.2.1 = some ad → ∃ gb qb, ad = ⟨gb, qb, none⟩ ∧ 0 ≤ gb ∧ gb < w.heap.size
theorem Zok.keep {w w' : World} {z : Zp} (h : Zok w z) (hb : Below w.heap.size w w') : Zok w' z := by
  obtain ⟨h1, h2, h3, h4⟩ := h
  refine ⟨h1.keep hb, h2, h3, fun ad e => ?_⟩
  obtain ⟨gb, qb, e1, e2, e3⟩ := h4 ad e
  exact ⟨gb, qb, e1, e2, Nat.lt_of_lt_of_le e3 hb.size⟩
theorem zs_of {w : World} {g q lim : Nat} : ∀ (l : List Pc) (s : Nat), (∀ i (h : i < l.length), PAt w g (q + (s + i) * 6) l[i] lim) → ∃ zs : List Zp, zs.map (·.1) = l ∧ (∀ z ∈ zs, Zok w z) ∧ ∀ i (h : i < zs.length) j v, (zcs zs[i])[j]? = some v → w.cell? ⟨g, q + (s + i) * 6 + j, none⟩ = some v
  | [], s, _ => ⟨[], rfl, by simp, fun i h => absurd h (by simp)⟩
  | p :: r, s, h => by
    obtain ⟨B, c, h1, h2, h3, h4, h5⟩ := h 0 (by simp)
    obtain ⟨zs, e, hz, hc⟩ := zs_of r (s + 1) (fun i hi => by
      have := h (i + 1) (by simpa using hi)
      rw [show s + (i + 1) = s + 1 + i by omega] at this
      simpa using this)
    refine ⟨(p, B, c) :: zs, by simp [e], fun z hz' => ?_, fun i hi j v hv => ?_⟩
    · rcases List.mem_cons.1 hz' with rfl | hz'
      · exact ⟨h2, h3, h4, fun ad e => by obtain ⟨gb, qb, e1, e2, e3⟩ := h5 ad e; exact ⟨gb, qb, e1, Nat.zero_le _, e3⟩⟩
      · exact hz z hz'
    · rcases i with _ | i
      · exact h1 j v hv
      · have := hc i (by simpa using hi) j v (by simpa using hv)
        rw [show s + 1 + i = s + (i + 1) by omega] at this
        exact this
/-- A row of pieces in memory, as cells. -/
theorem Ps.zs {w : World} {A : Option Addr} {l : List Pc} {lim : Nat} (h : Ps w A l lim) : ∃ zs : List Zp, zs.map (·.1) = l ∧ (∀ z ∈ zs, Zok w z) ∧ (0 < l.length → ∃ g q, A = some ⟨g, q, none⟩ ∧ ∀ i (h : i < zs.length) j v, (zcs zs[i])[j]? = some v → w.cell? ⟨g, q + i * 6 + j, none⟩ = some v) := by
  rcases Nat.eq_zero_or_pos l.length with h0 | h0
  · have : l = [] := List.eq_nil_of_length_eq_zero h0
    subst this
    exact ⟨[], rfl, by simp, fun h => absurd h (by simp)⟩
  · obtain ⟨g, q, e, h1⟩ := h h0
    obtain ⟨zs, e2, hz, hc⟩ := zs_of (g := g) (q := q) (lim := lim) (w := w) l 0 (fun i hi => by rw [Nat.zero_add]; exact h1 i hi)
    exact ⟨zs, e2, hz, fun _ => ⟨g, q, e, fun i hi j v hv => by have := hc i hi j v hv; rwa [Nat.zero_add] at this⟩⟩
/-- A part of such a row. -/
theorem srcs_part {w : World} {g q : Nat} {zs : List Zp} (hc : ∀ i (h : i < zs.length) j v, (zcs zs[i])[j]? = some v → w.cell? ⟨g, q + i * 6 + j, none⟩ = some v) (s n : Nat) (hs : s + n ≤ zs.length) : Srcs w 6 (some ⟨g, q + s * 6, none⟩) n (((zs.drop s).take n).flatMap zcs) := by
  have hl : ((zs.drop s).take n).length = n := by simp; omega
  refine ⟨by rw [flatz_len, hl], fun _ => ⟨_, rfl, fun j u hu => ?_⟩⟩
  have hj : j < n * 6 := by
    have := (List.getElem?_eq_some_iff.1 hu).1
    rwa [flatz_len, hl] at this
  have h1 := flatz_get ((zs.drop s).take n) (j / 6) (j % 6) (by rw [hl]; omega) (by omega)
  rw [show j / 6 * 6 + j % 6 = j by omega, hu, List.getElem_take, List.getElem_drop] at h1
  have := hc (s + j / 6) (by omega) (j % 6) u h1.symm
  rw [Addr.add_mid]
  rwa [show q + (s + j / 6) * 6 + j % 6 = q + s * 6 + j by omega] at this
theorem ps_of {w : World} {g : Nat} {zs : List Zp} (hr : w.rangeAt g 0 (zs.flatMap zcs)) (hz : ∀ z ∈ zs, Zok w z) : Ps w (some ⟨g, 0, none⟩) (zs.map (·.1)) 0 := fun h0 => by
  refine ⟨g, 0, rfl, fun i hi => ?_⟩
  have hi' : i < zs.length := by simpa using hi
  obtain ⟨h1, h2, h3, h4⟩ := hz zs[i] (List.getElem_mem hi')
  rw [List.getElem_map]
  refine ⟨zs[i].2.1, zs[i].2.2, fun j v hv => ?_, h1, h2, h3, h4⟩
  have hj : j < 6 := (List.getElem?_eq_some_iff.1 hv).1
  have := hr (i * 6 + j) v (by rw [flatz_get zs i j hi' hj]; exact hv)
  rwa [← Nat.add_assoc] at this
/-- A row of pieces that is being built, above W5. -/
structure TnP (W5 W : World) (v : Value) (zs : List Zp) : Prop where
  b : Below W5.heap.size W5 W
  o : W.ownsRow W5.heap.size 33 6 v zs.length (zs.flatMap zcs)
  k : ∃ g, v.ownBlock = some g
theorem TnP.keep {W5 W W' : World} {v : Value} {x : List Zp} (h : TnP W5 W v x) (hb : Below W.heap.size W W') : TnP W5 W' v x :=
  ⟨h.b.trans (hb.mono h.b.size), own_keepR h.o hb, h.k⟩
theorem build_noneP (w : World) : (Instr.buildSlice 47 0 #[]).run Tryd.prog w = .ok (.slice (some ⟨w.heap.size, 0, none⟩) 0 0) (w.alloc (.cells #[] 33)) := by kernel_rfl
theorem build_oneP (z : Zp) (w : World) : (Instr.buildSlice 47 1 #[(0, .agg (zcs z).toArray)]).run Tryd.prog w = .ok (.slice (some ⟨w.heap.size, 0, none⟩) 1 1) (w.alloc (.cells (zcs z).toArray 33)) := by kernel_rfl
theorem tnp_new {W5 W : World} (hb : Below W5.heap.size W5 W) : ∃ v w1, (Instr.buildSlice 47 0 #[]).run Tryd.prog W = .ok v w1 ∧ (TnP W5 w1 v [] ∧ ∀ L u gr, Tr W5 W L u gr → Tr W5 w1 L v gr) := by
  refine ⟨_, _, build_noneP W, ⟨hb.alloc hb.size _, own_empty W W5.heap.size _ 6 hb.size, ⟨_, rfl⟩⟩, fun L u gr h => ?_⟩
  have h2 := h.keep (new_below W (.cells #[] 33))
  exact ⟨h2.1, h2.2.1, h2.2.2.1, fun e => by have h3 := h.2.2.1; simp [Value.ownBlock] at e; omega⟩
theorem tnp_app {W5 W : World} {v : Value} {x y : List Zp} {A : Option Addr} {m : Nat} (c : Nat) (h : TnP W5 W v x) (hs : Srcs W 6 A m (y.flatMap zcs)) (hm : y.length = m) (hxy : x.length + y.length ≤ 1000000) (ty : TypeId) :
    ∃ v' w', (Builtin.append_ #[47, 47] ty #[v, .slice A m c]).run Tryd.prog W = .ok v' w' ∧ (TnP W5 w' v' (x ++ y) ∧ ∀ L gr, Tr W5 W L v gr → Tr W5 w' L v' gr) := by
  obtain ⟨i, hi, hz0, hz1, hz2⟩ := info_parts size_pc6
  obtain ⟨v', w', hr, h2, h3, h4⟩ := app_gen (P := Tryd.prog) W5.heap.size 47 ty 33 i _ 6 64 Tryd.underlying47 hi hz0 hz1 hz2 rfl (by decide) v x.length (x.flatMap zcs) h.o A m c (y.flatMap zcs) hs (flatz_one y) (by simp only [maxLen]; omega) (by omega) h.b.size
  rw [← List.flatMap_append, ← hm, ← List.length_append] at h2
  refine ⟨v', w', hr, ⟨h.b.grown h3 h.b.size (fun k hk => (h.o.lt k hk).1), h2, ?_⟩, fun L gr ht => ⟨ht.1.same (h3.block gr ht.2.2.1 (fun e => ht.2.2.2 e.symm)), ht.2.1, Nat.lt_of_lt_of_le ht.2.2.1 h3.size, fun e => ?_⟩⟩
  · rcases h4 with e | e
    · rw [e]; exact h.k
    · exact ⟨_, e⟩
  · rcases h4 with e' | e'
    · rw [e'] at e
      exact ht.2.2.2 e
    · rw [e'] at e
      injection e with e
      have := ht.2.2.1
      omega
theorem TnP.out {W5 W : World} {v : Value} {zs : List Zp} (h : TnP W5 W v zs) (hz : ∀ z ∈ zs, Zok W z) : ∃ g c, v = .slice (some ⟨g, 0, none⟩) zs.length c ∧ zs.length ≤ c ∧ Ps W (some ⟨g, 0, none⟩) (zs.map (·.1)) 0 ∧ W5.heap.size ≤ g := by
  obtain ⟨g, c, e, h1, h2, h3, h4, h5, -⟩ := own_out h.o h.k
  exact ⟨g, c, e, h3, ps_of h5 hz, h1⟩
theorem Srcs.keep {w W : World} {size : Nat} {A : Option Addr} {m : Nat} {xs : List Value} (h : Srcs w size A m xs) (hb : Below w.heap.size w W) : Srcs W size A m xs := ⟨h.1, fun h0 => by
  obtain ⟨ad, e, hc⟩ := h.2 h0
  exact ⟨ad, e, fun j u hu => (hb.cell (block_lt_of_cell (hc j u hu))).trans (hc j u hu)⟩⟩
theorem srcs_one {w : World} {g : Nat} {z : Zp} (h : HdD w g (zcs z)) : Srcs w 6 (some ⟨g, 0, none⟩) 1 ([z].flatMap zcs) := ⟨by rw [flatz_len]; rfl, fun _ => ⟨_, rfl, fun j u hu => by
  rw [Addr.add_mid]
  exact h.1 j u (by simpa using hu)⟩⟩
/-- Join of such a row. -/
theorem join_row {W5 W : World} {v : Value} {zs : List Zp} (h : TnP W5 W v zs) (hz : ∀ z ∈ zs, Zok W z) (hf : ∀ z ∈ zs, z.1.Fit) (hl : zs.length ≤ 1000000) : ∃ g c, v = .slice (some ⟨g, 0, none⟩) zs.length c ∧ Calls Tryd.prog 21 #[.slice (some ⟨g, 0, none⟩) zs.length c] W (JnAns W (zs.map (·.1))) := by
  obtain ⟨g, c, e, -, hp, -⟩ := h.out hz
  refine ⟨g, c, e, ?_⟩
  have := rjoin_any W (some ⟨g, 0, none⟩) c (zs.map (·.1)) 0 hp (fun p hp => by
    obtain ⟨z, hz', rfl⟩ := List.mem_map.1 hp
    exact hf z hz') (by simpa using hl)
  rwa [List.length_map] at this
theorem join_ans {P : Program} {f : FuncId} {args : Array Value} {w : World} {l : List Pc} (hc : Calls P f args w (JnAns w l)) (h : ¬ JoinOk l) : Calls P f args w fun e w' => e = .returned (.tuple #[.slice none 0 0, .iface 55 (.int .i64 1)]) ∧ Below w.heap.size w w' := hc.mono fun e w' ha => ⟨ha.2.1 h, ha.2.2⟩
theorem join_yes {P : Program} {f : FuncId} {args : Array Value} {w : World} {l : List Pc} (hc : Calls P f args w (JnAns w l)) (h : JoinOk l) : Calls P f args w fun e w' => ∃ A c, e = .returned (.tuple #[.slice A (joinB l).length c, .nilIface]) ∧ (Bt w' A (joinB l) ∧ ∀ ad, A = some ad → ∃ g q, ad = ⟨g, q, none⟩) ∧ Below w.heap.size w w' := hc.mono fun e w' ha => by
  obtain ⟨A, c, e1, e2, e3⟩ := ha.1 h
  exact ⟨A, c, e1, ⟨e2, e3⟩, ha.2.2⟩
theorem run_winHP (W : World) (g n c h : Nat) (k1 : IntKind) (hh : h ≤ c) : Sem.run Tryd.prog (Instr.slice 47 (.slice (some ⟨g, 0, none⟩) n c) none (some (.int k1 (h : Int))) none) W = .ok (.slice (some ⟨g, 0, none⟩) h c) W := by
  have hu : Tryd.prog.underlying 47 = some (.slice (Tryd.prog.elem 47)) := by kernel_rfl
  have he : Tryd.prog.elem 47 = 33 := by kernel_rfl
  have hsz : ∀ W, (Go.sizeOf 33).run Tryd.prog W = .ok 6 W := fun W => by kernel_rfl
  rw [run_slice_h W 47 (some ⟨g, 0, none⟩) n c hu k1 _ (by omega) (by omega), he, hsz]
  simp [Result.andThen, sliced, Addr.add_mid]
end Go.Proofs.YthkcimojemofgaaDoor
