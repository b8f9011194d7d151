/-
  The document's Parts, walked: the values right within one.
-/
import Derived.Test.YtdpohklklmkjbaaDoorReal2
namespace Go.Proofs.YtdpohklklmkjbaaDoor
open Go.RowKit Go.Lib
set_option linter.unusedVariables false
set_option linter.unusedSimpArgs false

def parts : V → List V
  | .mk k _ _ _ l m => if k = 4 then l else if k = 5 then m.map (·.2) else []
def PartsAns (v : V) (w : World) (e : Ending) (w' : World) : Prop :=
  (∃ A c, e = .returned (.slice A (parts v).length c) ∧ (parts v).length ≤ c ∧ (parts v).length ≤ 1000000 ∧ ValL w' (· < w'.heap.size) 1000000 (parts v) A 0) ∧ Below w.heap.size w w'
theorem info_V : (Tryd.prog.info? 25).map (fun i => (i.zero, i.size, i.bytes)) = some (some (.agg #[.int .i64 0, .bool false, .int .i64 0, .string ⟨#[]⟩, .slice none 0 0, .slice none 0 0]), 6, 88) := by kernel_rfl

theorem rowQ {W : World} {h0 : Nat} {v : Value} {l : List V} {css : List C6} {T : TypeId} {Q : Nat → Prop} (hown : W.ownsRow h0 T 6 v l.length (css.flatMap C6.cells)) (hcl : css.length = l.length) (hv : ∀ i (h1 : i < l.length) (h2 : i < css.length), Val W Q 1000000 l[i] css[i].arr) (hQ : ∀ g, g < W.heap.size → h0 ≤ g → Q g) :
    ∃ A c, v = .slice A l.length c ∧ l.length ≤ c ∧ (A = none → c = 0) ∧ ValL W Q 1000000 l A 0 := by
  rcases hown.2 with ⟨e, h0'⟩ | ⟨g, cap, cur, e, hbg, hcur, hnc, hcm, hcs, htk⟩
  · obtain rfl : l = [] := List.length_eq_zero_iff.1 h0'
    exact ⟨none, 0, by rw [e]; simp, by simp, fun _ => rfl, by rw [ValL]; trivial⟩
  · have hg : g < W.heap.size := Whole.lt hcur
    refine ⟨some ⟨g, 0, none⟩, cap, e, hnc, (fun h => by cases h), ValL.mk_ fun j hj => ?_⟩
    refine ⟨g, 0, (css[j]'(by omega)).arr, rfl, hQ g hg hbg, fun q hq => ?_, hv j hj (by omega)⟩
    subst e
    have := hown.cellAt (j * 6 + q) (by omega)
    rw [flat_get C6.cells 6 C6.length _ _ _ (by omega) hq] at this
    rw [show 0 + (0 + j) * 6 + q = j * 6 + q by omega, this, C6.arr_get]
def PartsRel (w : World) (B : Nat) (m : List (ByteArray × V)) (box : Array Value) (kk : Nat) (out i : Value) (wr : World) : Prop :=
  ∃ (j : Nat) (v : Value) (css : List C6), j + kk = m.length ∧ i = .int .i64 j ∧ v = out ∧ css.length = j ∧ Whole wr w.heap.size 25 box ∧ wr.ownsRow (w.heap.size + 1) 25 6 v j (css.flatMap C6.cells) ∧
    (∀ i (h1 : i < m.length) (h2 : i < css.length), Val w (· < B) 1000000 m[i].2 css[i].arr) ∧ Below w.heap.size w wr

set_option maxRecDepth 100000 in
set_option maxHeartbeats 4000000 in
theorem parts_any (v : V) (cs : Array Value) (B : Nat) (w : World) (hv : Val w (· < B) 1000000 v cs) (hB : B ≤ w.heap.size) :
    Calls Tryd.prog 29 #[.agg cs] w (PartsAns v w) := by
  cases v with
  | mk k y n t l m =>
  rw [Val] at hv
  obtain ⟨A1, c1, A2, c2, rfl, ⟨h1c, h2c, ht, hl, hm, hn1, hn2⟩, hvl, hvm⟩ := hv
  have hb0 : ∀ o, Below w.heap.size w (w.alloc o) := fun o => (Below.refl _ _).alloc (Nat.le_refl _) _
  by_cases k4 : k = 4
  · subst k4
    have HV := Lib.hid hvl
    clear hvl hvm
    go_enter Tryd.func29, Tryd.ntmps29
    go_wp2_with fail
    go_ret
    refine ⟨⟨A1, c1, rfl, by simpa [parts] using h1c, by simpa [parts] using hl, ?_⟩, hb0 _⟩
    simp only [parts, if_pos]
    exact HV.out.keep (fun p hp => (hb0 _).cell (Nat.lt_of_lt_of_le hp hB)) (fun b hb => by simp; omega)
  · have k4' : (k == 4) = false := beq_eq_false_iff_ne.2 k4
    by_cases k5 : k = 5
    · subst k5
      obtain ⟨i0, hi, hz0, hz1, hz2⟩ := info_parts info_V
      have HV := Lib.hid hvm
      clear hvl hvm k4
      go_enter Tryd.func29, Tryd.ntmps29
      go_wp2_with fail
      go_loopg [3, 16] m.length (PartsRel w B m #[.int .i64 5, .bool y, .int .i64 n, .string t, .slice A1 l.length c1, .slice A2 m.length c2])
      case atStart => exact ⟨0, .slice none 0 0, [], by simp, rfl, rfl, rfl, Whole.made w _ _, World.ownsRow_nil _ _ _ _, fun i h1 h2 => by simp at h2, hb0 _⟩
      case round =>
        obtain ⟨j, v, css, hk, rfl, rfl, hcl, hbox, hown, hkids, hb⟩ := hrel
        have b5 := hbox.cell 5
        simp at b5
        have hz : w.heap.size < wr.heap.size := hbox.lt
        have hv0 : ∃ a n' c', v = Value.slice a n' c' := by
          rcases Go.Joins.ownsRow_forms hown with ⟨e, _⟩ | ⟨g, cap, e⟩ <;> exact ⟨_, _, _, e⟩
        by_cases hlt : j < m.length
        · obtain ⟨b, off, cs, rfl, hbB, hsM, hkc, hc, hx⟩ := HV.out.get j hlt
          obtain ⟨cj, rfl⟩ := hx.c6
          have hck : wr.cell? ⟨b, off + j * 7, none⟩ = some (.string m[j].1) := (hb.cell (p := ⟨b, off + j * 7, none⟩) (by simp; omega)).trans (by simpa using hkc)
          have hcj : ∀ q, q < 6 → wr.cell? ⟨b, off + j * 7 + (1 + q), none⟩ = cj.arr[q]? := fun q hq => (hb.cell (p := ⟨b, off + j * 7 + (1 + q), none⟩) (by simp; omega)).trans (by simpa using hc q hq)
          obtain ⟨xk, x0, x1, x2, x3, x4, x5⟩ := cells7 hck hcj rfl
          have hj1 : (j : Int) < (m.length : Int) := by omega
          have HX := Lib.hid (And.intro hk (And.intro hcl (And.intro hbox (And.intro hown (And.intro hkids (And.intro hb hx))))))
          clear hk hcl hbox hown hkids hb hx hcj hc hck hkc hsM xk
          obtain ⟨jk, jy, jn, jt, ja, jla, jca, jb, jlb, jcb⟩ := cj
          dsimp only [C6.arr] at x0 x1 x2 x3 x4 x5
          obtain ⟨oa, on_, oc, rfl⟩ := hv0
          go_wp2_with (first
            | (at_builtin; refine wpList_append_own _ rfl _ _ 22 rfl (w.heap.size + 1) 25 i0 (.agg #[.int .i64 0, .bool false, .int .i64 0, .string ⟨#[]⟩, .slice none 0 0, .slice none 0 0]) 6 88 Tryd.underlying22 hi hz0 hz1 hz2 rfl (by decide) _ _ _ rfl (HX.out.2.2.2.1.alloc _) ⟨wr.heap.size, 0, none⟩ 1 1 [.int .i64 jk, .bool jy, .int .i64 jn, .string jt, .slice ja jla jca, .slice jb jlb jcb] rfl rfl (cells_new _ _ _) (fun x hx => by simp at hx; rcases hx with rfl | rfl | rfl | rfl | rfl | rfl <;> rfl) (by unfold maxLen; omega) (by omega) (by simp; omega) ?_; intro v' w3 hown' hgrow3 hnil3
               obtain ⟨g2, cap2, rfl, hg2, hg2'⟩ := hown'.form (Nat.succ_pos _)
               have HG := Lib.hid (And.intro hown' hgrow3)
               clear hown' hgrow3 hnil3))
          go_roundg (m.length - (j + 1))
          case rel =>
            obtain ⟨hk, hcl, hbox, hown, hkids, hb, hx⟩ := HX.out
            obtain ⟨hown', hgrow3⟩ := HG.out
            refine ⟨j + 1, _, css ++ [⟨jk, jy, jn, jt, ja, jla, jca, jb, jlb, jcb⟩], by omega, by go_num, rfl, by simp [hcl], (hbox.alloc _).grown hgrow3 (fun e => by have := (hown.lt _ e.symm).1; omega), ?_, ?_, ?_⟩
            · rw [List.flatMap_append]
              simp only [List.flatMap_cons, List.flatMap_nil, List.append_nil]
              exact hown'
            · exact kids_snocM (P := fun _ d c => Val w (· < B) 1000000 d.2 c.arr) hcl hlt hkids hx
            · exact Below.grown (hb.alloc hb.size _) hgrow3 (by simp; omega) (fun j hj => by have := (hown.lt _ hj).1; omega)
          case measure => have := HX.out.1; omega
        · obtain rfl : j = m.length := by omega
          have HX := Lib.hid (And.intro hcl (And.intro hown (And.intro hkids hb)))
          clear hk hcl hbox hown hkids hb
          obtain ⟨oa, on_, oc, rfl⟩ := hv0
          go_wp2_with fail
          go_ret
          obtain ⟨hcl, hown, hkids, hb⟩ := HX.out
          have hpl : (parts (.mk 5 y n t l m)).length = m.length := by simp [parts]
          obtain ⟨A, c, e, hc, hA, hvl⟩ := rowQ (Q := fun b => b < wr.heap.size) (l := parts (.mk 5 y n t l m)) (by rw [hpl]; exact hown) (by rw [hpl]; exact hcl) (fun i h1 h2 => by
            have h1' : i < m.length := by omega
            have hx := (hkids i h1' h2).keep (w' := wr) (Q' := fun b => b < wr.heap.size) (fun p hp => hb.cell (Nat.lt_of_lt_of_le hp hB)) (fun b hb' => by have := hb.size; omega)
            have e : (parts (.mk 5 y n t l m))[i] = m[i].2 := by simp [parts]
            rw [e]; exact hx) (fun g h1 h2 => h1)
          exact ⟨⟨A, c, by rw [e]; rfl, hc, by omega, hvl⟩, hb⟩
    · have k5' : (k == 5) = false := beq_eq_false_iff_ne.2 k5
      have hp : parts (.mk k y n t l m) = [] := by simp [parts, k4, k5]
      have HP := Lib.hid hp
      clear hvl hvm k4 k5 hp
      go_enter Tryd.func29, Tryd.ntmps29
      go_wp2_with fail
      go_ret
      refine ⟨⟨none, 0, by rw [HP.out]; rfl, by rw [HP.out]; simp, by rw [HP.out]; simp, by rw [HP.out, ValL]; trivial⟩, hb0 _⟩
end Go.Proofs.YtdpohklklmkjbaaDoor
