/-
  Proved: the statement of the law ValueGets (of a map of unlike keys each key has its value; of another key there is none), for every input. Conditions: those of the given row alone (the listed package variables hold what their initialisers lay).
-/
import Derived.Test.YtbjgelkckmfjeaaDoorDepthSize
import Derived.Test.YtbjgelkckmfjeaaDoorReal2
import Derived.Maps.OwnOps
import Derived.Maps.OwnSet
import Derived.Test.YtbjgelkckmfjeaaDoorAwake2
import Derived.Test.YtbjgelkckmfjeaaDoorLay
import Derived.SliceStrings
import Derived.Carry
import Derived.Deep.DeepWitnessRowRef
import Derived.SizedLaws
import Derived.ChangeMaps5
namespace Go.Proofs.YtbjgelkckmfjeaaDoor
open Go.RowKit Go.Lib
set_option linter.unusedVariables false
set_option linter.unusedSimpArgs false

def getM (key : ByteArray) : List (ByteArray × V) → Option V
  | [] => none
  | (s, v) :: r => if s.toList == key.toList then some v else getM key r
def getV (v : V) (key : ByteArray) : Option V := if v.kind = 5 then getM key v.mp else none
def GetAns (r : Option V) (w : World) (e : Ending) (w' : World) : Prop :=
  Below w.heap.size w w' ∧ ((r = none ∧ e = .returned (.tuple #[.agg zero6, .bool false])) ∨ ∃ (x : V) (o : C6), r = some x ∧ e = .returned (.tuple #[.agg o.arr, .bool true]) ∧ Val w' (fun b => w.heap.size ≤ b ∧ b < w'.heap.size) 1000000 (canon x) o.arr)
def GetRel (w : World) (key : ByteArray) (m : List (ByteArray × V)) (k : Nat) (i : Value) (wr : World) : Prop :=
  ∃ j : Nat, j + k = m.length ∧ i = .int .i64 j ∧ Whole wr (w.heap.size + 1) 38 zero6 ∧ getM key (m.drop j) = getM key m ∧ Below w.heap.size w wr
theorem vsizeM_mem {x : ByteArray × V} : ∀ {l : List (ByteArray × V)}, x ∈ l → vsize x.2 ≤ vsizeM l
  | (s, v) :: r, h => by
    rw [vsizeM]
    rcases List.mem_cons.1 h with rfl | h
    · dsimp only; omega
    · have := vsizeM_mem h; omega

set_option maxRecDepth 100000 in
set_option maxHeartbeats 4000000 in
theorem Get_any (v : V) (key : ByteArray) (cs : Array Value) (B : Nat) (w : World) (hv : Val w (· < B) 1000000 v cs) (hB : B ≤ w.heap.size) (hsz : vsize v ≤ 1000000) :
    Calls Tryd.prog 16 #[.agg cs, .string key] w (GetAns (getV v key) w) := by
  cases v with
  | mk k y n t l m =>
  rw [Val] at hv
  obtain ⟨A1, c1, A2, c2, rfl, ⟨h1c, h2c, ht, hl, hm, hn1, hn2⟩, hvl, hvm⟩ := hv
  by_cases k5 : k = 5
  · subst k5
    have hg : getV (.mk 5 y n t l m) key = getM key m := by simp [getV, V.kind, V.mp]
    rw [hg]
    obtain ⟨R, hR⟩ : ∃ R, getM key m = R := ⟨_, rfl⟩
    rw [hR]
    have hsm : vsizeM m ≤ 1000000 := by rw [vsize, if_neg (by omega), if_pos rfl] at hsz; omega
    have HV := Lib.hid (And.intro hvm (And.intro hR hsm))
    clear hvl hvm hg hR hsz hsm
    go_enter Tryd.func16, Tryd.ntmps16
    go_wp2_with fail
    go_loopg [15] m.length (GetRel w key m)
    case atStart =>
      refine ⟨0, by simp, rfl, ?_, rfl, ((Below.refl _ _).alloc (Nat.le_refl _) _).alloc (by simp) _⟩
      have := Whole.made (w.alloc (.cells #[.int .i64 5, .bool y, .int .i64 n, .string t, .slice A1 l.length c1, .slice A2 m.length c2] 38)) 38 zero6
      simpa [zero6] using this
    case round =>
      obtain ⟨j, hk, rfl, hres, hrest, hb⟩ := hrel
      have hz : w.heap.size + 1 < wr.heap.size := hres.lt
      by_cases hlt : j < m.length
      · obtain ⟨b, off, cs, rfl, hbB, hsM, hkc, hc, hx⟩ := HV.out.1.get j hlt
        obtain ⟨cj, rfl⟩ := hx.c6
        obtain ⟨s, hs⟩ : ∃ s, m[j].1 = s := ⟨_, rfl⟩
        rw [hs] at hkc
        have hck : wr.cell? ⟨b, off + j * 7, none⟩ = some (.string s) := (hb.cell (p := ⟨b, off + j * 7, none⟩) (by simp; omega)).trans (by simpa using hkc)
        have hcj : ∀ q, q < 6 → wr.cell? ⟨b, off + j * 7 + (1 + q), none⟩ = cj.arr[q]? := fun q hq => (hb.cell (p := ⟨b, off + j * 7 + (1 + q), none⟩) (by simp; omega)).trans (by simpa using hc q hq)
        obtain ⟨xk, x0, x1, x2, x3, x4, x5⟩ := cells7 hck hcj rfl
        have hj1 : (j : Int) < (m.length : Int) := by omega
        have hdrop : getM key (m.drop j) = if s.toList == key.toList then some m[j].2 else getM key (m.drop (j + 1)) := by
          rw [List.drop_eq_getElem_cons hlt]
          show getM key ((m[j].1, m[j].2) :: _) = _
          rw [getM, hs]
        have hvj := vsizeM_mem (List.getElem_mem hlt)
        have hcall := fun W (hW : Below w.heap.size w W) => Copy_any m[j].2 cj.arr B W (hx.keep (fun p hp => hW.cell (Nat.lt_of_lt_of_le hp hB)) (fun _ h => h)) (Nat.le_trans hB hW.size) (by have := HV.out.2.2; omega)
        have HX := Lib.hid (And.intro hk (And.intro hres (And.intro hrest (And.intro hb (And.intro hdrop hcall)))))
        cases hsk : (s.toList == key.toList)
        · clear hk hres hrest hb hcall hcj hc hx hck hkc hvj hdrop hs hsM
          obtain ⟨qk, qy, qn, qt, qa, qla, qca, qb, qlb, qcb⟩ := cj
          dsimp only [C6.arr] at x0 x1 x2 x3 x4 x5
          go_wp2_with fail
          go_roundg (m.length - (j + 1))
          case rel =>
            obtain ⟨hk, hres, hrest, hb, hdrop, -⟩ := HX.out
            refine ⟨j + 1, by omega, by go_num, hres.alloc _, ?_, hb.alloc hb.size _⟩
            rw [← hrest, hdrop, hsk]; rfl
          case measure => have := HX.out.1; omega
        · have f0 := hres.frozen 0
          have f1 := hres.frozen 1
          have f2 := hres.frozen 2
          have f3 := hres.frozen 3
          have f4 := hres.frozen 4
          have f5 := hres.frozen 5
          have hbz := hb.size
          clear hk hrest hcall hcj hc hx hck hkc hvj hdrop hs hsM
          obtain ⟨qk, qy, qn, qt, qa, qla, qca, qb, qlb, qcb⟩ := cj
          dsimp only [C6.arr] at x0 x1 x2 x3 x4 x5 HX
          go_wp2_with fail
          refine (HX.out.2.2.2.2.2 _ (hb.alloc hbz _)).mono ?_
          rintro e W2 ⟨⟨o, rfl, ho⟩, hb2⟩
          have hb3 : Below wr.heap.size wr W2 := ((Below.refl _ _).alloc (Nat.le_refl _) _).trans (hb2.mono (by simp))
          have hres2 := hres.below hb3 hres.lt
          obtain ⟨a0, a1, a2, a3, a4, a5⟩ := Whole.six hres2
          have g0 := hres2.frozen 0
          have g1 := hres2.frozen 1
          have g2 := hres2.frozen 2
          have g3 := hres2.frozen 3
          have g4 := hres2.frozen 4
          have g5 := hres2.frozen 5
          have hz2 : w.heap.size + 1 < W2.heap.size := hres2.lt
          have HO := Lib.hid (And.intro ho (And.intro hb2 (hb.trans (hb3.mono hbz))))
          clear ho hb2 hb3 hres hres2 hb f0 f1 f2 f3 f4 f5 x0 x1 x2 x3 x4 x5 xk
          obtain ⟨ok, oy, on_, ot, oa, ola, oca, ob, olb, ocb⟩ := o
          dsimp only [C6.arr] at HO ⊢
          go_wp2_with fail
          refine bodyPost_ret (v := .tuple #[.agg (C6.arr ⟨ok, oy, on_, ot, oa, ola, oca, ob, olb, ocb⟩), .bool true]) (by simp [results, Tryd.results16, go_sem, a0, a1, a2, a3, a4, a5, C6.arr]) rfl ⟨?_, .inr ⟨m[j].2, ⟨ok, oy, on_, ot, oa, ola, oca, ob, olb, ocb⟩, ?_, rfl, ?_⟩⟩
          · have hbw := HO.out.2.2
            exact (((((hbw.setCell (by simp) _).setCell (by simp) _).setCell (by simp) _).setCell (by simp) _).setCell (by simp) _).setCell (by simp) _
          · rw [← HV.out.2.1, ← HX.out.2.2.1, HX.out.2.2.2.2.1, hsk]; rfl
          · obtain ⟨ho, hb2, hbw⟩ := HO.out
            refine Val.keep (fun p hp => World.cell?_of_block ?_) (fun b hb => ?_) ho
            · have h1 := hp.1
              simp at h1
              have hne : p.block ≠ w.heap.size + 1 := by omega
              exact (Below.heap_setCell _ _ _ _ hne).trans ((Below.heap_setCell _ _ _ _ hne).trans ((Below.heap_setCell _ _ _ _ hne).trans ((Below.heap_setCell _ _ _ _ hne).trans ((Below.heap_setCell _ _ _ _ hne).trans (Below.heap_setCell _ _ _ _ hne)))))
            · have h1 := hb.1
              simp at h1
              exact ⟨by omega, by have := hb.2; simpa using this⟩
      · have hjl : j = m.length := by omega
        subst hjl
        obtain ⟨a0, a1, a2, a3, a4, a5⟩ := Whole.six hres
        have g0 := hres.frozen 0
        have g1 := hres.frozen 1
        have g2 := hres.frozen 2
        have g3 := hres.frozen 3
        have g4 := hres.frozen 4
        have g5 := hres.frozen 5
        have HX := Lib.hid (And.intro hrest hb)
        clear hres hrest hb hk
        go_wp2_with fail
        refine bodyPost_ret (v := .tuple #[.agg zero6, .bool false]) (by simp [results, Tryd.results16, go_sem, a0, a1, a2, a3, a4, a5, zero6]) rfl ⟨?_, .inl ⟨?_, rfl⟩⟩
        · have hbw := HX.out.2
          exact (((((hbw.setCell (by simp) _).setCell (by simp) _).setCell (by simp) _).setCell (by simp) _).setCell (by simp) _).setCell (by simp) _
        · rw [← HV.out.2.1, ← HX.out.1, List.drop_of_length_le (Nat.le_refl _)]; rfl
  · have hg : getV (.mk k y n t l m) key = none := by simp [getV, V.kind, k5]
    rw [hg]
    have e5 : (k != 5) = true := by simpa using k5
    clear hvl hvm hg k5
    go_enter Tryd.func16, Tryd.ntmps16
    go_wp2_with fail
    refine bodyPost_ret (v := .tuple #[.agg zero6, .bool false]) (by simp [results, Tryd.results16, go_sem, zero6]) rfl ⟨?_, .inl ⟨rfl, rfl⟩⟩
    repeat (first | exact Below.refl _ _ | refine Below.setCell ?_ (by simp <;> omega) _ | refine Below.alloc ?_ (by simp <;> omega) _)
end Go.Proofs.YtbjgelkckmfjeaaDoor

namespace Go.Proofs.YtbjgelkckmfjeaaDoor
open Go.RowKit Go.Lib Go.Shelf Go.Sort
set_option linter.unusedVariables false
set_option linter.unusedSimpArgs false

def NoRel (W : World) (k : Nat) (i : Value) (wr : World) : Prop := i = .int .i64 0 ∧ W = wr

set_option maxRecDepth 100000 in
set_option maxHeartbeats 4000000 in
theorem Members_none (A : Option Addr) (c : Nat) (w : World) (hA : A = none → c = 0) :
    Calls Tryd.prog 28 #[.slice A 0 c] w fun e w' => MemAns w w' [] e ∧ Below w.heap.size w w' := by
  have hval : Val w (· < w.heap.size) 1000000 (.mk 5 false 0 ⟨#[]⟩ [] []) #[.int .i64 5, .bool false, .int .i64 0, .string ⟨#[]⟩, .slice none 0 0, .slice A 0 c] := by
    rw [Val]
    exact ⟨none, 0, A, c, by simp, ⟨by simp, by simp, by simp [ByteArray.size], by simp, by simp, fun _ => rfl, hA⟩, by rw [ValL]; trivial, by rw [ValM]; trivial⟩
  have HV := Lib.hid hval
  clear hval
  go_enter Tryd.func28, Tryd.ntmps28
  go_wp2_with fail
  refine (Copy_made _ _ w.heap.size _ (HV.out.keep (fun p hp => Below.cell ((Below.refl w.heap.size w).alloc (Nat.le_refl _) _) hp) (fun _ h => h)) (by simp) (by simp [vsize, vsizeM])).mono ?_
  rintro e W1 ⟨⟨o, rfl, hm⟩, hb1⟩
  obtain ⟨b, cap, rfl, hbn⟩ := hm.empty
  have hzA : (w.alloc (.cells zero6 38)).heap.size = w.heap.size + 1 := by simp
  have hb1' : Below (w.heap.size + 1) (w.alloc (.cells zero6 38)) W1 := hzA ▸ hb1
  have hres : Whole W1 w.heap.size 38 zero6 := (Whole.made w _ _).below hb1' (by omega)
  have hz1 : w.heap.size + 1 ≤ W1.heap.size := by have := hb1'.size; omega
  have hbw : Below w.heap.size w W1 := ((Below.refl w.heap.size w).alloc (Nat.le_refl _) _).trans (hb1'.mono (by omega))
  have HX := Lib.hid (And.intro hres (And.intro hbw hbn))
  clear hm hb1 hb1' hres hbw hbn hzA HV
  simp only [C6.arr]
  go_wp2_with fail
  obtain ⟨W2, hW2⟩ : ∃ W2, W1.alloc (.cells #[.int .i64 5, .bool false, .int .i64 0, .string ⟨#[]⟩, .slice none 0 0, .slice b 0 cap] 38) = W2 := ⟨_, rfl⟩
  rw [hW2]
  have hbW2 : Below W1.heap.size W1 W2 := hW2 ▸ (Below.refl _ _).alloc (Nat.le_refl _) _
  have hr2 := HX.out.1.below hbW2 HX.out.1.lt
  have h42 : Whole W2 W1.heap.size 38 #[.int .i64 5, .bool false, .int .i64 0, .string ⟨#[]⟩, .slice none 0 0, .slice b 0 cap] := hW2 ▸ Whole.made _ _ _
  obtain ⟨a0, a1, a2, a3, a4, a5⟩ := Whole.six hr2
  obtain ⟨b0, b1, b2, b3, b4, b5⟩ := h42.six
  have f0 := hr2.frozen 0
  have f1 := hr2.frozen 1
  have f2 := hr2.frozen 2
  have f3 := hr2.frozen 3
  have f4 := hr2.frozen 4
  have f5 := hr2.frozen 5
  have hz2 : w.heap.size < W2.heap.size := hr2.lt
  have hz3 : W1.heap.size < W2.heap.size := h42.lt
  have HB := Lib.hid (HX.out.2.1.trans (hbW2.mono HX.out.2.1.size))
  clear hW2 hbW2 hr2 h42
  refine (sort_none b cap W2).mono ?_
  rintro e W3 ⟨rfl, rfl⟩
  go_wp2_with fail
  go_loopg [16] 0 (NoRel W2)
  case atStart => exact ⟨rfl, rfl⟩
  case round =>
    obtain ⟨rfl, rfl⟩ := hrel
    go_wp2_with fail
    obtain ⟨W4, hW4⟩ : ∃ W4, put6 W2 w.heap.size 0 ⟨5, false, 0, ⟨#[]⟩, none, 0, 0, b, 0, cap⟩ = W4 := ⟨_, rfl⟩
    have hW4' := hW4
    unfold put6 at hW4'
    simp only [Nat.zero_add] at hW4'
    rw [hW4']
    obtain ⟨m0, m1, m2, m3, m4, m5⟩ : W4.cell? ⟨w.heap.size, 0, none⟩ = some (.int .i64 5) ∧ W4.cell? ⟨w.heap.size, 1, none⟩ = some (.bool false) ∧ W4.cell? ⟨w.heap.size, 2, none⟩ = some (.int .i64 0) ∧ W4.cell? ⟨w.heap.size, 3, none⟩ = some (.string ⟨#[]⟩) ∧ W4.cell? ⟨w.heap.size, 4, none⟩ = some (.slice none 0 0) ∧ W4.cell? ⟨w.heap.size, 5, none⟩ = some (.slice b 0 cap) := by
      rw [← hW4']
      simp [go_sem, a0, a1, a2, a3, a4, a5]
    clear hW4'
    refine bodyPost_ret (v := .tuple #[.agg #[.int .i64 5, .bool false, .int .i64 0, .string ⟨#[]⟩, .slice none 0 0, .slice b 0 cap], .nilIface]) (by simp [results, Tryd.results28, go_sem, m0, m1, m2, m3, m4, m5]) rfl ⟨?_, ?_⟩
    · refine ⟨[], by simp [canonM], fun i j hi hj hij => by simp at hi, .inl ⟨⟨5, false, 0, ⟨#[]⟩, none, 0, 0, b, 0, cap⟩, rfl, fun i h => by simp at h, ?_⟩⟩
      rw [Val]
      exact ⟨none, 0, b, cap, by simp [C6.arr], ⟨by simp, by simp, by simp [ByteArray.size], by simp, by simp, fun _ => rfl, HX.out.2.2⟩, by rw [ValL]; trivial, by rw [ValM]; trivial⟩
    · rw [← hW4]; exact below_put6 HB.out w.heap.size 0 ⟨5, false, 0, ⟨#[]⟩, none, 0, 0, b, 0, cap⟩ (Nat.le_refl _)

theorem Members_any (ms : List (ByteArray × V)) (A : Option Addr) (c B : Nat) (w : World) (hv : ValM w (· < B) 1000000 ms A 0) (hB : B ≤ w.heap.size) (hl : ms.length ≤ 1000000) (hc : ms.length ≤ c) (hA : A = none → c = 0) (hsz : vsizeM ms ≤ 900000000) :
    Calls Tryd.prog 28 #[.slice A ms.length c] w fun e w' => MemAns w w' ms e ∧ Below w.heap.size w w' := by
  by_cases hne : ms = []
  · subst hne
    exact Members_none A c w hA
  · exact Members_some ms A c B w hv hB hl hc hA hsz hne
end Go.Proofs.YtbjgelkckmfjeaaDoor

namespace Go.Proofs.YtbjgelkckmfjeaaDoor
open Go.RowKit Go.Lib
set_option linter.unusedVariables false
set_option linter.unusedSimpArgs false

theorem vsizeL_take : ∀ (l : List V) (j : Nat) (h : j < l.length), vsizeL (l.take (j + 1)) = vsizeL (l.take j) + vsize l[j]
  | v :: r, 0, h => by simp [vsizeL]
  | v :: r, j + 1, h => by
    have := vsizeL_take r j (by simpa using h)
    simp only [List.take_succ_cons, vsizeL, List.getElem_cons_succ] at *
    omega
theorem vsizeL_le : ∀ (l : List V) (j : Nat), vsizeL (l.take j) ≤ vsizeL l
  | [], j => by simp [vsizeL]
  | v :: r, 0 => by simp [vsizeL]
  | v :: r, j + 1 => by have := vsizeL_le r j; simp only [List.take_succ_cons, vsizeL]; omega
def RSzRel (w : World) (l : List V) (k : Nat) (n i : Value) (wr : World) : Prop :=
  ∃ j : Nat, j + k = l.length ∧ i = .int .i64 j ∧ n = .int .i64 (1 + vsizeL (l.take j) : Nat) ∧ Below w.heap.size w wr

set_option maxRecDepth 100000 in
set_option maxHeartbeats 4000000 in
theorem refsize_any : ∀ (n : Nat) (v : V) (cs : Array Value) (B : Nat) (w : World), vsize v ≤ n → n ≤ 1000000 → Val w (· < B) 1000000 v cs → B ≤ w.heap.size →
    Calls Tryd.prog 22 #[.agg cs] w fun e w' => e = .returned (.int .i64 (vsize v : Nat)) ∧ Below w.heap.size w w'
  | 0, v, cs, B, w, h, _, _, _ => by have := vsize_pos v; omega
  | n + 1, v, cs, B, w, hw, hn, hv, hB => by
    have ih := Lib.hid (refsize_any n)
    obtain ⟨c, rfl⟩ := hv.c6
    have hvp := vsize_parts v
    have HV := Lib.hid (And.intro hw hvp)
    have HP := Lib.hid (fun W (hW : Below w.heap.size w W) => parts_any v _ B W (hv.keep (fun p hp => hW.cell (Nat.lt_of_lt_of_le hp hB)) (fun _ h => h)) (Nat.le_trans hB hW.size))
    clear hv hw hvp
    obtain ⟨jk, jy, jn, jt, ja, jla, jca, jb, jlb, jcb⟩ := c
    dsimp only [C6.arr] at HP ⊢
    have hb0 : ∀ o, Below w.heap.size w (w.alloc o) := fun o => (Below.refl _ _).alloc (Nat.le_refl _) _
    go_enter Tryd.func22, Tryd.ntmps22
    go_wp2_with fail
    refine (HP.out _ (hb0 _)).mono ?_
    rintro e W ⟨⟨A, c, rfl, hpc, hpl, hvl⟩, hb⟩
    obtain ⟨l, hl⟩ : ∃ l, parts v = l := ⟨_, rfl⟩
    rw [hl] at hpc hpl hvl HV ⊢
    have HX := Lib.hid (And.intro hvl ((hb0 _).trans (hb.mono (by simp))))
    have hzW : w.heap.size < W.heap.size := by have := hb.size; simp at this; omega
    clear hvl hb hl HP
    go_wp2_with fail
    go_loopg [3, 10] l.length (RSzRel W l)
    case atStart => exact ⟨0, by simp, rfl, by simp [vsizeL], Below.refl _ _⟩
    case round =>
      obtain ⟨j, hk, rfl, rfl, hb⟩ := hrel
      by_cases hlt : j < l.length
      · obtain ⟨b, off, cs, rfl, hbB, hc, hx⟩ := HX.out.1.get j hlt
        obtain ⟨cj, rfl⟩ := hx.c6
        have hcj : ∀ q, q < 6 → wr.cell? ⟨b, off + j * 6 + q, none⟩ = cj.arr[q]? := fun q hq => (hb.cell (p := ⟨b, off + j * 6 + q, none⟩) hbB).trans (by simpa using hc q hq)
        obtain ⟨x0, x1, x2, x3, x4, x5⟩ := cells6 hcj rfl
        have htk := vsizeL_take l j hlt
        have hle := vsizeL_le l (j + 1)
        have hwj : vsize l[j] ≤ n := by have := HV.out; omega
        have hcall := ih.out l[j] cj.arr W.heap.size wr hwj (by omega) (hx.keep (fun p hp => hb.cell hp) (fun _ h => h)) hb.size
        obtain ⟨a, ha⟩ : ∃ a, vsizeL (l.take j) = a := ⟨_, rfl⟩
        obtain ⟨x, hxx⟩ : ∃ x, vsize l[j] = x := ⟨_, rfl⟩
        rw [ha] at htk ⊢
        rw [hxx] at hcall htk
        have hs1 : 1 + a + x ≤ 1000000 := by have := HV.out; omega
        have HC := Lib.hid (And.intro hcall (And.intro htk (And.intro hk hb)))
        have hj1 : (j : Int) < (l.length : Int) := by omega
        clear hcall hk hb hcj hc hx ha hxx htk hle hwj
        obtain ⟨qk, qy, qn, qt, qa, qla, qca, qb, qlb, qcb⟩ := cj
        dsimp only [C6.arr] at x0 x1 x2 x3 x4 x5 HC
        go_wp2_with fail
        refine HC.out.1.mono ?_
        rintro e W2 ⟨rfl, hb2⟩
        go_wp2_with fail
        go_roundg (l.length - (j + 1))
        case rel =>
          obtain ⟨-, htk, hk, hb⟩ := HC.out
          refine ⟨j + 1, by omega, by go_num, ?_, hb.trans (hb2.mono hb.size)⟩
          rw [htk]
          congr 1
          omega
        case measure => have := HC.out.2.2.1; omega
      · obtain rfl : j = l.length := by omega
        have hsL : vsizeL (l.take l.length) = vsizeL l := by rw [List.take_length]
        rw [hsL]
        have HB := Lib.hid hb
        clear hsL hb hk
        go_wp2_with fail
        go_ret
        exact ⟨by rw [HV.out.2]; rfl, HX.out.2.trans (HB.out.mono HX.out.2.size)⟩

def RGetAns (r : Option V) (B : Nat) (w : World) (e : Ending) (w' : World) : Prop :=
  Below w.heap.size w w' ∧ ((r = none ∧ e = .returned (.tuple #[.agg zero6, .bool false])) ∨ ∃ (x : V) (o : C6), r = some x ∧ e = .returned (.tuple #[.agg o.arr, .bool true]) ∧ Val w (· < B) 1000000 x o.arr)
def RGetRel (w : World) (key : ByteArray) (m : List (ByteArray × V)) (box : Array Value) (k : Nat) (i : Value) (wr : World) : Prop :=
  ∃ j : Nat, j + k = m.length ∧ i = .int .i64 j ∧ Whole wr w.heap.size 25 box ∧ Whole wr (w.heap.size + 1) 25 zero6 ∧ getM key (m.drop j) = getM key m ∧ Below w.heap.size w wr

set_option maxRecDepth 100000 in
set_option maxHeartbeats 4000000 in
theorem refget_any (v : V) (key : ByteArray) (cs : Array Value) (B : Nat) (w : World) (hv : Val w (· < B) 1000000 v cs) (hB : B ≤ w.heap.size) :
    Calls Tryd.prog 17 #[.agg cs, .string key] w (RGetAns (getV v key) B w) := by
  cases v with
  | mk k y n t l m =>
  rw [Val] at hv
  obtain ⟨A1, c1, A2, c2, rfl, ⟨h1c, h2c, ht, hl, hm, hn1, hn2⟩, hvl, hvm⟩ := hv
  by_cases k5 : k = 5
  · subst k5
    have hg : getV (.mk 5 y n t l m) key = getM key m := by simp [getV, V.kind, V.mp]
    rw [hg]
    obtain ⟨R, hR⟩ : ∃ R, getM key m = R := ⟨_, rfl⟩
    rw [hR]
    have HV := Lib.hid (And.intro hvm hR)
    clear hvl hvm hg hR
    go_enter Tryd.func17, Tryd.ntmps17
    go_wp2_with fail
    go_loopg [13] m.length (RGetRel w key m #[.int .i64 5, .bool y, .int .i64 n, .string t, .slice A1 l.length c1, .slice A2 m.length c2])
    case atStart =>
      refine ⟨0, by simp, rfl, (Whole.made w _ _).alloc _, ?_, rfl, ((Below.refl _ _).alloc (Nat.le_refl _) _).alloc (by simp) _⟩
      have := Whole.made (w.alloc (.cells #[.int .i64 5, .bool y, .int .i64 n, .string t, .slice A1 l.length c1, .slice A2 m.length c2] 25)) 25 zero6
      simpa [zero6] using this
    case round =>
      obtain ⟨j, hk, rfl, hbox, hres, hrest, hb⟩ := hrel
      have hz : w.heap.size + 1 < wr.heap.size := hres.lt
      have b5 := hbox.cell 5
      simp at b5
      obtain ⟨a0, a1, a2, a3, a4, a5⟩ := Whole.six hres
      have g0 := hres.frozen 0
      have g1 := hres.frozen 1
      have g2 := hres.frozen 2
      have g3 := hres.frozen 3
      have g4 := hres.frozen 4
      have g5 := hres.frozen 5
      by_cases hlt : j < m.length
      · obtain ⟨b, off, cs, rfl, hbB, hsM, hkc, hc, hx⟩ := HV.out.1.get j hlt
        obtain ⟨cj, rfl⟩ := hx.c6
        obtain ⟨s, hs⟩ : ∃ s, m[j].1 = s := ⟨_, rfl⟩
        rw [hs] at hkc
        have hck : wr.cell? ⟨b, off + j * 7, none⟩ = some (.string s) := (hb.cell (p := ⟨b, off + j * 7, none⟩) (by simp; omega)).trans (by simpa using hkc)
        have hcj : ∀ q, q < 6 → wr.cell? ⟨b, off + j * 7 + (1 + q), none⟩ = cj.arr[q]? := fun q hq => (hb.cell (p := ⟨b, off + j * 7 + (1 + q), none⟩) (by simp; omega)).trans (by simpa using hc q hq)
        obtain ⟨xk, x0, x1, x2, x3, x4, x5⟩ := cells7 hck hcj rfl
        have hj1 : (j : Int) < (m.length : Int) := by omega
        have hdrop : getM key (m.drop j) = if s.toList == key.toList then some m[j].2 else getM key (m.drop (j + 1)) := by
          rw [List.drop_eq_getElem_cons hlt]
          show getM key ((m[j].1, m[j].2) :: _) = _
          rw [getM, hs]
        have HX := Lib.hid (And.intro hk (And.intro hbox (And.intro hres (And.intro hrest (And.intro hb (And.intro hdrop hx))))))
        cases hsk : (s.toList == key.toList)
        · clear hk hbox hres hrest hb hcj hc hx hck hkc hdrop hs hsM
          obtain ⟨qk, qy, qn, qt, qa, qla, qca, qb, qlb, qcb⟩ := cj
          dsimp only [C6.arr] at x0 x1 x2 x3 x4 x5
          go_wp2_with fail
          go_roundg (m.length - (j + 1))
          case rel =>
            obtain ⟨hk, hbox, hres, hrest, hb, hdrop, -⟩ := HX.out
            exact ⟨j + 1, by omega, by go_num, hbox, hres, by rw [← hrest, hdrop, hsk]; rfl, hb⟩
          case measure => have := HX.out.1; omega
        · clear hk hbox hres hrest hb hcj hc hx hck hkc hdrop hs hsM
          obtain ⟨qk, qy, qn, qt, qa, qla, qca, qb, qlb, qcb⟩ := cj
          dsimp only [C6.arr] at x0 x1 x2 x3 x4 x5
          go_wp2_with fail
          refine bodyPost_ret (v := .tuple #[.agg (C6.arr ⟨qk, qy, qn, qt, qa, qla, qca, qb, qlb, qcb⟩), .bool true]) (by simp [results, Tryd.results17, go_sem, a0, a1, a2, a3, a4, a5, C6.arr]) rfl ⟨?_, .inr ⟨m[j].2, ⟨qk, qy, qn, qt, qa, qla, qca, qb, qlb, qcb⟩, ?_, rfl, HX.out.2.2.2.2.2.2⟩⟩
          · have hbw := HX.out.2.2.2.2.1
            exact (((((hbw.setCell (by simp) _).setCell (by simp) _).setCell (by simp) _).setCell (by simp) _).setCell (by simp) _).setCell (by simp) _
          · rw [← HV.out.2, ← HX.out.2.2.2.1, HX.out.2.2.2.2.2.1, hsk]; rfl
      · have hjl : j = m.length := by omega
        subst hjl
        have HX := Lib.hid (And.intro hrest hb)
        clear hbox hres hrest hb hk
        go_wp2_with fail
        refine bodyPost_ret (v := .tuple #[.agg zero6, .bool false]) (by simp [results, Tryd.results17, go_sem, a0, a1, a2, a3, a4, a5, zero6]) rfl ⟨?_, .inl ⟨?_, rfl⟩⟩
        · have hbw := HX.out.2
          exact (((((hbw.setCell (by simp) _).setCell (by simp) _).setCell (by simp) _).setCell (by simp) _).setCell (by simp) _).setCell (by simp) _
        · rw [← HV.out.2, ← HX.out.1, List.drop_of_length_le (Nat.le_refl _)]; rfl
  · have hg : getV (.mk k y n t l m) key = none := by simp [getV, V.kind, k5]
    rw [hg]
    have e5 : (k == 5) = false := by simpa using k5
    clear hvl hvm hg k5
    go_enter Tryd.func17, Tryd.ntmps17
    go_wp2_with fail
    refine bodyPost_ret (v := .tuple #[.agg zero6, .bool false]) (by simp [results, Tryd.results17, go_sem, zero6]) rfl ⟨?_, .inl ⟨rfl, rfl⟩⟩
    repeat (first | exact Below.refl _ _ | refine Below.setCell ?_ (by simp <;> omega) _ | refine Below.alloc ?_ (by simp <;> omega) _)
end Go.Proofs.YtbjgelkckmfjeaaDoor

namespace Go.Proofs.YtbjgelkckmfjeaaDoor
open Go.RowKit Go.Lib
set_option linter.unusedVariables false
set_option linter.unusedSimpArgs false

mutual
theorem same_refl : ∀ v, same v v = true
  | .mk k y n t l m => by
    rw [same]
    have h1 := sameL_refl l
    have h2 := sameM_refl m
    simp [h1, h2]
theorem sameL_refl : ∀ l, sameL l l = true
  | [] => by rw [sameL]
  | v :: r => by rw [sameL, same_refl v, sameL_refl r]; rfl
theorem sameM_refl : ∀ l, sameM l l = true
  | [] => by rw [sameM]
  | (s, v) :: r => by rw [sameM, same_refl v, sameM_refl r]; simp
end
mutual
theorem same_canon : ∀ v, same (canon v) v = true
  | .mk k y n t l m => by
    have h1 := sameL_canon l
    have h2 := sameM_canon m
    rw [canon, same, show (k == k) = true by simp, Bool.true_and]
    by_cases k1 : k = 1
    · subst k1; simp
    rw [if_neg k1]
    by_cases k2 : k = 2
    · subst k2; simp
    rw [if_neg k2]
    by_cases k3 : k = 3
    · subst k3; simp
    rw [if_neg k3]
    by_cases k4 : k = 4
    · subst k4; simpa using h1
    rw [if_neg k4]
    by_cases k5 : k = 5
    · subst k5; simpa using h2
    rw [if_neg k5]
theorem sameL_canon : ∀ l, sameL (canonL l) l = true
  | [] => by rw [canonL, sameL]
  | v :: r => by rw [canonL, sameL, same_canon v, sameL_canon r]; rfl
theorem sameM_canon : ∀ l, sameM (canonM l) l = true
  | [] => by rw [canonM, sameM]
  | (s, v) :: r => by rw [canonM, sameM, same_canon v, sameM_canon r]; simp
end
theorem beq_swap {α : Type} [BEq α] [LawfulBEq α] (a b : α) : (a == b) = (b == a) := by
  by_cases h : a = b
  · subst h; rfl
  · rw [beq_eq_false_iff_ne.2 h, beq_eq_false_iff_ne.2 (fun e => h e.symm)]
mutual
theorem same_symm : ∀ v v', same v v' = same v' v
  | .mk k y n t l m, .mk k' y' n' t' l' m' => by
    have h1 := sameL_symm l l'
    have h2 := sameM_symm m m'
    rw [same, same, beq_swap k k']
    by_cases hk : k = k'
    · subst hk
      rw [beq_swap y y', beq_swap n n', beq_swap t.toList t'.toList, h1, h2]
    · rw [show (k' == k) = false by rw [beq_eq_false_iff_ne]; exact fun e => hk e.symm]; rfl
theorem sameL_symm : ∀ l l', sameL l l' = sameL l' l
  | [], [] => rfl
  | [], _ :: _ => by simp [sameL]
  | _ :: _, [] => by simp [sameL]
  | v :: r, v' :: r' => by rw [sameL, sameL, same_symm v v', sameL_symm r r']
theorem sameM_symm : ∀ l l', sameM l l' = sameM l' l
  | [], [] => rfl
  | [], _ :: _ => by simp [sameM]
  | _ :: _, [] => by simp [sameM]
  | (s, v) :: r, (s', v') :: r' => by rw [sameM, sameM, same_symm v v', sameM_symm r r', beq_swap s.toList s'.toList]
end
/-! What counts of a value is as much, and as deep. -/
mutual
theorem vsize_canon : ∀ v, vsize (canon v) = vsize v
  | .mk k y n t l m => by
    have h1 := vsizeL_canon l
    have h2 := vsizeM_canon m
    rw [canon, vsize, vsize]
    by_cases k4 : k = 4
    · simp [k4, h1]
    · by_cases k5 : k = 5
      · simp [k5, h2]
      · simp [k4, k5]
theorem vsizeL_canon : ∀ l, vsizeL (canonL l) = vsizeL l
  | [] => by rw [canonL]
  | v :: r => by rw [canonL, vsizeL, vsizeL, vsize_canon v, vsizeL_canon r]
theorem vsizeM_canon : ∀ l, vsizeM (canonM l) = vsizeM l
  | [] => by rw [canonM]
  | (s, v) :: r => by rw [canonM, vsizeM, vsizeM, vsize_canon v, vsizeM_canon r]
end
mutual
theorem vsize_wgt : ∀ v, vsize v ≤ wgt v
  | .mk k y n t l m => by
    have h1 := vsizeL_wgt l
    have h2 := vsizeM_wgt m
    rw [vsize, wgt]
    split <;> split <;> omega
theorem vsizeL_wgt : ∀ l, vsizeL l ≤ wgtL l
  | [] => by simp [vsizeL]
  | v :: r => by have h1 := vsize_wgt v; have h2 := vsizeL_wgt r; rw [vsizeL, wgtL]; omega
theorem vsizeM_wgt : ∀ l, vsizeM l ≤ wgtM l
  | [] => by simp [vsizeM]
  | (s, v) :: r => by have h1 := vsize_wgt v; have h2 := vsizeM_wgt r; rw [vsizeM, wgtM]; omega
end
mutual
theorem wgt_canon : ∀ v, wgt (canon v) ≤ wgt v
  | .mk k y n t l m => by
    have h1 := wgtL_canon l
    have h2 := wgtM_canon m
    have h0 : (ByteArray.mk #[]).size = 0 := rfl
    rw [canon, wgt, wgt]
    have a1 : (if k = 3 then t else ⟨#[]⟩ : ByteArray).size ≤ t.size := by split <;> omega
    have a2 : wgtL (if k = 4 then canonL l else []) ≤ wgtL l := by
      split
      · exact h1
      · simp [wgtL]
    have a3 : wgtM (if k = 5 then canonM m else []) ≤ wgtM m := by
      split
      · exact h2
      · simp [wgtM]
    omega
theorem wgtL_canon : ∀ l, wgtL (canonL l) ≤ wgtL l
  | [] => by rw [canonL]; exact Nat.le_refl _
  | v :: r => by have h1 := wgt_canon v; have h2 := wgtL_canon r; rw [canonL, wgtL, wgtL]; omega
theorem wgtM_canon : ∀ l, wgtM (canonM l) ≤ wgtM l
  | [] => by rw [canonM]; exact Nat.le_refl _
  | (s, v) :: r => by have h1 := wgt_canon v; have h2 := wgtM_canon r; rw [canonM, wgtM, wgtM]; omega
end
end Go.Proofs.YtbjgelkckmfjeaaDoor

namespace Go.Proofs.YtbjgelkckmfjeaaDoor
open Go.RowKit Go.Lib
set_option linter.unusedVariables false
set_option linter.unusedSimpArgs false

/-- A cell behind: as it was; or a number for a number; or a text, by at most n longer. -/
def Like (n : Nat) (u u' : Value) : Prop := u' = u ∨ (∃ a b : Int, u = .int .i64 a ∧ u' = .int .i64 b) ∨ ∃ s s' : ByteArray, u = .string s ∧ u' = .string s' ∧ s'.size ≤ s.size + n
theorem Like.trans {n m : Nat} {u v x : Value} (h : Like n u v) (h' : Like m v x) : Like (n + m) u x := by
  rcases h with rfl | ⟨a, b, rfl, rfl⟩ | ⟨s, s', rfl, rfl, hs⟩
  · rcases h' with rfl | ⟨a, b, rfl, rfl⟩ | ⟨s, s', rfl, rfl, hs⟩
    · exact .inl rfl
    · exact .inr (.inl ⟨a, b, rfl, rfl⟩)
    · exact .inr (.inr ⟨s, s', rfl, rfl, by omega⟩)
  · rcases h' with rfl | ⟨a', b', e, rfl⟩ | ⟨s, s', e, rfl, hs⟩
    · exact .inr (.inl ⟨a, b, rfl, rfl⟩)
    · exact .inr (.inl ⟨a, b', rfl, rfl⟩)
    · cases e
  · rcases h' with rfl | ⟨a', b', e, rfl⟩ | ⟨s1, s2, e, rfl, hs2⟩
    · exact .inr (.inr ⟨s, s', rfl, rfl, by omega⟩)
    · cases e
    · injection e with e
      subst e
      exact .inr (.inr ⟨s, s2, rfl, rfl, by omega⟩)
theorem Like.more {n m : Nat} {u v : Value} (h : Like n u v) (hm : n ≤ m) : Like m u v := by
  rcases h with h | h | ⟨s, s', h1, h2, h3⟩
  · exact .inl h
  · exact .inr (.inl h)
  · exact .inr (.inr ⟨s, s', h1, h2, by omega⟩)
/-- What turn does: only blocks that Q says, cell by cell as 'Like' says; nothing is made. -/
structure Mod (Q : Nat → Prop) (n : Nat) (w w' : World) : Prop where
  os : w'.os = w.os
  tape : w'.tape = w.tape
  output : w'.output = w.output
  size : w'.heap.size = w.heap.size
  far : ∀ k, ¬ Q k → w'.heap[k]? = w.heap[k]?
  frz : ∀ p, w'.frozen? p = w.frozen? p
  cell : ∀ p u, w.cell? p = some u → ∃ u', w'.cell? p = some u' ∧ Like n u u'
theorem Mod.refl (Q : Nat → Prop) (w : World) : Mod Q 0 w w := ⟨rfl, rfl, rfl, rfl, fun _ _ => rfl, fun _ => rfl, fun _ u h => ⟨u, h, .inl rfl⟩⟩
theorem Mod.trans {Q : Nat → Prop} {n m : Nat} {w w1 w2 : World} (h : Mod Q n w w1) (h' : Mod Q m w1 w2) : Mod Q (n + m) w w2 :=
  ⟨h'.os.trans h.os, h'.tape.trans h.tape, h'.output.trans h.output, h'.size.trans h.size, fun k hk => (h'.far k hk).trans (h.far k hk), fun p => (h'.frz p).trans (h.frz p), fun p u hu => by
    obtain ⟨u1, h1, l1⟩ := h.cell p u hu
    obtain ⟨u2, h2, l2⟩ := h'.cell p u1 h1
    exact ⟨u2, h2, l1.trans l2⟩⟩
theorem Mod.more {Q : Nat → Prop} {n m : Nat} {w w1 : World} (h : Mod Q n w w1) (hm : n ≤ m) : Mod Q m w w1 :=
  ⟨h.os, h.tape, h.output, h.size, h.far, h.frz, fun p u hu => by obtain ⟨u', h1, h2⟩ := h.cell p u hu; exact ⟨u', h1, h2.more hm⟩⟩
/-- One store of that kind. -/
theorem Mod.put {Q : Nat → Prop} {n : Nat} {w : World} {b o : Nat} {u u' : Value} (hQ : Q b) (hc : w.cell? ⟨b, o, none⟩ = some u) (hl : Like n u u') : Mod Q n w (w.setCell ⟨b, o, none⟩ u') where
  os := rfl
  tape := rfl
  output := rfl
  size := by simp [World.setCell]
  far := fun k hk => Below.heap_setCell _ _ _ _ (fun e => hk (by simpa [e] using hQ))
  frz := fun p => World.frozen?_setCell _ _ _ _
  cell := fun p x hx => by
    by_cases hp : p = ⟨b, o, none⟩
    · subst hp
      rw [hc] at hx
      injection hx with hx
      subst hx
      exact ⟨u', World.cell?_setCell_same _ _ _ hc, hl⟩
    · exact ⟨x, (World.cell?_setCell_other _ _ _ _ (fun e => hp e.symm)).trans hx, .inl rfl⟩

mutual
/-- The shape of a value at a place: its slices, its parts' kinds and keys, not frozen, in blocks that Q says. -/
def Sh (w : World) (Q : Nat → Prop) (L : Nat) : V → Nat → Nat → Prop
  | .mk _ _ _ _ l m, b, off => ∃ A c A' c', w.cell? ⟨b, off + 4, none⟩ = some (.slice A l.length c) ∧ w.cell? ⟨b, off + 5, none⟩ = some (.slice A' m.length c') ∧ ShL w Q L l A 0 ∧ ShM w Q L m A' 0
def ShL (w : World) (Q : Nat → Prop) (L : Nat) : List V → Option Addr → Nat → Prop
  | [], _, _ => True
  | v :: r, A, i => (∃ b off k, A = some ⟨b, off, none⟩ ∧ Q b ∧ w.cell? ⟨b, off + i * 6, none⟩ = some (.int .i64 k) ∧ Unfrozen w b ∧ Sh w Q L v b (off + i * 6)) ∧ ShL w Q L r A (i + 1)
def ShM (w : World) (Q : Nat → Prop) (L : Nat) : List (ByteArray × V) → Option Addr → Nat → Prop
  | [], _, _ => True
  | (_, v) :: r, A, i => (∃ b off s, A = some ⟨b, off, none⟩ ∧ Q b ∧ w.cell? ⟨b, off + i * 7, none⟩ = some (.string s) ∧ s.size ≤ L ∧ Unfrozen w b ∧ Sh w Q L v b (off + i * 7 + 1)) ∧ ShM w Q L r A (i + 1)
end
theorem Mod.slice {Q : Nat → Prop} {n : Nat} {w w' : World} (h : Mod Q n w w') {p : Addr} {A : Option Addr} {l c : Nat} (hc : w.cell? p = some (.slice A l c)) : w'.cell? p = some (.slice A l c) := by
  obtain ⟨u', h1, h2⟩ := h.cell p _ hc
  rcases h2 with rfl | ⟨a, b, e, -⟩ | ⟨s, s', e, -⟩
  · exact h1
  · cases e
  · cases e
mutual
theorem Sh.keep {w w' : World} {Q : Nat → Prop} {L n : Nat} (h : Mod Q n w w') : ∀ {v : V} {b off : Nat}, Sh w Q L v b off → Sh w' Q (L + n) v b off
  | .mk _ _ _ _ l m, b, off, hv => by
    rw [Sh] at hv ⊢
    obtain ⟨A, c, A', c', h4, h5, hl, hm⟩ := hv
    exact ⟨A, c, A', c', h.slice h4, h.slice h5, ShL.keep h hl, ShM.keep h hm⟩
theorem ShL.keep {w w' : World} {Q : Nat → Prop} {L n : Nat} (h : Mod Q n w w') : ∀ {l : List V} {A : Option Addr} {i : Nat}, ShL w Q L l A i → ShL w' Q (L + n) l A i
  | [], _, _, _ => by rw [ShL]; trivial
  | v :: r, A, i, hv => by
    rw [ShL] at hv ⊢
    obtain ⟨⟨b, off, k, e, hb, hk, hu, hx⟩, hr⟩ := hv
    obtain ⟨u', h1, h2⟩ := h.cell _ _ hk
    have hu' : Unfrozen w' b := fun o => (h.frz _).trans (hu o)
    refine ⟨?_, ShL.keep h hr⟩
    rcases h2 with rfl | ⟨a, a', -, rfl⟩ | ⟨s, s', e', -⟩
    · exact ⟨b, off, k, e, hb, h1, hu', Sh.keep h hx⟩
    · exact ⟨b, off, a', e, hb, h1, hu', Sh.keep h hx⟩
    · cases e'
theorem ShM.keep {w w' : World} {Q : Nat → Prop} {L n : Nat} (h : Mod Q n w w') : ∀ {l : List (ByteArray × V)} {A : Option Addr} {i : Nat}, ShM w Q L l A i → ShM w' Q (L + n) l A i
  | [], _, _, _ => by rw [ShM]; trivial
  | (t, v) :: r, A, i, hv => by
    rw [ShM] at hv ⊢
    obtain ⟨⟨b, off, s, e, hb, hk, hs, hu, hx⟩, hr⟩ := hv
    obtain ⟨u', h1, h2⟩ := h.cell _ _ hk
    have hu' : Unfrozen w' b := fun o => (h.frz _).trans (hu o)
    refine ⟨?_, ShM.keep h hr⟩
    rcases h2 with rfl | ⟨a, a', e', -⟩ | ⟨s1, s2, e', rfl, h3⟩
    · exact ⟨b, off, s, e, hb, h1, by omega, hu', Sh.keep h hx⟩
    · cases e'
    · injection e' with e'
      subst e'
      exact ⟨b, off, s2, e, hb, h1, by omega, hu', Sh.keep h hx⟩
end
mutual
/-- What Real made has that shape. -/
theorem Val.sh {w : World} {Q : Nat → Prop} {M : Nat} (hQ : ∀ b, Q b → Unfrozen w b) : ∀ {v : V} {cs : Array Value} {b off : Nat}, Val w Q M v cs → (∀ q, q < 6 → w.cell? ⟨b, off + q, none⟩ = cs[q]?) → Sh w Q M v b off
  | .mk k y n t l m, cs, b, off, hv, hc => by
    rw [Val] at hv
    obtain ⟨A, c, A', c', rfl, -, hl, hm⟩ := hv
    rw [Sh]
    exact ⟨A, c, A', c', hc 4 (by omega), hc 5 (by omega), ValL.sh hQ hl, ValM.sh hQ hm⟩
theorem ValL.sh {w : World} {Q : Nat → Prop} {M : Nat} (hQ : ∀ b, Q b → Unfrozen w b) : ∀ {l : List V} {A : Option Addr} {i : Nat}, ValL w Q M l A i → ShL w Q M l A i
  | [], _, _, _ => by rw [ShL]; trivial
  | .mk k y n t l' m' :: r, A, i, hv => by
    rw [ValL] at hv
    obtain ⟨⟨b, off, cs, e, hb, hc, hx⟩, hr⟩ := hv
    rw [ShL]
    refine ⟨⟨b, off, k, e, hb, ?_, hQ b hb, Val.sh hQ hx hc⟩, ValL.sh hQ hr⟩
    have h0 := hc 0 (by omega)
    rw [Val] at hx
    obtain ⟨A, c, A', c', rfl, -⟩ := hx
    exact h0
theorem ValM.sh {w : World} {Q : Nat → Prop} {M : Nat} (hQ : ∀ b, Q b → Unfrozen w b) : ∀ {l : List (ByteArray × V)} {A : Option Addr} {i : Nat}, ValM w Q M l A i → ShM w Q M l A i
  | [], _, _, _ => by rw [ShM]; trivial
  | (s, v) :: r, A, i, hv => by
    rw [ValM] at hv
    obtain ⟨⟨b, off, cs, e, hb, hs, hk, hc, hx⟩, hr⟩ := hv
    rw [ShM]
    exact ⟨⟨b, off, s, e, hb, hk, hs, hQ b hb, Val.sh hQ hx (fun q hq => by rw [Nat.add_assoc]; exact hc q hq)⟩, ValM.sh hQ hr⟩
end
end Go.Proofs.YtbjgelkckmfjeaaDoor

namespace Go.Proofs.YtbjgelkckmfjeaaDoor
open Go.RowKit Go.Lib
set_option linter.unusedVariables false
set_option linter.unusedSimpArgs false

theorem ShL.get {w : World} {Q : Nat → Prop} {L : Nat} : ∀ {l : List V} {A : Option Addr} {i : Nat}, ShL w Q L l A i → ∀ (j : Nat) (hj : j < l.length),
    ∃ b off k, A = some ⟨b, off, none⟩ ∧ Q b ∧ w.cell? ⟨b, off + (i + j) * 6, none⟩ = some (.int .i64 k) ∧ Unfrozen w b ∧ Sh w Q L l[j] b (off + (i + j) * 6)
  | v :: r, A, i, hv, 0, _ => by rw [ShL] at hv; exact hv.1
  | v :: r, A, i, hv, j + 1, hj => by
    rw [ShL] at hv
    obtain ⟨b, off, k, e, hb, hc, hu, hx⟩ := ShL.get hv.2 j (by simpa using hj)
    rw [show i + 1 + j = i + (j + 1) by omega] at hc hx
    exact ⟨b, off, k, e, hb, hc, hu, by simpa using hx⟩
theorem ShM.get {w : World} {Q : Nat → Prop} {L : Nat} : ∀ {l : List (ByteArray × V)} {A : Option Addr} {i : Nat}, ShM w Q L l A i → ∀ (j : Nat) (hj : j < l.length),
    ∃ b off s, A = some ⟨b, off, none⟩ ∧ Q b ∧ w.cell? ⟨b, off + (i + j) * 7, none⟩ = some (.string s) ∧ s.size ≤ L ∧ Unfrozen w b ∧ Sh w Q L l[j].2 b (off + (i + j) * 7 + 1)
  | (t, v) :: r, A, i, hv, 0, _ => by rw [ShM] at hv; exact hv.1
  | (t, v) :: r, A, i, hv, j + 1, hj => by
    rw [ShM] at hv
    obtain ⟨b, off, s, e, hb, hc, hs, hu, hx⟩ := ShM.get hv.2 j (by simpa using hj)
    rw [show i + 1 + j = i + (j + 1) by omega] at hc hx
    exact ⟨b, off, s, e, hb, hc, hs, hu, by simpa using hx⟩
def TurnL (Q : Nat → Prop) (w : World) (l : List V) (k : Nat) (i : Value) (wr : World) : Prop := ∃ j : Nat, j + k = l.length ∧ i = .int .i64 j ∧ Mod Q (2 * wgtL (l.take j)) w wr
def TurnM (Q : Nat → Prop) (w : World) (n0 : Nat) (m : List (ByteArray × V)) (k : Nat) (i : Value) (wr : World) : Prop := ∃ j : Nat, j + k = m.length ∧ i = .int .i64 j ∧ Mod Q (n0 + 2 * wgtM (m.take j)) w wr

set_option maxRecDepth 100000 in
set_option maxHeartbeats 4000000 in
theorem turn_any (Q : Nat → Prop) : ∀ (N : Nat) (v : V) (b off L : Nat) (w : World), wgt v ≤ N → Sh w Q L v b off → L + 2 * wgt v ≤ 2000000 →
    Calls Tryd.prog 24 #[.pointer (some ⟨b, off, none⟩)] w fun e w' => e = .returned (.tuple #[]) ∧ Mod Q (2 * wgt v - 1) w w'
  | 0, v, b, off, L, w, h, _, _ => by have := wgt_pos v; omega
  | N + 1, .mk k y n t l m, b, off, L, w, hw, hv, hL => by
    have ih := Lib.hid (turn_any Q N)
    rw [wgt] at hw hL ⊢
    rw [Sh] at hv
    obtain ⟨A, c, A', c', h4, h5, hl, hm⟩ := hv
    have hln : l.length ≤ 2000000 := by have := wgtL_len l; omega
    have hmn : m.length ≤ 2000000 := by have := wgtM_len m; omega
    have HV := Lib.hid (And.intro hl (And.intro hm (And.intro hw (And.intro hL (And.intro h4 h5)))))
    clear hl hm hw hL h5
    go_enter Tryd.func24, Tryd.ntmps24
    go_wp2_with fail
    go_loopg [9] l.length (TurnL Q w l)
    case atStart => exact ⟨0, by simp, rfl, by simpa [wgtL] using Mod.refl Q w⟩
    case round =>
      obtain ⟨j, hk, rfl, hM⟩ := hrel
      have d4 := hM.slice HV.out.2.2.2.2.1
      have d5 := hM.slice HV.out.2.2.2.2.2
      by_cases hlt : j < l.length
      · obtain ⟨b', off', kk, rfl, hQ, hc, hu, hx⟩ := (HV.out.1.keep hM).get j hlt
        rw [Nat.zero_add] at hc hx
        have htk := wgtL_take l j hlt
        have hle := wgtL_le l (j + 1)
        have hcall := ih.out l[j] b' (off' + j * 6) _ wr (by have := HV.out.2.2.1; omega) hx (by have := HV.out.2.2.2.1; omega)
        have hj1 : (j : Int) < (l.length : Int) := by omega
        have HX := Lib.hid (And.intro hk (And.intro hM (And.intro hQ (And.intro hc (And.intro hu (And.intro htk hcall))))))
        clear hk hM hQ hc hu hx htk hle hcall h4 d5
        go_wp2_with fail
        refine HX.out.2.2.2.2.2.2.mono ?_
        rintro e W2 ⟨rfl, hM2⟩
        obtain ⟨u', hu1, hu2⟩ := hM2.cell _ _ HX.out.2.2.2.1
        have hint : ∃ a, u' = .int .i64 a := by
          rcases hu2 with rfl | ⟨a, a', -, rfl⟩ | ⟨s, s', e', -⟩
          · exact ⟨_, rfl⟩
          · exact ⟨_, rfl⟩
          · cases e'
        obtain ⟨a, rfl⟩ := hint
        have d4' := hM2.slice d4
        have f0 : W2.frozen? ⟨b', off' + j * 6, none⟩ = false := (hM2.frz _).trans (HX.out.2.2.2.2.1 _)
        have HM := Lib.hid (And.intro hM2 hu1)
        clear hM2 hu2 d4
        go_wp2_with fail
        go_roundg (l.length - (j + 1))
        case rel =>
          obtain ⟨hk, hM, hQ, hc, hu, htk, -⟩ := HX.out
          refine ⟨j + 1, by omega, by go_num, ((hM.trans HM.out.1).trans (Mod.put (n := 0) hQ HM.out.2 (.inr (.inl ⟨_, _, rfl, rfl⟩)))).more ?_⟩
          have := wgt_pos l[j]
          omega
        case measure => have := HX.out.1; omega
      · have hjl : j = l.length := by omega
        subst hjl
        rw [List.take_length] at hM
        have HM := Lib.hid hM
        clear hM hk h4 d4
        go_wp2_with fail
        obtain ⟨wo, rfl⟩ : ∃ wo : World, wo = wr := ⟨_, rfl⟩
        go_loopg [36] m.length (TurnM Q w (2 * wgtL l) m)
        case atStart => exact ⟨0, by simp, rfl, by simpa [wgtM] using HM.out⟩
        case round =>
          clear d5
          obtain ⟨j, hk, rfl, hM⟩ := hrel
          have d5 := hM.slice HV.out.2.2.2.2.2
          by_cases hlt2 : j < m.length
          · obtain ⟨b', off', s, rfl, hQ, hc, hs, hu, hx⟩ := (HV.out.2.1.keep hM).get j hlt2
            rw [Nat.zero_add] at hc hx
            have htk := wgtM_take m j hlt2
            have hle := wgtM_le m (j + 1)
            have hcall := ih.out m[j].2 b' (off' + j * 7 + 1) _ wr (by have := HV.out.2.2.1; omega) hx (by have := HV.out.2.2.2.1; omega)
            have hj1 : (j : Int) < (m.length : Int) := by omega
            have HX := Lib.hid (And.intro hk (And.intro hM (And.intro hQ (And.intro hc (And.intro hu (And.intro htk (And.intro hcall (And.intro hs hle))))))))
            clear hk hM hQ hc hu hx htk hle hcall hs
            go_wp2_with fail
            refine HX.out.2.2.2.2.2.2.1.mono ?_
            rintro e W2 ⟨rfl, hM2⟩
            obtain ⟨u', hu1, hu2⟩ := hM2.cell _ _ HX.out.2.2.2.1
            have hstr : ∃ s2 : ByteArray, u' = .string s2 ∧ s2.size ≤ s.size + (2 * wgt m[j].2 - 1) := by
              rcases hu2 with rfl | ⟨a, a', e', -⟩ | ⟨s1, s2, e', rfl, h3⟩
              · exact ⟨_, rfl, by omega⟩
              · cases e'
              · injection e' with e'
                subst e'
                exact ⟨_, rfl, h3⟩
            obtain ⟨s2, rfl, hs2⟩ := hstr
            have hs3 : s2.size + 1 ≤ 9000000 := by
              have h1 := HX.out.2.2.2.2.2.2.2.1
              have h2 := HX.out.2.2.2.2.2.2.2.2
              have h3 := HX.out.2.2.2.2.2.1
              have h6 := HV.out.2.2.2.1
              omega
            have d5' := hM2.slice d5
            have f0 : W2.frozen? ⟨b', off' + j * 7, none⟩ = false := (hM2.frz _).trans (HX.out.2.2.2.2.1 _)
            have HM2 := Lib.hid (And.intro hM2 hu1)
            clear hM2 hu2 d5 hs2
            go_wp2_with fail
            go_roundg (m.length - (j + 1))
            case rel =>
              obtain ⟨hk, hM, hQ, hc, hu, htk, -⟩ := HX.out
              refine ⟨j + 1, by omega, by go_num, ((hM.trans HM2.out.1).trans (Mod.put (n := 1) hQ HM2.out.2 (.inr (.inr ⟨_, _, rfl, rfl, ?_⟩)))).more ?_⟩
              · rw [ByteArray.size_append]; exact Nat.le_refl _
              · have := wgt_pos m[j].2
                omega
            case measure => have := HX.out.1; omega
          · have hjl : j = m.length := by omega
            subst hjl
            rw [List.take_length] at hM
            have HM2 := Lib.hid hM
            clear hM hk
            go_wp2_with fail
            exact bodyPost_end (v := .tuple #[]) (by simp [results, Tryd.results24]) rfl ⟨rfl, HM2.out.more (by omega)⟩
end Go.Proofs.YtbjgelkckmfjeaaDoor

namespace Go.Proofs.YtbjgelkckmfjeaaDoor
open Go.RowKit Go.Lib
set_option linter.unusedVariables false
set_option linter.unusedSimpArgs false

def V0 : V := .mk 0 false 0 ⟨#[]⟩ [] []
theorem val_zero (w : World) (Q : Nat → Prop) (M : Nat) : Val w Q M V0 zero6 := by
  rw [V0, Val]
  exact ⟨none, 0, none, 0, rfl, ⟨by simp, by simp, by simp [ByteArray.size], by simp, by simp, fun _ => rfl, fun _ => rfl⟩, by rw [ValL]; trivial, by rw [ValM]; trivial⟩
def orV : Option V → V
  | none => V0
  | some x => x
def orC : Option V → V
  | none => V0
  | some x => canon x
theorem same_or : ∀ r, same (orC r) (orV r) = true
  | none => same_refl _
  | some x => same_canon x
theorem wgtM_get {key : ByteArray} {x : V} : ∀ {m : List (ByteArray × V)}, getM key m = some x → wgt x ≤ wgtM m
  | [], h => by cases h
  | (s, v) :: r, h => by
    rw [getM] at h
    rw [wgtM]
    by_cases hs : s.toList == key.toList
    · rw [if_pos hs] at h; injection h with h; subst h; omega
    · rw [if_neg hs] at h; have := wgtM_get h; omega
theorem wgt_or (v : V) (key : ByteArray) : wgt (orC (getV v key)) ≤ wgt v := by
  cases hr : getV v key with
  | none =>
    have h1 := wgt_pos v
    have h2 : wgt (orC none) = 1 := by simp [orC, V0, wgt, wgtL, wgtM, ByteArray.size]
    omega
  | some x =>
    have h1 : wgt (orC (some x)) ≤ wgt x := wgt_canon x
    cases v with
    | mk k y n t l m =>
    rw [getV] at hr
    by_cases hk : (V.mk k y n t l m).kind = 5
    · rw [if_pos hk] at hr
      have h2 := wgtM_get hr
      rw [wgt]
      simp only [V.mp] at h2
      omega
    · rw [if_neg hk] at hr; cases hr
/-- What Get answers, whether the key is there or not. -/
def GetOr (r : Option V) (w : World) (e : Ending) (w' : World) : Prop :=
  ∃ o : C6, e = .returned (.tuple #[.agg o.arr, .bool r.isSome]) ∧ Below w.heap.size w w' ∧ Val w' (· < w'.heap.size) 1000000 (orC r) o.arr
theorem GetAns.or {r : Option V} {w : World} {e : Ending} {w' : World} (h : GetAns r w e w') : GetOr r w e w' := by
  obtain ⟨hb, ⟨rfl, rfl⟩ | ⟨x, o, rfl, rfl, hv⟩⟩ := h
  · exact ⟨⟨0, false, 0, ⟨#[]⟩, none, 0, 0, none, 0, 0⟩, rfl, hb, val_zero _ _ _⟩
  · exact ⟨o, rfl, hb, hv.keep (fun _ _ => rfl) (fun b hb => hb.2)⟩
def RGetOr (r : Option V) (B : Nat) (w : World) (e : Ending) (w' : World) : Prop :=
  ∃ o : C6, e = .returned (.tuple #[.agg o.arr, .bool r.isSome]) ∧ Below w.heap.size w w' ∧ Val w (· < B) 1000000 (orV r) o.arr
theorem RGetAns.or {r : Option V} {B : Nat} {w : World} {e : Ending} {w' : World} (h : RGetAns r B w e w') : RGetOr r B w e w' := by
  obtain ⟨hb, ⟨rfl, rfl⟩ | ⟨x, o, rfl, rfl, hv⟩⟩ := h
  · exact ⟨⟨0, false, 0, ⟨#[]⟩, none, 0, 0, none, 0, 0⟩, rfl, hb, val_zero _ _ _⟩
  · exact ⟨o, rfl, hb, hv⟩

/-- The five values that the law holds. -/
structure AskHold (W : World) (v : V) (r : Option V) (x g h c s : Array Value) : Prop where
  wx : wgt v ≤ 300
  wg : wgt (orC r) ≤ 300
  x : Val W (· < W.heap.size) 1000000 v x
  g : Val W (· < W.heap.size) 1000000 (orC r) g
  h : Val W (· < W.heap.size) 1000000 (orV r) h
  c : Val W (· < W.heap.size) 1000000 (canon v) c
  s : Val W (· < W.heap.size) 1000000 v s
theorem val_on {W W' : World} {v : V} {c : Array Value} (h : Val W (· < W.heap.size) 1000000 v c) (hb : Below W.heap.size W W') : Val W' (· < W'.heap.size) 1000000 v c :=
  h.keep (fun p hp => hb.cell hp) (fun b hp => Nat.lt_of_lt_of_le hp hb.size)
theorem AskHold.below {W W' : World} {v : V} {r : Option V} {x g h c s : Array Value} (H : AskHold W v r x g h c s) (hb : Below W.heap.size W W') : AskHold W' v r x g h c s :=
  ⟨H.wx, H.wg, val_on H.x hb, val_on H.g hb, val_on H.h hb, val_on H.c hb, val_on H.s hb⟩
variable {W : World} {v : V} {r : Option V} {x g h c s : Array Value}
theorem AskHold.depth (H : AskHold W v r x g h c s) : Calls Tryd.prog 19 #[.agg x] W fun e w' => e = .returned (.int .i64 (dep v : Nat)) ∧ Below W.heap.size W w' :=
  Depth_any v x W.heap.size W H.x (Nat.le_refl _) (by have := vsize_wgt v; have := H.wx; omega) (by have := dep_wgt v; have := H.wx; omega)
theorem AskHold.rdepth (H : AskHold W v r x g h c s) : Calls Tryd.prog 20 #[.agg s] W fun e w' => e = .returned (.int .i64 (dep v : Nat)) ∧ Below W.heap.size W w' :=
  depth_any 300 v s W.heap.size W H.wx (by omega) H.s (Nat.le_refl _)
theorem AskHold.size (H : AskHold W v r x g h c s) : Calls Tryd.prog 21 #[.agg x] W fun e w' => e = .returned (.int .i64 (vsize v : Nat)) ∧ Below W.heap.size W w' :=
  Size_any v x W.heap.size W H.x (Nat.le_refl _) (by have := vsize_wgt v; have := H.wx; omega)
theorem AskHold.rsize (H : AskHold W v r x g h c s) : Calls Tryd.prog 22 #[.agg s] W fun e w' => e = .returned (.int .i64 (vsize v : Nat)) ∧ Below W.heap.size W w' :=
  refsize_any (vsize v) v s W.heap.size W (Nat.le_refl _) (by have := vsize_wgt v; have := H.wx; omega) H.s (Nat.le_refl _)
theorem AskHold.isG (H : AskHold W v r x g h c s) : Calls Tryd.prog 23 #[.agg g, .agg h] W fun e w' => e = .returned (.bool true) ∧ Below W.heap.size W w' := by
  have := isLaw_any (orC r) (orV r) g h W.heap.size W (by have := H.wg; omega) H.g H.h (Nat.le_refl _)
  rw [same_or] at this
  exact this
theorem AskHold.isC (H : AskHold W v r x g h c s) : Calls Tryd.prog 23 #[.agg c, .agg s] W fun e w' => e = .returned (.bool true) ∧ Below W.heap.size W w' := by
  have := isLaw_any (canon v) v c s W.heap.size W (by have := H.wx; have := wgt_canon v; omega) H.c H.s (Nat.le_refl _)
  rw [same_canon] at this
  exact this
end Go.Proofs.YtbjgelkckmfjeaaDoor

namespace Go.Proofs.YtbjgelkckmfjeaaDoor
open Go.RowKit Go.Lib Go.Maps
set_option linter.unusedVariables false
set_option linter.unusedSimpArgs false

def numV (i : Nat) : V := .mk 2 false i ⟨#[]⟩ [] []
def memsF : Nat → List ByteArray → List (ByteArray × V)
  | _, [] => []
  | i, s :: r => (s, numV i) :: memsF (i + 1) r
theorem memsF_length : ∀ (ss : List ByteArray) (i : Nat), (memsF i ss).length = ss.length
  | [], i => rfl
  | s :: r, i => by rw [memsF, List.length_cons, List.length_cons, memsF_length r]
theorem memsF_get : ∀ (ss : List ByteArray) (i j : Nat) (h : j < (memsF i ss).length) (h2 : j < ss.length), (memsF i ss)[j] = (ss[j], numV (i + j))
  | s :: r, i, 0, h, h2 => by simp [memsF]
  | s :: r, i, j + 1, h, h2 => by
    simp only [memsF, List.getElem_cons_succ]
    rw [memsF_get r (i + 1) j _ (by simpa using h2), show i + 1 + j = i + (j + 1) by omega]
theorem memsF_mem {x : ByteArray × V} : ∀ {ss : List ByteArray} {i : Nat}, x ∈ memsF i ss → x.1 ∈ ss ∧ ∃ n, x.2 = numV n
  | s :: r, i, h => by
    rw [memsF] at h
    rcases List.mem_cons.1 h with rfl | h
    · exact ⟨List.mem_cons_self, _, rfl⟩
    · have := memsF_mem h; exact ⟨List.mem_cons_of_mem _ this.1, this.2⟩
theorem canonM_memsF : ∀ (ss : List ByteArray) (i : Nat), canonM (memsF i ss) = memsF i ss
  | [], i => by rw [memsF, canonM]
  | s :: r, i => by rw [memsF, canonM, canonM_memsF r]; simp [numV, canon]
theorem keys_memsF : ∀ (ss : List ByteArray) (i : Nat), (memsF i ss).map (·.1) = ss
  | [], i => rfl
  | s :: r, i => by rw [memsF, List.map_cons, keys_memsF r]
theorem vsizeM_nums : ∀ {l : List (ByteArray × V)}, (∀ x ∈ l, ∃ n, x.2 = numV n) → vsizeM l = l.length
  | [], _ => rfl
  | (s, v) :: r, h => by
    obtain ⟨n, hn⟩ := h (s, v) List.mem_cons_self
    simp only at hn
    rw [vsizeM, vsizeM_nums (fun x hx => h x (List.mem_cons_of_mem _ hx)), hn, List.length_cons]
    simp [numV, vsize]; omega
theorem depM_nums : ∀ {l : List (ByteArray × V)}, (∀ x ∈ l, ∃ n, x.2 = numV n) → depM l = 0
  | [], _ => by rw [depM]
  | (s, v) :: r, h => by
    obtain ⟨n, hn⟩ := h (s, v) List.mem_cons_self
    simp only at hn
    rw [depM, depM_nums (fun x hx => h x (List.mem_cons_of_mem _ hx)), hn]
    simp [numV, dep]
theorem getM_mem {key : ByteArray} {x : V} : ∀ {l : List (ByteArray × V)}, (l.map (·.1)).Nodup → (key, x) ∈ l → getM key l = some x
  | (s, v) :: r, hn, h => by
    rw [getM]
    rcases List.mem_cons.1 h with h | h
    · injection h with h1 h2
      subst h1 h2
      simp
    · have hs : s ≠ key := fun e => by
        subst e
        rw [List.map_cons, List.nodup_cons] at hn
        exact hn.1 (List.mem_map.2 ⟨_, h, rfl⟩)
      rw [if_neg (fun e => hs (toList_inj (by simpa using e)))]
      rw [List.map_cons, List.nodup_cons] at hn
      exact getM_mem hn.2 h
theorem getM_none {key : ByteArray} : ∀ {l : List (ByteArray × V)}, key ∉ l.map (·.1) → getM key l = none
  | [], _ => rfl
  | (s, v) :: r, h => by
    rw [List.map_cons, List.mem_cons] at h
    rw [getM, if_neg (fun e => h (.inl (toList_inj (by simpa using e)).symm))]
    exact getM_none fun h' => h (.inr h')

/-- All that the law asks of the row that Members made. -/
structure GetsRow (ss : List ByteArray) (ms : List (ByteArray × V)) : Prop where
  size : vsize (.mk 5 false 0 ⟨#[]⟩ [] ms) = ss.length + 1
  dep : dep (.mk 5 false 0 ⟨#[]⟩ [] ms) = 1
  get : ∀ i (h : i < ss.length), getV (.mk 5 false 0 ⟨#[]⟩ [] ms) ss[i] = some (numV i)
  other : ∀ s, (getV (.mk 5 false 0 ⟨#[]⟩ [] ms) s).isSome = true ↔ s ∈ ss
theorem getsRow {ss : List ByteArray} (hn : ss.Nodup) {ms : List (ByteArray × V)} (hp : ms.Perm (memsF 0 ss)) : GetsRow ss ms := by
  have hnum : ∀ x ∈ ms, ∃ n, x.2 = numV n := fun x hx => (memsF_mem (hp.mem_iff.1 hx)).2
  have hk : (ms.map (·.1)).Perm ss := by have := hp.map (·.1); rwa [keys_memsF] at this
  have hnd : (ms.map (·.1)).Nodup := hk.nodup_iff.2 hn
  have hlen : ms.length = ss.length := by rw [hp.length_eq, memsF_length]
  have hget : ∀ i (h : i < ss.length), getV (.mk 5 false 0 ⟨#[]⟩ [] ms) ss[i] = some (numV i) := fun i h => by
    have hi : i < (memsF 0 ss).length := by rw [memsF_length]; exact h
    have hm : (ss[i], numV i) ∈ ms := hp.mem_iff.2 (by have := List.getElem_mem hi; rw [memsF_get ss 0 i hi h, Nat.zero_add] at this; exact this)
    have hg : getV (.mk 5 false 0 ⟨#[]⟩ [] ms) ss[i] = getM ss[i] ms := by simp [getV, V.kind, V.mp]
    rw [hg]
    exact getM_mem hnd hm
  refine ⟨?_, ?_, hget, fun s => ?_⟩
  · rw [vsize, if_neg (by omega), if_pos rfl, vsizeM_nums hnum, hlen]; omega
  · rw [Go.Proofs.YtbjgelkckmfjeaaDoor.dep, if_neg (by omega), if_pos rfl, depM_nums hnum]
  · have hg : getV (.mk 5 false 0 ⟨#[]⟩ [] ms) s = getM s ms := by simp [getV, V.kind, V.mp]
    constructor
    · intro h
      rcases Classical.em (s ∈ ss) with hs | hs
      · exact hs
      · have : getM s ms = none := getM_none fun h => hs (hk.mem_iff.1 h)
        rw [hg, this] at h
        cases h
    · intro hs
      obtain ⟨i, hi, rfl⟩ := List.getElem_of_mem hs
      rw [hget i hi]; rfl
/-- Of unlike keys Members answers no error. -/
theorem gets_noTwice {ss : List ByteArray} (hn : ss.Nodup) {ms : List (ByteArray × V)} (hp : ms.Perm (memsF 0 ss)) (i : Nat) (h : i + 1 < ms.length) : ms[i].1 ≠ ms[i + 1].1 := fun e => by
  have hk : (ms.map (·.1)).Perm ss := by have := hp.map (·.1); rwa [keys_memsF] at this
  have hnd : (ms.map (·.1)).Nodup := hk.nodup_iff.2 hn
  have h1 : (ms.map (·.1))[i]'(by simp; omega) = (ms.map (·.1))[i + 1]'(by simpa using h) := by simpa using e
  exact List.pairwise_iff_getElem.1 hnd i (i + 1) _ _ (Nat.lt_succ_self _) h1

/-! What the law's own map knows. -/
def keyL (s : ByteArray) : Lit := .string s.data.toList
theorem keyL_ne {s t : ByteArray} (h : s ≠ t) : keyL s ≠ keyL t := fun e => by
  unfold keyL at e
  injection e with e
  exact h (ByteArray.ext (Array.toList_inj.1 e))
def Known (D : DataW Unit) (l : List ByteArray) : Prop := ∀ s : ByteArray, ∃ c : Int, D.atKey (keyL s) (.lit (.int .i64 0)) = .lit (.int .i64 c) ∧ (0 < c ↔ s ∈ l)
theorem known_nil : Known (.map []) [] := fun s => ⟨0, by rfl, by simp⟩
theorem Known.put {D : DataW Unit} {l : List ByteArray} (h : Known D l) (hm : IsMap D) (s : ByteArray) (c : Int) (hc : 0 < c) : Known (D.put (keyL s) (.lit (.int .i64 c))) (l ++ [s]) := fun t => by
  by_cases ht : t = s
  · subst ht
    exact ⟨c, atKey_put_same (k := keyL t) hm (by unfold keyL; trivial) _ _, by simp [hc]⟩
  · obtain ⟨c', h1, h2⟩ := h t
    exact ⟨c', by rw [atKey_put_other (keyL_ne ht), h1], by rw [h2]; simp [ht]⟩
theorem Known.at {D : DataW Unit} {l : List ByteArray} (h : Known D l) {s : ByteArray} {c : Int} (hat : D.atKey (keyL s) (.lit (.int .i64 0)) = .lit (.int .i64 c)) : 0 < c ↔ s ∈ l := by
  obtain ⟨c', h1, h2⟩ := h s
  rw [h1] at hat
  injection hat with hat
  injection hat with _ hat
  subst hat
  exact h2
theorem lawS : Keyed Tryd.prog 9 := string_keyed Tryd.underlying9
theorem zeroI (w : World) : (zeroValue 3).run Tryd.prog w = .ok (.int .i64 0) w := by kernel_rfl
theorem key_ok (s : ByteArray) (h : s.size ≤ 1000000000) : keyOf Tryd.prog 9 (.string s) = some (keyL s) := Go.WideMaps.keyOf_string_mk Tryd.underlying9 (by unfold maxLen; omega)

/-- The row of members, in cells. -/
def numCells (x : ByteArray × V) : List Value := [.string x.1, .int .i64 2, .bool false, .int .i64 (match x.2 with | .mk _ _ n _ _ _ => n), .string ⟨#[]⟩, .slice none 0 0, .slice none 0 0]
theorem num_row {W : World} {base : Nat} {v : Value} {ss : List ByteArray} (h : W.ownsRow base 58 7 v ss.length ((memsF 0 ss).flatMap numCells)) (hs : ∀ i (h : i < ss.length), ss[i].size ≤ 1000000) :
    ∃ A c, v = .slice A ss.length c ∧ ss.length ≤ c ∧ (A = none → c = 0) ∧ ValM W (· < W.heap.size) 1000000 (memsF 0 ss) A 0 := by
  rcases Go.Joins.ownsRow_forms h with ⟨rfl, h0⟩ | ⟨g, cap, rfl⟩
  · refine ⟨none, 0, by rw [h0], by omega, fun _ => rfl, ?_⟩
    have : ss = [] := List.length_eq_zero_iff.1 h0
    subst this
    rw [memsF, ValM]; trivial
  · have hgl : ss.length ≤ cap := by
      rcases h.2 with ⟨e, _⟩ | ⟨g', cap', cur, e, _, hg, hnc, _⟩
      · cases e
      · injection e with e1 e2 e3
        subst e3
        exact hnc
    refine ⟨_, cap, rfl, hgl, (fun e => by cases e), ValM.mk_ fun j hj => ?_⟩
    have hj' : j < ss.length := by rwa [memsF_length] at hj
    have hm := memsF_get ss 0 j hj hj'
    rw [Nat.zero_add] at hm
    have hg : g < W.heap.size := (h.lt g rfl).2
    have hc : ∀ q, q < 7 → W.cell? ⟨g, 0 + (0 + j) * 7 + q, none⟩ = (numCells (ss[j], numV j))[q]? := fun q hq => by
      rw [show 0 + (0 + j) * 7 + q = j * 7 + q by omega, h.cellAt (j * 7 + q) (by omega), flat_get numCells 7 (fun _ => rfl) _ _ _ hj hq, hm]
    refine ⟨g, 0, #[.int .i64 2, .bool false, .int .i64 j, .string ⟨#[]⟩, .slice none 0 0, .slice none 0 0], rfl, hg, by rw [hm]; exact hs j hj', ?_, fun q hq => ?_, ?_⟩
    · rw [hm]; exact hc 0 (by omega)
    · rw [show 0 + (0 + j) * 7 + (1 + q) = 0 + (0 + j) * 7 + (q + 1) by omega, hc (q + 1) (by omega)]
      rcases q with _ | _ | _ | _ | _ | _ | q <;> first | rfl | omega
    · rw [hm, numV, Val]
      exact ⟨none, 0, none, 0, rfl, ⟨by simp, by simp, by simp [ByteArray.size], by simp, by simp, fun _ => rfl, fun _ => rfl⟩, by rw [ValL]; trivial, by rw [ValM]; trivial⟩
end Go.Proofs.YtbjgelkckmfjeaaDoor

namespace Go.Proofs.YtbjgelkckmfjeaaDoor
open Go.RowKit Go.Lib Go.Maps
set_option linter.unusedVariables false
set_option linter.unusedSimpArgs false

theorem ownsMap_below {P : Program} {k : TypeId} {R : Value → Option (DataW Unit × List MemPlace)} {w w' : World} {b n : Nat} {D : DataW Unit} (h : w.ownsMap P k R b n D) (hb : Below w.heap.size w w') : w'.ownsMap P k R b n D :=
  h.kept (row := none) ⟨hb.os, hb.tape, hb.output, hb.size, fun k hk _ => hb.block k hk⟩ (by simp)
theorem Whole.onG {w w' : World} {g : Nat} {t : TypeId} {cs : Array Value} (h : Whole w g t cs) (hb : Below w.heap.size w w') : Whole w' g t cs := h.below hb h.lt
def Short (ss : List ByteArray) (j : Nat) : Prop := ∀ i (h : i < ss.length), i < j → ss[i].size ≤ 100
def LGRel (w : World) (g : Nat) (ss : List ByteArray) (k : Nat) (v i : Value) (wr : World) : Prop :=
  ∃ (j : Nat) (D : DataW Unit), j + k = ss.length ∧ i = .int .i64 j ∧ wr.ownsMap Tryd.prog 9 (plainElem Tryd.prog 3) g j D ∧ Known D (ss.take j) ∧ Short ss j ∧ (ss.take j).Nodup ∧
    wr.ownsRow (g + 1) 58 7 v j (((memsF 0 ss).take j).flatMap numCells) ∧ Below w.heap.size w wr
def LGRel2 (W : World) (ss : List ByteArray) (k : Nat) (i : Value) (wr : World) : Prop := ∃ j : Nat, j + k = ss.length ∧ i = .int .i64 j ∧ Below W.heap.size W wr
theorem num_arr {w : World} {Q : Nat → Prop} {M : Nat} {i : Nat} {o : C6} (h : Val w Q M (canon (numV i)) o.arr) : ∃ A c A' c', o = ⟨2, false, i, ⟨#[]⟩, A, 0, c, A', 0, c'⟩ := by
  obtain ⟨ok, oy, on_, ot, oa, ola, oca, ob, olb, ocb⟩ := o
  simp only [numV, canon] at h
  rw [Val] at h
  obtain ⟨A, c, A', c', e, -⟩ := h
  simp [C6.arr] at e
  obtain ⟨rfl, rfl, rfl, rfl, ⟨rfl, rfl, rfl⟩, ⟨rfl, rfl, rfl⟩⟩ := e
  exact ⟨_, _, _, _, rfl⟩

set_option maxRecDepth 100000 in
set_option maxHeartbeats 8000000 in
theorem lawGets_any (ss : List ByteArray) (A : Option Addr) (c : Nat) (key : ByteArray) (w : World) (hA : Strs w ss A) (hG : Glob w) (hb9 : ss.length ≤ 9223372036854775807) (hk9 : key.size ≤ 9223372036854775807) (hss : ∀ i (h : i < ss.length), ss[i].size ≤ 9223372036854775807) :
    Calls Tryd.prog 9 #[.slice A ss.length c, .string key] w fun e w' => e = .returned (.bool true) ∧ Below w.heap.size w w' := by
  have HG := Lib.hid (And.intro hG (And.intro hA hss))
  clear hG hA hss
  have hmm := @run_makeMap Tryd.prog
  by_cases h30 : (30 : Int) < (ss.length : Int)
  · go_enter Tryd.func9, Tryd.ntmps9
    go_wp2_with fail
    refine (awake_any w HG.out.1).mono ?_
    rintro e W1 ⟨rfl, hb1⟩
    go_wp2_with fail
    refine (awake_any W1 (HG.out.1.below hb1)).mono ?_
    rintro e W2 ⟨rfl, hb2⟩
    go_wp2_with fail
    go_ret
    exact ⟨rfl, hb1.trans (hb2.mono hb1.size)⟩
  · have hd : decide ((30 : Int) < (ss.length : Int)) = false := decide_eq_false h30
    have hl : ss.length ≤ 30 := by omega
    clear h30
    by_cases h100 : (100 : Int) < (key.size : Int)
    · go_enter Tryd.func9, Tryd.ntmps9
      go_wp2_with fail
      refine (awake_any w HG.out.1).mono ?_
      rintro e W1 ⟨rfl, hb1⟩
      go_wp2_with fail
      refine (awake_any W1 (HG.out.1.below hb1)).mono ?_
      rintro e W2 ⟨rfl, hb2⟩
      go_wp2_with fail
      go_ret
      exact ⟨rfl, hb1.trans (hb2.mono hb1.size)⟩
    · have hdk : decide ((100 : Int) < (key.size : Int)) = false := decide_eq_false h100
      have hkk : key.size ≤ 100 := by omega
      clear h100
      obtain ⟨i0, hi, hz0, hz1, hz2⟩ := info_parts info_Member
      go_enter Tryd.func9, Tryd.ntmps9
      go_wp2_with fail
      refine (awake_any w HG.out.1).mono ?_
      rintro e W1 ⟨rfl, hb1⟩
      have HB1 := Lib.hid hb1
      have hzw : w.heap.size ≤ W1.heap.size := hb1.size
      clear hb1
      go_wp2_with fail
      go_loopg [6, 33] ss.length (LGRel w W1.heap.size ss)
      case atStart => exact ⟨0, .map [], by simp, rfl, World.ownsMap_made _ _ _ _, by simpa using known_nil, fun i h h0 => absurd h0 (by omega), by simp, by simpa using World.ownsRow_nil _ _ _ _, HB1.out.alloc hzw _⟩
      case round =>
        obtain ⟨j, D, hk, rfl, hmap, hkn, hsh, hnd, hown, hb⟩ := hrel
        by_cases hlt : j < ss.length
        · have hne : ss ≠ [] := fun e => by subst e; simp at hlt
          obtain ⟨sb, off, rfl, hsb, hsc⟩ := HG.out.2.1 hne
          obtain ⟨s, hs⟩ : ∃ s, ss[j] = s := ⟨_, rfl⟩
          have hss := HG.out.2.2 j hlt
          rw [hs] at hss
          have hcs : wr.cell? ⟨sb, off + j, none⟩ = some (.string s) := by
            rw [← hs, ← hsc j hlt]
            exact hb.cell hsb
          by_cases h100 : (100 : Int) < (s.size : Int)
          · have HZ := Lib.hid hb
            clear hk hmap hkn hsh hnd hown hb hs hsc
            go_wp2_with fail
            go_ret
            exact ⟨rfl, HZ.out⟩
          · have hd2 : decide ((100 : Int) < (s.size : Int)) = false := decide_eq_false h100
            have hs100 : s.size ≤ 100 := by omega
            obtain ⟨cc, hrun, hat, _⟩ := hmap.lookup_int (t := 75) lawS Tryd.underlying75 Tryd.underlying3 (zeroI _) (key_ok s (by omega))
            have hin := hkn.at hat
            by_cases hc0 : (0 : Int) < cc
            · have HZ := Lib.hid hb
              clear hk hmap hkn hsh hnd hown hb hs hsc hat hin h100
              go_wp2_with fail
              go_ret
              exact ⟨rfl, HZ.out⟩
            · have hd3 : decide ((0 : Int) < cc) = false := decide_eq_false hc0
              have hnin : s ∉ ss.take j := fun h => hc0 (hin.2 h)
              have hzr : W1.heap.size < wr.heap.size := hmap.lt
              have HX := Lib.hid (And.intro hk (And.intro hs (And.intro hmap (And.intro hkn (And.intro hsh (And.intro hnd (And.intro hown (And.intro hb hnin))))))))
              clear hk hmap hkn hsh hnd hown hb hs hsc hat hin h100 hc0 hnin
              have hvb : u6.ownBlock ≠ some W1.heap.size := fun e => by have := (HX.out.2.2.2.2.2.2.1.lt _ e).1; omega
              have hsj : ((memsF 0 ss).take (j + 1)).flatMap numCells = ((memsF 0 ss).take j).flatMap numCells ++ [.string s, .int .i64 2, .bool false, .int .i64 j, .string ⟨#[]⟩, .slice none 0 0, .slice none 0 0] := by
                have hj2 : j < (memsF 0 ss).length := by rw [memsF_length]; exact hlt
                rw [List.take_succ_eq_append_getElem hj2, List.flatMap_append, memsF_get ss 0 j hj2 hlt, HX.out.2.1, Nat.zero_add]
                simp [numCells, numV]
              have HJ := Lib.hid hsj
              clear hsj
              go_wp2_with (first
                | (at_mapUpdate; refine wpList_mapUpdate_own _ rfl _ _ _ 75 rfl 9 3 lawS Tryd.underlying75 _ W1.heap.size j _ rfl HX.out.2.2.1 (by unfold maxLen; omega) _ _ _ rfl rfl (key_ok s (by omega)) _ [] (plainElem_int Tryd.underlying3 (WalkArith.wf_i64 (by omega))) ?_; intro w1 hown1 hgrow1
                   have hz1w : wr.heap.size ≤ w1.heap.size := hgrow1.size
                   have G1 : Hid (w1.ownsMap Tryd.prog 9 (plainElem Tryd.prog 3) W1.heap.size (j + 1) (D.put (keyL s) (.lit (.int .i64 (j + 1)))) ∧ w1.ownsRow (W1.heap.size + 1) 58 7 u6 j (((memsF 0 ss).take j).flatMap numCells) ∧ Below w.heap.size w w1) :=
                     ⟨hown1, HX.out.2.2.2.2.2.2.1.kept hgrow1 (.inr hvb), HX.out.2.2.2.2.2.2.2.1.grown hgrow1 HX.out.2.2.2.2.2.2.2.1.size (fun j hj => by injection hj with hj; omega)⟩
                   clear hown1 hgrow1 hrun)
                | (at_builtin; refine wpList_append_own _ rfl _ _ 36 rfl (W1.heap.size + 1) 58 i0 (.agg #[.string ⟨#[]⟩, .int .i64 0, .bool false, .int .i64 0, .string ⟨#[]⟩, .slice none 0 0, .slice none 0 0]) 7 104 Tryd.underlying36 hi hz0 hz1 hz2 rfl (by decide) _ _ _ rfl (G1.out.2.1.alloc _) ⟨w1.heap.size, 0, none⟩ 1 1 [.string s, .int .i64 2, .bool false, .int .i64 j, .string ⟨#[]⟩, .slice none 0 0, .slice none 0 0] rfl rfl (cells_new _ _ _) (fun x hx => by simp at hx; rcases hx with rfl | rfl | rfl | rfl | rfl | rfl | rfl <;> rfl) (by unfold maxLen; omega) (by omega) (by simp; omega) ?_; intro v' w3 hown' hgrow3 hnil3
                   have X : Hid (w3.ownsMap Tryd.prog 9 (plainElem Tryd.prog 3) W1.heap.size (j + 1) (D.put (keyL s) (.lit (.int .i64 (j + 1)))) ∧ w3.ownsRow (W1.heap.size + 1) 58 7 v' (j + 1) (((memsF 0 ss).take (j + 1)).flatMap numCells) ∧ Below w.heap.size w w3) :=
                     ⟨(G1.out.1.alloc _).kept hgrow3 (fun e => hvb e.symm), by rw [HJ.out]; exact hown', Below.grown (G1.out.2.2.alloc (by omega) _) hgrow3 (by simp; omega) (fun j hj => by have := (G1.out.2.1.lt _ hj).1; omega)⟩
                   clear hown' hgrow3 hnil3))
              go_roundg (ss.length - (j + 1))
              case rel =>
                obtain ⟨hk, hs, hmap, hkn, hsh, hnd, hown, hb, hnin⟩ := HX.out
                have htk : ss.take (j + 1) = ss.take j ++ [s] := by rw [List.take_succ_eq_append_getElem hlt, hs]
                refine ⟨j + 1, _, by omega, by go_num, X.out.1, ?_, fun i h h0 => ?_, ?_, X.out.2.1, X.out.2.2⟩
                · rw [htk]; exact hkn.put hmap.isMap s _ (by omega)
                · by_cases hij : i = j
                  · subst hij; rw [hs]; exact hs100
                  · exact hsh i h (by omega)
                · rw [htk, List.nodup_append]
                  exact ⟨hnd, by simp, fun a ha b hb => by simp at hb; subst hb; exact fun e => hnin (e ▸ ha)⟩
              case measure => have := HX.out.1; omega
        · obtain rfl : j = ss.length := by omega
          rw [List.take_length] at hkn hnd
          rw [show (memsF 0 ss).take ss.length = memsF 0 ss by rw [← memsF_length ss 0]; exact List.take_length] at hown
          obtain ⟨A2, c2, rfl, hc2, hA2, hvm⟩ := num_row hown (fun i h => by have := hsh i h h; omega)
          have hml : (memsF 0 ss).length = ss.length := memsF_length ss 0
          have HM := Lib.hid (fun W (hW : Below wr.heap.size wr W) => Members_any (memsF 0 ss) A2 c2 wr.heap.size W (hvm.keep (fun p hp => hW.cell hp) (fun _ h => h)) hW.size (by omega) (by omega) hA2 (by rw [vsizeM_nums (fun x hx => (memsF_mem hx).2)]; omega))
          rw [hml] at HM
          have HX := Lib.hid (And.intro hmap (And.intro hkn (And.intro hnd (And.intro hsh hb))))
          have hzr : W1.heap.size < wr.heap.size := hmap.lt
          clear hk hmap hkn hnd hsh hb hown hvm
          go_wp2_with fail
          refine (HM.out wr (Below.refl _ _)).mono ?_
          rintro e W3 ⟨⟨ms, hperm, -, hans⟩, hb3⟩
          rw [canonM_memsF] at hperm
          rcases hans with ⟨o, rfl, -, hvo⟩ | ⟨i, v, hi1, -, -, he, -⟩
          · have hr := getsRow HX.out.2.2.1 hperm
            obtain ⟨mv, hmv⟩ : ∃ mv, V.mk 5 false 0 ⟨#[]⟩ [] ms = mv := ⟨_, rfl⟩
            have hrs := hr.size
            have hrd := hr.dep
            have hrg := hr.get
            have hro := hr.other key
            rw [hmv] at hrs hrd hrg hro hvo
            clear hr hmv hperm
            obtain ⟨ok, oy, on, ot, oa, ola, oca, ob, olb, ocb⟩ := o
            dsimp only [C6.arr] at hvo ⊢
            obtain ⟨W3', hW3⟩ : ∃ W, W3.alloc (.cells #[.int .i64 ok, .bool oy, .int .i64 on, .string ot, .slice oa ola oca, .slice ob olb ocb] 38) = W := ⟨_, rfl⟩
            have hb3' : Below W3.heap.size W3 W3' := hW3 ▸ (Below.refl _ _).alloc (Nat.le_refl _) _
            have hwo : Whole W3' W3.heap.size 38 #[.int .i64 ok, .bool oy, .int .i64 on, .string ot, .slice oa ola oca, .slice ob olb ocb] := hW3 ▸ Whole.made _ _ _
            have hvo3 : Val W3' (· < W3'.heap.size) 1000000 mv #[.int .i64 ok, .bool oy, .int .i64 on, .string ot, .slice oa ola oca, .slice ob olb ocb] := hvo.keep (fun p hp => hb3'.cell hp.2) (fun b hb => Nat.lt_of_lt_of_le hb.2 hb3'.size)
            have HSz := Lib.hid (Size_any mv _ W3'.heap.size W3' hvo3 (Nat.le_refl _) (by omega))
            have HDp := Lib.hid (fun W (hW : Below W3'.heap.size W3' W) => Depth_any mv _ W.heap.size W (val_on hvo3 hW) (Nat.le_refl _) (by omega) (by omega))
            have HGt := Lib.hid (fun W (hW : Below W3'.heap.size W3' W) (s : ByteArray) => Get_any mv s _ W.heap.size W (val_on hvo3 hW) (Nat.le_refl _) (by omega))
            rw [hrs] at HSz
            rw [hrd] at HDp
            rw [show (((ss.length + 1 : Nat)) : Int) = (ss.length : Int) + 1 by omega] at HSz
            have hbw3 : Below w.heap.size w W3' := HX.out.2.2.2.2.trans ((hb3.trans (hb3'.mono hb3.size)).mono HX.out.2.2.2.2.size)
            have hmap3 := ownsMap_below (ownsMap_below HX.out.1 hb3) hb3'
            have hz3 : W3.heap.size < W3'.heap.size := hwo.lt
            have H3 := Lib.hid (And.intro hW3 (And.intro hwo (And.intro hbw3 (And.intro hmap3 (And.intro hrg hro)))))
            have hne1 : (((ss.length : Int) + 1) != ((ss.length : Int) + 1)) = false := by simp
            clear hW3 hwo hbw3 hmap3 hrg hro hb3 hb3' hvo hvo3 hrs hrd HM
            go_wp2_with fail
            rw [H3.out.1]
            refine HSz.out.mono ?_
            rintro e W4 ⟨rfl, hb4⟩
            obtain ⟨x0, x1, x2, x3, x4, x5⟩ := (H3.out.2.1.onG hb4).six
            have hz4 : W3.heap.size < W4.heap.size := lt_of_cell x0
            have K4 := Lib.hid hb4
            clear hb4
            go_wp2_with fail
            refine (HDp.out W4 K4.out).mono ?_
            rintro e W5 ⟨rfl, hb5⟩
            have K5 := Lib.hid (K4.out.trans (hb5.mono K4.out.size))
            clear hb5 x0 x1 x2 x3 x4 x5
            go_wp2_with fail
            obtain ⟨wo, hwo⟩ : ∃ wo : World, wo = wr := ⟨_, rfl⟩
            subst hwo
            go_loopg [81] ss.length (LGRel2 W5 ss)
            case atStart => exact ⟨0, by simp, rfl, Below.refl _ _⟩
            case round =>
              obtain ⟨j, hk, rfl, hb⟩ := hrel
              have hb35 : Below W3'.heap.size W3' wr := K5.out.trans (hb.mono K5.out.size)
              obtain ⟨x0, x1, x2, x3, x4, x5⟩ := (H3.out.2.1.onG hb35).six
              have hz5 : W3.heap.size < wr.heap.size := lt_of_cell x0
              by_cases hlt : j < ss.length
              · have hne : ss ≠ [] := fun e => by subst e; simp at hlt
                have hstr := HG.out.2.1
                obtain ⟨sb, off, rfl, hsb, hsc⟩ := hstr hne
                obtain ⟨s, hs⟩ : ∃ s, ss[j] = s := ⟨_, rfl⟩
                have hcs : wr.cell? ⟨sb, off + j, none⟩ = some (.string s) := by
                  rw [← hs, ← hsc j hlt]
                  exact (H3.out.2.2.1.trans (hb35.mono H3.out.2.2.1.size)).cell hsb
                have HC := Lib.hid (HGt.out wr hb35 s)
                have hgs := H3.out.2.2.2.2.1 j hlt
                rw [hs] at hgs
                rw [hgs] at HC
                unfold GetAns at HC
                have HZ := Lib.hid (And.intro hk hb)
                clear hk hb hs hsc hgs hb35
                go_wp2_with fail
                refine HC.out.mono ?_
                rintro e W6 ⟨hb6, ⟨hno, -⟩ | ⟨x, o2, hx, rfl, hvx⟩⟩
                · cases hno
                injection hx with hx
                subst hx
                obtain ⟨A3, c3, A4, c4, rfl⟩ := num_arr hvx
                have K6 := Lib.hid hb6
                have hnej : ((j : Int) != (j : Int)) = false := by simp
                clear hb6 hvx
                dsimp only [C6.arr]
                go_wp2_with fail
                go_roundg (ss.length - (j + 1))
                case rel =>
                  exact ⟨j + 1, by have := HZ.out.1; omega, by go_num, (HZ.out.2.trans (K6.out.mono HZ.out.2.size)).alloc (Nat.le_trans HZ.out.2.size K6.out.size) _⟩
                case measure => have := HZ.out.1; omega
              · have HC := Lib.hid ((HGt.out wr hb35 key).mono fun _ _ h => h.or)
                unfold GetOr at HC
                have hro := H3.out.2.2.2.2.2
                obtain ⟨R, hR⟩ : ∃ R, getV mv key = R := ⟨_, rfl⟩
                rw [hR] at HC hro
                have HZ := Lib.hid (And.intro hb35 (H3.out.2.2.1.trans (hb35.mono H3.out.2.2.1.size)))
                clear hk hb hb35 hR
                go_wp2_with fail
                refine HC.out.mono ?_
                rintro e W6 ⟨o2, rfl, hb6, -⟩
                obtain ⟨qk, qy, qn, qt, qa, qla, qca, qb, qlb, qcb⟩ := o2
                dsimp only [C6.arr]
                have hmap := (ownsMap_below (ownsMap_below H3.out.2.2.2.1 HZ.out.1) hb6).alloc (.cells #[.int .i64 qk, .bool qy, .int .i64 qn, .string qt, .slice qa qla qca, .slice qb qlb qcb] 38)
                obtain ⟨cc, hrun, hat, _⟩ := hmap.lookup_int (t := 75) lawS Tryd.underlying75 Tryd.underlying3 (zeroI _) (key_ok key (by omega))
                have hin := HX.out.2.1.at hat
                obtain ⟨rb, hrb⟩ : ∃ rb, R.isSome = rb := ⟨_, rfl⟩
                rw [hrb] at hro ⊢
                have HF := Lib.hid ((HZ.out.2.trans (hb6.mono HZ.out.2.size)).alloc (Nat.le_trans HZ.out.2.size hb6.size) (.cells #[.int .i64 qk, .bool qy, .int .i64 qn, .string qt, .slice qa qla qca, .slice qb qlb qcb] 38))
                have hlast : decide ((0 : Int) < cc) = rb := by
                  cases rb
                  · exact decide_eq_false fun h => by have := hro.2 (hin.1 h); cases this
                  · exact decide_eq_true (hin.2 (hro.1 rfl))
                clear hb6 hmap hat hin hrb hro HC
                cases rb
                · have hc0 : ¬ (0 : Int) < cc := of_decide_eq_false hlast
                  go_wp2_with fail
                  go_ret
                  exact ⟨by simp [hlast], HF.out⟩
                · have hc0 : (0 : Int) < cc := of_decide_eq_true hlast
                  go_wp2_with fail
                  go_ret
                  exact ⟨by simp [hlast], HF.out⟩
          · exact absurd he (gets_noTwice HX.out.2.2.1 hperm i hi1)
end Go.Proofs.YtbjgelkckmfjeaaDoor

namespace Go.Proofs.YtbjgelkckmfjeaaDoor.valueGets
open Go.ChangeMaps Go.ChangeShapes Go.WideShapes Go.ChangeAt Go.RowKit Go.Lib
set_option linter.unusedVariables false
set_option linter.unusedSimpArgs false

theorem laidOut : laidOutB Tryd.prog = true := by kernel_rfl
theorem cellsStr : Tryd.prog.cellsOf 9 = 1 := by kernel_rfl

set_option maxRecDepth 100000 in
/-- What the walk gives, for every argument and every world that holds the variables. -/
theorem contract (H : Type) (enc : TypeId × Value → H) (W : World) (base : Nat) (args : Array Value) (ds gs : List (DataW H)) (before : List MemPlace)
    (hval : ∀ (j : Nat) t v, Tryd.f9.params[j]? = some t → args[j]? = some v → Value.okWide Tryd.prog W .any base t v)
    (hW : DataW.Whole enc Tryd.prog Tryd.f9.params.toList Rows.valueGetsSpec.vars false W args.toList ds gs before) (hL : laidMetH Tryd.prog Rows.valueGetsRow.laid W) :
    Calls Tryd.prog 9 args W fun e W' => ∃ v, e = .returned v ∧ Rows.valueGetsSpec.post enc Tryd.prog Tryd.f9 false true false false W args v W' := by
  have hG : Glob W := glob_of_laid hL
  have hW' := hW
  obtain ⟨p, q, hA0, hV, rfl, hfz, hnd⟩ := hW
  have hA : DataW.TrodAll enc Tryd.prog W 0 (fun _ => true) true Tryd.f9.params.toList args.toList ds p := hA0
  rw [Tryd.params9] at hA hval
  obtain ⟨v0, v1, d0, d1, p0, p1, rfl, rfl, rfl, h0, h1⟩ := trodAll_two hA
  obtain ⟨rfl, rfl⟩ := trodVars_none hV
  obtain ⟨key, rfl, rfl, rfl, hkey⟩ := open_string Tryd.underlying9 (hval 1 9 v1 rfl rfl) h1
  obtain ⟨a0, len, cap, rfl⟩ := okWide_slice Tryd.underlying68 (hval 0 68 v0 rfl rfl)
  have h0k := h0
  obtain ⟨fuel, hf⟩ := h0
  clear hA0
  simp only [List.append_nil] at hW'
  have hlt : ∀ x ∈ p0, x.block < W.heap.size := fun x hx => by simpa using hW'.lt x hx
  have e1 : Rows.valueGetsSpec.fn H ([d0, .lit (.string key.data.toList)] ++ []) = { results := [.lit (.bool true)], args := [d0, .lit (.string key.data.toList)] } := rfl
  have fin : ∀ (W' : World), Below W.heap.size W W' → Rows.valueGetsSpec.post enc Tryd.prog Tryd.f9 false true false false W #[.slice a0 len cap, .string key] (.bool true) W' := by
    intro W' hnx
    refine ⟨_, _, _, [], p0 ++ [], [], hW', ?_, ?_, by rw [e1]; rfl, hnx.frame _, fun h => by cases h⟩
    · rw [e1]; exact trodAll_mk1 (shut_bool Tryd.underlying4 true)
    · rw [e1]; exact trodAll_mk2 (Below.trod laidOut (by kernel_rfl) (of_decide_eq_true (by kernel_rfl)) h0k hnx hlt) (shut_string Tryd.underlying9 hkey)
  have hkey' : key.size ≤ 9223372036854775807 := by unfold maxLen at hkey; omega
  rcases open_strings Tryd.underlying68 Tryd.underlying9 cellsStr hf with ⟨hcs, hx⟩ | ⟨a, len', cap', ss, hcs, _, hl, hm, hz, hx, hcell, hws⟩
  · simp [Value.cells] at hcs
    obtain ⟨rfl, rfl, rfl⟩ := hcs
    refine (lawGets_any [] none 0 key W (fun h => absurd rfl h) hG (by simp) hkey' (fun i h => by simp at h)).mono fun e W' ⟨he, hb⟩ => ?_
    subst he
    exact ⟨_, rfl, fin W' hb⟩
  · simp [Value.cells] at hcs
    obtain ⟨rfl, rfl, rfl⟩ := hcs
    simp only [Prod.mk.injEq] at hx
    obtain ⟨rfl, rfl⟩ := hx
    simp only [if_true] at hz
    obtain ⟨b, off, spot⟩ := a
    have hlen : (ss.take len).length = len := by rw [List.length_take]; omega
    have hm' : len ≤ 9223372036854775807 := by unfold maxLen at hm; omega
    have hsize : ∀ i (h : i < (ss.take len).length), ((ss.take len)[i]).size ≤ 9223372036854775807 := fun i h => by
      have := hws _ (List.mem_of_mem_take (List.getElem_mem h))
      unfold maxLen at this
      omega
    have hstrs : Strs W (ss.take len) (some ⟨b, off, spot⟩) := fun hn => by
      have hp : 0 < len := by
        rcases Nat.eq_zero_or_pos len with h | h
        · subst h; simp at hn
        · exact h
      have hspot : spot = none := by simpa [Addr.add] using World.cell?_spot (hcell 0 (by omega))
      subst hspot
      refine ⟨b, off, rfl, hlt (.cell b off) (MemPlace.mem_row.2 ⟨0, by omega, by simp⟩), fun j hj => ?_⟩
      have hj' : j < ss.length := by rw [hlen] at hj; omega
      have := hcell j hj'
      rw [add_plain] at this
      rw [this, List.getElem_take, List.getD_eq_getElem?_getD, List.getElem?_eq_getElem hj']
      rfl
    have hwalk := lawGets_any (ss.take len) (some ⟨b, off, spot⟩) cap key W hstrs hG (by omega) hkey' hsize
    rw [hlen] at hwalk
    refine hwalk.mono fun e W' ⟨he, hb⟩ => ?_
    subst he
    exact ⟨_, rfl, fin W' hb⟩

theorem reads (os : Os) {H : Type} (enc : TypeId × Value → H) : ∃ places, DataW.whole enc Tryd.prog ((laidWorld os).forCall (fun _ _ => 0) ⟨#[], #[.slice none 0 0, .string ⟨#[]⟩], []⟩).memory Tryd.f9.params.toList Rows.valueGetsSpec.vars false #[Value.slice none 0 0, Value.string ⟨#[]⟩].toList 8 = some ([.nil, .lit (.string [])], [], places) :=
  ⟨[], by kernel_rfl⟩

set_option maxRecDepth 100000 in
theorem lifted (os : Os) (started : os.Started) (H : Type) (enc : TypeId × Value → H) (F : Stop.Interp) :
    ReturnsInHanded {} Tryd.checked os 9 .any ((OpenSpec.ofChange Rows.valueGetsSpec).preRow enc Tryd.prog Tryd.f9 Rows.valueGetsRow.domain false Rows.valueGetsRow.laid) (((OpenSpec.ofChange Rows.valueGetsSpec).at F).post enc Tryd.prog Tryd.f9 false true false false) := by
  obtain ⟨places, hx⟩ := reads os enc
  refine returnsInHanded_of_row (C := Tryd.checked) (s := OpenSpec.ofChange Rows.valueGetsSpec) own started (by kernel_rfl) Tryd.func9
    (witness_row_at (enc := enc) (C := Tryd.checked) false (laidWorld os) #[.slice none 0 0, .string ⟨#[]⟩] rfl (by kernel_rfl) (by kernel_rfl) (by kernel_rfl)
      (OpenSpec.preRow_of_cond 8 hx (by kernel_rfl) (fun k hk => by cases hk) (by kernel_rfl) (laid_met os _))) ?_
  intro W base args ds gs before hval hW _ _ _ hL _ _
  exact contract H enc W base args ds gs before hval hW hL

theorem said : Rows.ValueGetsSaid :=
  OpenClaim.holds_of_cond 9 Tryd.f9 rfl rfl rfl rfl rfl rfl rfl ⟨rfl, rfl, rfl, rfl, rfl⟩ rfl rfl rfl rfl rfl (by kernel_rfl) Tryd.func9 (by kernel_rfl)
    (of_decide_eq_true (by kernel_rfl)) (by unfold Func.isWrapper; first | (rw [if_pos (by decide +kernel)]; kernel_rfl) | (rw [if_neg (by decide +kernel)]; exact ⟨rfl, rfl⟩))
    (fun os started H enc _ F => by rw [OpenClaim.pre_eq_preRow]; exact lifted os started H enc F)

theorem plain (f : FuncId) (fn : Func) (hf : Tryd.pinned.checked.prog.funcNamed "enfilade/enfiladelaw01.ValueGets" = some f) (hfn : Tryd.pinned.checked.prog.funcs[f]? = some fn) :
    true = Tryd.pinned.checked.prog.looks [] ∧ ∀ (j : Nat) t, fn.params[j]? = some t → Tryd.pinned.checked.prog.wantsStandIn t = false := by
  obtain rfl : f = 9 := Option.some.inj ((show Tryd.prog.funcNamed "enfilade/enfiladelaw01.ValueGets" = some 9 by kernel_rfl).symm.trans hf) |>.symm
  obtain rfl : fn = Tryd.f9 := (Option.some.inj (Tryd.func9.symm.trans hfn)).symm
  refine ⟨by kernel_rfl, fun j t ht => ?_⟩
  rw [Tryd.params9] at ht
  rcases (by simpa using Array.mem_of_getElem? ht : t = 68 ∨ t = 9) with rfl | rfl
  · exact (show Tryd.prog.wantsStandIn 68 = false by kernel_rfl)
  · exact (show Tryd.prog.wantsStandIn 9 = false by kernel_rfl)

theorem card : Rows.ValueGetsCardSaid :=
  Claim7.holds_tied_plain_at .later [] _ _ _ _ said (fun _ h => by cases h) (by kernel_rfl) (fun _ h => by cases h) valueGets_row_tie rfl ⟨rfl, rfl⟩ (by kernel_rfl) rfl plain (by kernel_rfl)
end Go.Proofs.YtbjgelkckmfjeaaDoor.valueGets
namespace Go.Proofs.YtbjgelkckmfjeaaDoor
theorem valueGets_card : Rows.ValueGetsCardSaid := valueGets.card
end Go.Proofs.YtbjgelkckmfjeaaDoor
