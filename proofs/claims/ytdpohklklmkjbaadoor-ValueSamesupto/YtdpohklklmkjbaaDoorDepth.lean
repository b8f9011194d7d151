/-
  The document's Depth, walked: how deep a value is (dep).
-/
import Derived.Test.YtdpohklklmkjbaaDoorParts
namespace Go.Proofs.YtdpohklklmkjbaaDoor
open Go.RowKit Go.Lib
set_option linter.unusedVariables false
set_option linter.unusedSimpArgs false

mutual
def dep : V → Nat
  | .mk k _ _ _ l m => if k = 4 then depL l + 1 else if k = 5 then depM m + 1 else 0
def depL : List V → Nat
  | [] => 0
  | v :: r => max (dep v) (depL r)
def depM : List (ByteArray × V) → Nat
  | [] => 0
  | (_, v) :: r => max (dep v) (depM r)
end
theorem depM_map : ∀ m, depL (m.map (·.2)) = depM m
  | [] => by simp [depL, depM]
  | (s, v) :: r => by simp only [List.map_cons, depL, depM, depM_map r]
theorem wgtL_map : ∀ m : List (ByteArray × V), wgtL (m.map (·.2)) ≤ wgtM m
  | [] => by simp [wgtL, wgtM]
  | (s, v) :: r => by have := wgtL_map r; simp only [List.map_cons, wgtL, wgtM]; omega
theorem dep_parts : ∀ v, v.kind = 4 ∨ v.kind = 5 → dep v = depL (parts v) + 1
  | .mk k y n t l m, h => by
    simp only [V.kind] at h
    by_cases k4 : k = 4
    · simp [dep, parts, k4]
    · have k5 : k = 5 := by omega
      subst k5
      simp [dep, parts, depM_map]
theorem dep_none : ∀ v, ¬ (v.kind = 4 ∨ v.kind = 5) → dep v = 0
  | .mk k y n t l m, h => by
    simp only [V.kind] at h
    rw [dep, if_neg (by omega), if_neg (by omega)]
theorem wgt_parts : ∀ v, wgtL (parts v) + 1 ≤ wgt v
  | .mk k y n t l m => by
    have := wgtL_map m
    rw [wgt, parts]
    split
    · omega
    · split
      · omega
      · simp only [wgtL]; omega
theorem depL_take : ∀ (l : List V) (j : Nat) (h : j < l.length), depL (l.take (j + 1)) = max (depL (l.take j)) (dep l[j])
  | v :: r, 0, h => by simp [depL]
  | v :: r, j + 1, h => by
    have := depL_take r j (by simpa using h)
    simp only [List.take_succ_cons, depL, List.getElem_cons_succ] at *
    omega
theorem depL_le : ∀ (l : List V) (j : Nat), depL (l.take j) ≤ depL l
  | [], j => by simp [depL]
  | v :: r, 0 => by simp [depL]
  | v :: r, j + 1 => by have := depL_le r j; simp only [List.take_succ_cons, depL]; omega
mutual
theorem dep_wgt : ∀ v, dep v ≤ wgt v
  | .mk k y n t l m => by
    have h1 := depL_wgt l
    have h2 := depM_wgt m
    rw [dep, wgt]
    split
    · omega
    · split <;> omega
theorem depL_wgt : ∀ l, depL l ≤ wgtL l
  | [] => by simp [depL]
  | v :: r => by have h1 := dep_wgt v; have h2 := depL_wgt r; rw [depL, wgtL]; omega
theorem depM_wgt : ∀ l, depM l ≤ wgtM l
  | [] => by simp [depM]
  | (s, v) :: r => by have h1 := dep_wgt v; have h2 := depM_wgt r; rw [depM, wgtM]; omega
end

def DepRel (w : World) (l : List V) (k : Nat) (most i : Value) (wr : World) : Prop :=
  ∃ j : Nat, j + k = l.length ∧ i = .int .i64 j ∧ most = .int .i64 (depL (l.take j) : Nat) ∧ Below w.heap.size w wr

set_option maxRecDepth 100000 in
set_option maxHeartbeats 4000000 in
theorem depth_any : ∀ (n : Nat) (v : V) (cs : Array Value) (B : Nat) (w : World), wgt v ≤ n → n ≤ 1000 → Val w (· < B) 1000000 v cs → B ≤ w.heap.size →
    Calls Tryd.prog 19 #[.agg cs] w fun e w' => e = .returned (.int .i64 (dep v : Nat)) ∧ Below w.heap.size w w'
  | 0, v, cs, B, w, h, _, _, _ => by have := wgt_pos v; omega
  | n + 1, v, cs, B, w, hw, hn, hv, hB => by
    have ih := Lib.hid (depth_any n)
    obtain ⟨c, rfl⟩ := hv.c6
    have hk6 : c.k = v.kind := by
      cases v with
      | mk k y m t l mp =>
      rw [Val] at hv
      obtain ⟨A, c1, A', c2, e, -⟩ := hv
      have := congrArg (fun a => a[0]?) e
      simp [C6.arr] at this
      exact this
    have hwp := wgt_parts v
    have HV := Lib.hid (And.intro hv (And.intro hw hwp))
    have HP := Lib.hid (fun W (hW : Below w.heap.size w W) => parts_any v _ B W (hv.keep (fun p hp => hW.cell (Nat.lt_of_lt_of_le hp hB)) (fun _ h => h)) (Nat.le_trans hB hW.size))
    clear hv hw hwp
    obtain ⟨jk, jy, jn, jt, ja, jla, jca, jb, jlb, jcb⟩ := c
    dsimp only at hk6
    dsimp only [C6.arr] at HP ⊢
    have hb0 : ∀ o, Below w.heap.size w (w.alloc o) := fun o => (Below.refl _ _).alloc (Nat.le_refl _) _
    by_cases hk45 : jk = 4 ∨ jk = 5
    · have hdep := dep_parts v (by rw [← hk6]; exact hk45)
      have hd1 : depL (parts v) ≤ 1000 := by have h1 := depL_wgt (parts v); have h2 := HV.out.2; omega
      have HD := Lib.hid hdep
      have htest : (jk != 4 && jk != 5) = false := by rcases hk45 with rfl | rfl <;> rfl
      clear hk6 hdep
      rcases hk45 with rfl | rfl
      all_goals
        clear htest
        go_enter Tryd.func19, Tryd.ntmps19
        go_wp2_with fail
        refine (HP.out _ (hb0 _)).mono ?_
        rintro e W ⟨⟨A, c, rfl, hpc, hpl, hvl⟩, hb⟩
        obtain ⟨l, hl⟩ : ∃ l, parts v = l := ⟨_, rfl⟩
        rw [hl] at hpc hpl hvl hd1 HV HD ⊢
        have HX := Lib.hid (And.intro hvl ((hb0 _).trans (hb.mono (by simp))))
        have hzW : w.heap.size < W.heap.size := by have := hb.size; simp at this; omega
        clear hvl hb hl HP
        go_wp2_with fail
        go_loopg [3, 18] l.length (DepRel W l)
        case atStart => exact ⟨0, by simp, rfl, by simp [depL], Below.refl _ _⟩
        case round =>
          obtain ⟨j, hk, rfl, rfl, hb⟩ := hrel
          by_cases hlt : j < l.length
          · obtain ⟨b, off, cs, rfl, hbB, hc, hx⟩ := HX.out.1.get j hlt
            obtain ⟨cj, rfl⟩ := hx.c6
            have hcj : ∀ q, q < 6 → wr.cell? ⟨b, off + j * 6 + q, none⟩ = cj.arr[q]? := fun q hq => (hb.cell (p := ⟨b, off + j * 6 + q, none⟩) hbB).trans (by simpa using hc q hq)
            obtain ⟨x0, x1, x2, x3, x4, x5⟩ := cells6 hcj rfl
            have hwj : wgt l[j] ≤ n := by
              have h1 := HV.out.2
              have h2 := wgtL_le l (j + 1)
              rw [wgtL_take l j hlt] at h2
              omega
            have hcall := ih.out l[j] cj.arr W.heap.size wr hwj (by omega) (hx.keep (fun p hp => hb.cell hp) (fun _ h => h)) hb.size
            have htk := depL_take l j hlt
            have hle := depL_le l j
            have hdj := dep_wgt l[j]
            obtain ⟨a, ha⟩ : ∃ a, depL (l.take j) = a := ⟨_, rfl⟩
            obtain ⟨x, hxx⟩ : ∃ x, dep l[j] = x := ⟨_, rfl⟩
            rw [ha] at hle htk ⊢
            rw [hxx] at hcall htk hdj
            have hx1 : x ≤ 1000 := by omega
            have ha1 : a ≤ 1000 := by omega
            have HC := Lib.hid (And.intro hcall (And.intro htk (And.intro hk hb)))
            have hj1 : (j : Int) < (l.length : Int) := by omega
            clear hcall hk hb hcj hc hx ha hxx htk hle hdj hwj
            obtain ⟨qk, qy, qn, qt, qa, qla, qca, qb, qlb, qcb⟩ := cj
            dsimp only [C6.arr] at x0 x1 x2 x3 x4 x5 HC
            go_wp2_with fail
            refine HC.out.1.mono ?_
            rintro e W2 ⟨rfl, hb2⟩
            go_wp2_with fail
            go_roundg (l.length - (j + 1))
            case rel =>
              obtain ⟨-, htk, hk, hb⟩ := HC.out
              refine ⟨j + 1, by omega, by go_num, ?_, hb.trans (hb2.mono hb.size)⟩
              rw [htk]
              congr 1
              omega
            case measure => have := HC.out.2.2.1; omega
          · obtain rfl : j = l.length := by omega
            have hsL : depL (l.take l.length) = depL l := by rw [List.take_length]
            rw [hsL]
            have HB := Lib.hid hb
            clear hsL hb hk
            go_wp2_with fail
            go_ret
            exact ⟨by rw [HD.out]; rfl, HX.out.2.trans (HB.out.mono HX.out.2.size)⟩
    · have hdep := dep_none v (by rw [← hk6]; exact hk45)
      have t4 : (jk != 4) = true := by simp; omega
      have t5 : (jk != 5) = true := by simp; omega
      have HD := Lib.hid hdep
      clear hk6 hk45 hdep
      go_enter Tryd.func19, Tryd.ntmps19
      go_wp2_with fail
      go_ret
      exact ⟨by rw [HD.out]; rfl, hb0 _⟩
end Go.Proofs.YtdpohklklmkjbaaDoor
