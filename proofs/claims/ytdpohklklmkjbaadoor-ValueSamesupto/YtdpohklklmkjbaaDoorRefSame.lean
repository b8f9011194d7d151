/-
  The document's Same, walked: whether two values are the same (same).
-/
import Derived.Test.YtdpohklklmkjbaaDoorDepth
import Derived.Deep.RegionHeld3
namespace Go.Proofs.YtdpohklklmkjbaaDoor
open Go.RowKit Go.Lib
set_option linter.unusedVariables false
set_option linter.unusedSimpArgs false

mutual
/-- Are two the same, by what counts? -/
def same : V → V → Bool
  | .mk k y n t l m, .mk k' y' n' t' l' m' => k == k' && (if k = 1 then y == y' else if k = 2 then n == n' else if k = 3 then t.toList == t'.toList else if k = 4 then sameL l l' else if k = 5 then sameM m m' else true)
def sameL : List V → List V → Bool
  | [], [] => true
  | v :: r, v' :: r' => same v v' && sameL r r'
  | _, _ => false
def sameM : List (ByteArray × V) → List (ByteArray × V) → Bool
  | [], [] => true
  | (s, v) :: r, (s', v') :: r' => s.toList == s'.toList && same v v' && sameM r r'
  | _, _ => false
end
theorem sameL_len : ∀ {l l' : List V}, l.length ≠ l'.length → sameL l l' = false
  | [], [], h => absurd rfl h
  | [], _ :: _, _ => by simp [sameL]
  | _ :: _, [], _ => by simp [sameL]
  | v :: r, v' :: r', h => by rw [sameL, sameL_len (l := r) (l' := r') (by simpa using h)]; simp
theorem sameM_len : ∀ {l l' : List (ByteArray × V)}, l.length ≠ l'.length → sameM l l' = false
  | [], [], h => absurd rfl h
  | [], _ :: _, _ => by simp [sameM]
  | _ :: _, [], _ => by simp [sameM]
  | (s, v) :: r, (s', v') :: r', h => by rw [sameM, sameM_len (l := r) (l' := r') (by simpa using h)]; simp
theorem sameL_drop {l l' : List V} {j : Nat} (h : j < l.length) (h' : j < l'.length) : sameL (l.drop j) (l'.drop j) = (same l[j] l'[j] && sameL (l.drop (j + 1)) (l'.drop (j + 1))) := by
  rw [List.drop_eq_getElem_cons h, List.drop_eq_getElem_cons h', sameL]
theorem sameM_drop {l l' : List (ByteArray × V)} {j : Nat} (h : j < l.length) (h' : j < l'.length) : sameM (l.drop j) (l'.drop j) = (l[j].1.toList == l'[j].1.toList && same l[j].2 l'[j].2 && sameM (l.drop (j + 1)) (l'.drop (j + 1))) := by
  rw [List.drop_eq_getElem_cons h, List.drop_eq_getElem_cons h', sameM]

def SameSaid (n : Nat) : Prop := ∀ (v v' : V) (cs cs' : Array Value) (B : Nat) (w : World), wgt v ≤ n → n ≤ 1000000 → Val w (· < B) 1000000 v cs → Val w (· < B) 1000000 v' cs' → B ≤ w.heap.size →
    Calls Tryd.prog 25 #[.agg cs, .agg cs'] w fun e w' => e = .returned (.bool (same v v')) ∧ Below w.heap.size w w'
def SameRelL (w : World) (l l' : List V) (box box' : Array Value) (k : Nat) (i : Value) (wr : World) : Prop :=
  ∃ j : Nat, j + k = l.length ∧ i = .int .i64 j ∧ Whole wr w.heap.size 25 box ∧ Whole wr (w.heap.size + 1) 25 box' ∧ sameL (l.drop j) (l'.drop j) = sameL l l' ∧ Below w.heap.size w wr
def SameRelM (w : World) (l l' : List (ByteArray × V)) (box box' : Array Value) (k : Nat) (i : Value) (wr : World) : Prop :=
  ∃ j : Nat, j + k = l.length ∧ i = .int .i64 j ∧ Whole wr w.heap.size 25 box ∧ Whole wr (w.heap.size + 1) 25 box' ∧ sameM (l.drop j) (l'.drop j) = sameM l l' ∧ Below w.heap.size w wr

set_option maxRecDepth 100000 in
set_option maxHeartbeats 4000000 in
/-- Lists. -/
theorem refsame_list (n : Nat) (ih : SameSaid n) (y y' : Bool) (m m' : Int) (t t' : ByteArray) (l l' : List V) (mp mp' : List (ByteArray × V)) (A1 A2 A3 A4 : Option Addr) (c1 c2 c3 c4 B : Nat) (w : World) (hw : wgtL l ≤ n) (hn : n ≤ 1000000) (hv : ValL w (· < B) 1000000 l A1 0) (hv' : ValL w (· < B) 1000000 l' A3 0) (hl : l.length ≤ 1000000) (hl' : l'.length ≤ 1000000) (hc1 : l.length ≤ c1) (hc3 : l'.length ≤ c3) (hB : B ≤ w.heap.size) :
    Calls Tryd.prog 25 #[.agg #[.int .i64 4, .bool y, .int .i64 m, .string t, .slice A1 l.length c1, .slice A2 mp.length c2], .agg #[.int .i64 4, .bool y', .int .i64 m', .string t', .slice A3 l'.length c3, .slice A4 mp'.length c4]] w fun e w' => e = .returned (.bool (sameL l l')) ∧ Below w.heap.size w w' := by
  have hb0 : ∀ o o', Below w.heap.size w ((w.alloc o).alloc o') := fun o o' => ((Below.refl _ _).alloc (Nat.le_refl _) _).alloc (by simp) _
  obtain ⟨R, hR⟩ : ∃ R, sameL l l' = R := ⟨_, rfl⟩
  rw [hR]
  have HR := Lib.hid hR
  have HV := Lib.hid (And.intro hv (And.intro hv' hw))
  clear hR hv hv' hw
  by_cases hlen : l.length = l'.length
  · have hlb : ((l.length : Int) != (l'.length : Int)) = false := by simp [hlen]
    have hle : l.length ≤ l'.length := by omega
    have HL := Lib.hid hlen
    clear hlen
    go_enter Tryd.func25, Tryd.ntmps25
    go_wp2_with fail
    go_loopg [47] l.length (SameRelL w l l' #[.int .i64 4, .bool y, .int .i64 m, .string t, .slice A1 l.length c1, .slice A2 mp.length c2] #[.int .i64 4, .bool y', .int .i64 m', .string t', .slice A3 l'.length c3, .slice A4 mp'.length c4])
    case atStart =>
      refine ⟨0, by simp, rfl, (Whole.made w _ _).alloc _, ?_, rfl, hb0 _ _⟩
      have := Whole.made (w.alloc (.cells #[.int .i64 4, .bool y, .int .i64 m, .string t, .slice A1 l.length c1, .slice A2 mp.length c2] 25)) 25 #[.int .i64 4, .bool y', .int .i64 m', .string t', .slice A3 l'.length c3, .slice A4 mp'.length c4]
      simpa using this
    case round =>
      obtain ⟨j, hk, rfl, hbox, hbox', hrest, hb⟩ := hrel
      have b4 := hbox.cell 4
      have d4 := hbox'.cell 4
      simp at b4 d4
      have hz : w.heap.size + 1 < wr.heap.size := hbox'.lt
      by_cases hlt : j < l.length
      · have hlt' : j < l'.length := by omega
        obtain ⟨b, off, cs, rfl, hbB, hc, hx⟩ := HV.out.1.get j hlt
        obtain ⟨b', off', cs', rfl, hbB', hc', hx'⟩ := HV.out.2.1.get j hlt'
        obtain ⟨cj, rfl⟩ := hx.c6
        obtain ⟨cj', rfl⟩ := hx'.c6
        have hcj : ∀ q, q < 6 → wr.cell? ⟨b, off + j * 6 + q, none⟩ = cj.arr[q]? := fun q hq => (hb.cell (p := ⟨b, off + j * 6 + q, none⟩) (by simp; omega)).trans (by simpa using hc q hq)
        have hcj' : ∀ q, q < 6 → wr.cell? ⟨b', off' + j * 6 + q, none⟩ = cj'.arr[q]? := fun q hq => (hb.cell (p := ⟨b', off' + j * 6 + q, none⟩) (by simp; omega)).trans (by simpa using hc' q hq)
        obtain ⟨x0, x1, x2, x3, x4, x5⟩ := cells6 hcj rfl
        obtain ⟨y0, y1, y2, y3, y4, y5⟩ := cells6 hcj' rfl
        have hwj : wgt l[j] ≤ n := by
          have h1 := HV.out.2.2
          have h2 := wgtL_le l (j + 1)
          rw [wgtL_take l j hlt] at h2
          omega
        have hcall := fun W (hW : Below w.heap.size w W) => ih l[j] l'[j] cj.arr cj'.arr B W hwj hn (hx.keep (fun p hp => hW.cell (Nat.lt_of_lt_of_le hp hB)) (fun _ h => h)) (hx'.keep (fun p hp => hW.cell (Nat.lt_of_lt_of_le hp hB)) (fun _ h => h)) (Nat.le_trans hB hW.size)
        have hstep := sameL_drop hlt hlt'
        have hj1 : (j : Int) < (l.length : Int) := by omega
        have hj2 : (j : Int) < (l'.length : Int) := by omega
        have hj0 : (0 : Int) ≤ (j : Int) := by omega
        have hbr : b < wr.heap.size := lt_of_cell x0
        have hbr' : b' < wr.heap.size := lt_of_cell y0
        have hz1 : w.heap.size < wr.heap.size := by omega
        obtain ⟨S, hS⟩ : ∃ S, same l[j] l'[j] = S := ⟨_, rfl⟩
        rw [hS] at hcall hstep
        have HC := Lib.hid (And.intro hcall (And.intro hstep (And.intro hk (And.intro hbox (And.intro hbox' (And.intro hrest hb))))))
        clear hcall hstep hk hbox hbox' hrest hb hcj hcj' hc hc' hx hx' hwj hS
        obtain ⟨jk, jy, jn, jt, ja, jla, jca, jb, jlb, jcb⟩ := cj
        obtain ⟨qk, qy, qn, qt, qa, qla, qca, qb, qlb, qcb⟩ := cj'
        dsimp only [C6.arr] at x0 x1 x2 x3 x4 x5 y0 y1 y2 y3 y4 y5 HC
        cases S
        · go_wp2_with fail
          go_region_held3 (fun w' => w'.cell? ⟨w.heap.size, 4, none⟩ = some (.slice (some ⟨b, off, none⟩) l.length c1) ∧ w'.cell? ⟨w.heap.size + 1, 4, none⟩ = some (.slice (some ⟨b', off', none⟩) l'.length c3) ∧ w'.cell? ⟨b, off + j * 6, none⟩ = some (.int .i64 jk) ∧ w'.cell? ⟨b, off + j * 6 + 1, none⟩ = some (.bool jy) ∧ w'.cell? ⟨b, off + j * 6 + 2, none⟩ = some (.int .i64 jn) ∧ w'.cell? ⟨b, off + j * 6 + 3, none⟩ = some (.string jt) ∧ w'.cell? ⟨b, off + j * 6 + 4, none⟩ = some (.slice ja jla jca) ∧ w'.cell? ⟨b, off + j * 6 + 5, none⟩ = some (.slice jb jlb jcb) ∧ w'.cell? ⟨b', off' + j * 6, none⟩ = some (.int .i64 qk) ∧ w'.cell? ⟨b', off' + j * 6 + 1, none⟩ = some (.bool qy) ∧ w'.cell? ⟨b', off' + j * 6 + 2, none⟩ = some (.int .i64 qn) ∧ w'.cell? ⟨b', off' + j * 6 + 3, none⟩ = some (.string qt) ∧ w'.cell? ⟨b', off' + j * 6 + 4, none⟩ = some (.slice qa qla qca) ∧ w'.cell? ⟨b', off' + j * 6 + 5, none⟩ = some (.slice qb qlb qcb))
            (first | go_keep | (go_split_ands; refine ⟨?_, ?_, ?_, ?_, ?_, ?_, ?_, ?_, ?_, ?_, ?_, ?_, ?_, ?_⟩ <;> (refine (hb2.cell ?_).trans ?_ <;> assumption)))
            (first
              | (go_at_call 25; refine (HC.out.1 _ ?_).mono ?_; (first | exact HC.out.2.2.2.2.2.2 | exact HC.out.2.2.2.2.2.2.drew); rintro e W2 ⟨rfl, hb2⟩))
          go_wp2_with fail
          go_ret
          obtain ⟨-, hstep, hk, hbox, hbox', hrest, hb⟩ := HC.out
          have hRR : R = false := by rw [← HR.out, ← hrest, hstep]; rfl
          exact ⟨by rw [hRR]; rfl, hb.trans ((((Below.refl wr.heap.size wr).drew).trans hb2).mono hb.size)⟩
        · go_wp2_with fail
          go_region_held3 (fun w' => w'.cell? ⟨w.heap.size, 4, none⟩ = some (.slice (some ⟨b, off, none⟩) l.length c1) ∧ w'.cell? ⟨w.heap.size + 1, 4, none⟩ = some (.slice (some ⟨b', off', none⟩) l'.length c3) ∧ w'.cell? ⟨b, off + j * 6, none⟩ = some (.int .i64 jk) ∧ w'.cell? ⟨b, off + j * 6 + 1, none⟩ = some (.bool jy) ∧ w'.cell? ⟨b, off + j * 6 + 2, none⟩ = some (.int .i64 jn) ∧ w'.cell? ⟨b, off + j * 6 + 3, none⟩ = some (.string jt) ∧ w'.cell? ⟨b, off + j * 6 + 4, none⟩ = some (.slice ja jla jca) ∧ w'.cell? ⟨b, off + j * 6 + 5, none⟩ = some (.slice jb jlb jcb) ∧ w'.cell? ⟨b', off' + j * 6, none⟩ = some (.int .i64 qk) ∧ w'.cell? ⟨b', off' + j * 6 + 1, none⟩ = some (.bool qy) ∧ w'.cell? ⟨b', off' + j * 6 + 2, none⟩ = some (.int .i64 qn) ∧ w'.cell? ⟨b', off' + j * 6 + 3, none⟩ = some (.string qt) ∧ w'.cell? ⟨b', off' + j * 6 + 4, none⟩ = some (.slice qa qla qca) ∧ w'.cell? ⟨b', off' + j * 6 + 5, none⟩ = some (.slice qb qlb qcb))
            (first | go_keep | (go_split_ands; refine ⟨?_, ?_, ?_, ?_, ?_, ?_, ?_, ?_, ?_, ?_, ?_, ?_, ?_, ?_⟩ <;> (refine (hb2.cell ?_).trans ?_ <;> assumption)))
            (first
              | (go_at_call 25; refine (HC.out.1 _ ?_).mono ?_; (first | exact HC.out.2.2.2.2.2.2 | exact HC.out.2.2.2.2.2.2.drew); rintro e W2 ⟨rfl, hb2⟩))
          have HB := Lib.hid (((Below.refl wr.heap.size wr).drew).trans hb2)
          clear hb2
          go_wp2_with fail
          go_roundg (l.length - (j + 1))
          case rel =>
            obtain ⟨-, hstep, hk, hbox, hbox', hrest, hb⟩ := HC.out
            refine ⟨j + 1, by omega, by go_num, hbox.below HB.out hbox.lt, hbox'.below HB.out hbox'.lt, ?_, hb.trans (HB.out.mono hb.size)⟩
            rw [← hrest, hstep]; rfl
          case measure => have := HC.out.2.2.1; omega
      · have hjl : j = l.length := by omega
        subst hjl
        have HX := Lib.hid (And.intro hrest hb)
        clear hrest hb hbox hbox' hk
        go_wp2_with fail
        go_ret
        have hRR : R = true := by
          rw [← HR.out, ← HX.out.1, List.drop_of_length_le (Nat.le_refl _), List.drop_of_length_le (by have := HL.out; omega)]
          rfl
        exact ⟨by rw [hRR]; rfl, HX.out.2⟩
  · have hlb : ((l.length : Int) != (l'.length : Int)) = true := by simp; omega
    have hRR : R = false := by rw [← HR.out]; exact sameL_len hlen
    subst hRR
    clear hlen HV HR ih
    go_enter Tryd.func25, Tryd.ntmps25
    go_wp2_with fail
    go_ret
    exact ⟨rfl, hb0 _ _⟩
end Go.Proofs.YtdpohklklmkjbaaDoor
