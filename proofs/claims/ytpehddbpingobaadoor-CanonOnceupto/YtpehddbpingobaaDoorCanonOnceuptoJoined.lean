/-
  Proved: the statement of the law CanonOnce (two right values have one canonical text just if they are the same), in its second form. Conditions: those of the given row alone (the arguments are of bulk at most 1048576; the listed package variables hold what their initialisers lay).
-/
import Derived.Test.YtpehddbpingobaaDoorSm0
import Derived.Test.YtpehddbpingobaaDoorHex2
import Derived.Test.YtpehddbpingobaaDoorMem2
import Derived.Test.YtpehddbpingobaaDoorCn7
import Derived.Test.YtpehddbpingobaaDoorReal2
import Derived.Deep.RegionHeld3
import Derived.Test.YtpehddbpingobaaDoorLet0
import Derived.Lib.ItoaNum
import Derived.Test.YtpehddbpingobaaDoorCanT1
import Derived.Test.YtpehddbpingobaaDoorTell
import Derived.Test.YtpehddbpingobaaDoorSort2
import Derived.Test.YtpehddbpingobaaDoorVals
import Derived.Lib.ItoaLen
import Derived.Test.YtpehddbpingobaaDoorFew
import Derived.Deep.CutRange
import Derived.Test.YtpehddbpingobaaDoorBlk
import Derived.Test.YtpehddbpingobaaDoorReal3
import Derived.Deep.DeepMust
import Derived.Test.YtpehddbpingobaaDoorCn3
import Derived.Test.YtpehddbpingobaaDoorCards
import Derived.Test.YtpehddbpingobaaDoorTie
import Derived.WalkKit
import Derived.ProofKit
import Derived.OpenShut
import Derived.Deep.DeepHandedRow
import Derived.Lib.LaidTab
import Derived.Lib.LaidIn
import Derived.Lib.LaidU8T
import Derived.LaidHandle
import Derived.Test.YtpehddbpingobaaDoorOpen1
import Derived.Carry
import Derived.Deep.DeepWitnessRowRef
import Derived.SizedLaws
import Derived.ChangeMaps5
namespace Go.Proofs.YtpehddbpingobaaDoor
open Go.RowKit Go.Lib

theorem sum_any (s : ByteArray) (w : World) (hw : Deb w) (hs : s.size ≤ 1000000) : Calls Tryd.prog 12 #[.string s] w fun e w' => e = .returned (.string (sumB s)) ∧ Below w.heap.size w w' :=
  sum_of s w hs fun n hn => hex_any n 16 w hw (by decide) (by decide) (by have : (16 : Nat) ^ 16 = 18446744073709551616 := by decide
                                                                          omega) hn
end Go.Proofs.YtpehddbpingobaaDoor

namespace Go.Proofs.YtpehddbpingobaaDoor
open Go.RowKit Go.Lib
set_option linter.unusedVariables false
set_option linter.unusedSimpArgs false

def textV (s : ByteArray) : V := .mk 3 false 0 s [] []
def listV (ss : List ByteArray) : V := .mk 4 false 0 ⟨#[]⟩ (ss.map textV) []
/-- Of the first j texts: none is wrong; or number i is the first that is. -/
def FirstBad (ss : List ByteArray) (j : Nat) : Option Nat → Prop
  | none => ∀ i (h : i < ss.length), i < j → validB ss[i] = true
  | some b => b < j ∧ (∃ h : b < ss.length, validB ss[b] = false) ∧ ∀ i (h : i < ss.length), i < b → validB ss[i] = true
def badCode : Option Nat → Int
  | none => 0
  | some _ => 5
def badPath : Option Nat → ByteArray
  | none => ⟨#[]⟩
  | some i => inPath (itoaB i) 5 ⟨#[]⟩
theorem chk_text (d : Nat) (s : ByteArray) : chk (d + 1) (textV s) = if validB s then none else some ([], 5) := by
  unfold chk chkHead textV
  simp
theorem chkL_texts (d : Nat) : ∀ (ss : List ByteArray) (k : Nat) (b : Option Nat), FirstBad ss ss.length b → chkL (chk (d + 1)) k (ss.map textV) = b.map fun i => ([itoaB (k + i)], 5)
  | [], k, none, h => by simp [chkL]
  | [], k, some b, h => by have := h.2.1.1; simp at this
  | s :: r, k, none, h => by
    have h0 := h 0 (by simp) (by simp)
    simp only [List.getElem_cons_zero] at h0
    have hr := chkL_texts d r (k + 1) none (fun i hi hj => by have := h (i + 1) (by simpa using hi) (by simpa using hj); simpa using this)
    simp only [List.map_cons, chkL, chk_text, h0, if_pos]
    rw [hr]; rfl
  | s :: r, k, some 0, h => by
    have h0 := h.2.1.2
    simp only [List.getElem_cons_zero] at h0
    simp [List.map_cons, chkL, chk_text, h0]
  | s :: r, k, some (b + 1), h => by
    obtain ⟨h1, ⟨h2, h3⟩, h4⟩ := h
    have h0 := h4 0 (by simp) (by omega)
    simp only [List.getElem_cons_zero] at h0
    have hr := chkL_texts d r (k + 1) (some b) ⟨by simpa using h1, ⟨by simpa using h2, by simpa using h3⟩, fun i hi hj => by have := h4 (i + 1) (by simpa using hi) (by omega); simpa using this⟩
    simp only [List.map_cons, chkL, chk_text, h0, if_pos]
    rw [hr]
    simp [Nat.add_assoc, Nat.add_comm 1 b]
theorem chk_list (ss : List ByteArray) (b : Option Nat) (h : FirstBad ss ss.length b) : chk 20 (listV ss) = b.map fun i => ([itoaB i], 5) := by
  have := chkL_texts 18 ss 0 b h
  unfold chk chkHead listV
  simp only [Nat.zero_add] at this
  simpa using this
theorem own_list {W : World} {base : Nat} {v : Value} {ss : List ByteArray} (h : W.ownsRow base 39 6 v ss.length (ss.flatMap textCells)) (hl : ss.length ≤ 1000000) (hs : ∀ i (h : i < ss.length), ss[i].size ≤ 1000000) :
    Val W (· < W.heap.size) 1000000 (listV ss) #[.int .i64 4, .bool false, .int .i64 0, .string ⟨#[]⟩, v, .slice none 0 0] := by
  unfold listV
  rw [Val]
  rcases Go.Joins.ownsRow_forms h with ⟨rfl, h0⟩ | ⟨g, cap, rfl⟩
  · obtain rfl : ss = [] := List.length_eq_zero_iff.1 h0
    exact ⟨none, 0, none, 0, by simp, ⟨by simp, by simp, by simp [ByteArray.size], by simp, by simp, fun _ => rfl, fun _ => rfl⟩, by simp [ValL], by rw [ValM]; trivial⟩
  · have hgl : g < W.heap.size ∧ ss.length ≤ cap := by
      rcases h.2 with ⟨e, _⟩ | ⟨g', cap', cur, e, _, hg, hnc, _⟩
      · cases e
      · injection e with e1 e2 e3
        injection e1 with e1
        injection e1 with e1
        subst e1 e3
        exact ⟨Whole.lt hg, hnc⟩
    refine ⟨some ⟨g, 0, none⟩, cap, none, 0, by simp, ⟨by simpa using hgl.2, by simp, by simp [ByteArray.size], by simpa using hl, by simp, (fun e => by cases e), fun _ => rfl⟩, ?_, by rw [ValM]; trivial⟩
    refine ValL.mk_ fun j hj => ?_
    have hj' : j < ss.length := by simpa using hj
    refine ⟨g, 0, #[.int .i64 3, .bool false, .int .i64 0, .string ss[j], .slice none 0 0, .slice none 0 0], rfl, hgl.1, fun q hq => ?_, ?_⟩
    · have := h.cellAt (j * 6 + q) (by omega)
      rw [flat_get textCells 6 (fun _ => rfl) _ _ _ hj' hq] at this
      rw [show 0 + (0 + j) * 6 + q = j * 6 + q by omega, this]
      simp [textCells]
    · rw [List.getElem_map, textV, Val]
      exact ⟨none, 0, none, 0, by simp, ⟨by simp, by simp, hs j hj', by simp, by simp, fun _ => rfl, fun _ => rfl⟩, by rw [ValL]; trivial, by rw [ValM]; trivial⟩
end Go.Proofs.YtpehddbpingobaaDoor

namespace Go.Proofs.YtpehddbpingobaaDoor
open Go.RowKit Go.Lib
set_option linter.unusedVariables false
set_option linter.unusedSimpArgs false

def exT : ByteArray := ⟨#[195, 169, 10]⟩
def exV : V := .mk 4 false 0 ⟨#[]⟩ [textV exT] []
def exM : List (ByteArray × V) := [(⟨#[97]⟩, exV)]
theorem ex_canon : canonM exM = exM := by kernel_rfl
theorem ex_size : vsizeM exM = 2 := by kernel_rfl
theorem ex_chk : chk 20 (.mk 5 false 0 ⟨#[]⟩ [] exM) = none := by kernel_rfl
theorem ex_text : canT (.mk 5 false 0 ⟨#[]⟩ [] exM) = [123, 34, 97, 34, 58, 91, 34, 195, 169, 92, 110, 34, 93, 125] := by kernel_rfl
theorem ex_sum : sumB ⟨#[]⟩ = ⟨#[99, 98, 102, 50, 57, 99, 101, 52, 56, 52, 50, 50, 50, 51, 50, 53]⟩ := by kernel_rfl
theorem ex_quote : quoL [1] = [34, 92, 117, 48, 48, 48, 49, 34] := by kernel_rfl
theorem ex_small : ∀ i (h : i < [exT].length), [exT][i].size ≤ 1000000 := by
  intro i h
  have hi : i = 0 := by simpa using h
  subst hi
  show exT.size ≤ 1000000
  decide
/-- The example's member in memory. -/
theorem ex_val {w : World} {B g : Nat} {a : Option Addr} {l c : Nat} (hg : g < B) (hc : ∀ q, q < 7 → w.cell? ⟨g, q, none⟩ = (mem7 ⟨#[97]⟩ (C6.mk 4 false 0 ⟨#[]⟩ a l c none 0 0))[q]?)
    (hv : Val w (· < B) 1000000 exV (C6.mk 4 false 0 ⟨#[]⟩ a l c none 0 0).arr) : ValM w (· < B) 1000000 exM (some ⟨g, 0, none⟩) 0 := by
  rw [exM, ValM]
  refine ⟨⟨g, 0, _, rfl, hg, by decide, hc 0 (by omega), fun j hj => ?_, hv⟩, by rw [ValM]; trivial⟩
  have := hc (1 + j) (by omega)
  rw [show 0 + 0 * 7 + (1 + j) = 1 + j by omega, this, C6.arr_get]
  simp [mem7, Nat.add_comm 1 j]
theorem ex_perm {ms : List (ByteArray × V)} (hp : ms.Perm (canonM exM)) : ms = exM := by
  rw [ex_canon] at hp
  exact List.perm_singleton.1 hp
set_option maxRecDepth 100000 in
set_option maxHeartbeats 4000000 in
theorem awake3_any (w : World) (hG : Glob w) (hT : Tabs w) (hN : 6 ≤ w.heap.size) :
    Calls Tryd.prog 4 #[] w fun e w' => e = .returned (.bool true) ∧ Below w.heap.size w w' := by
  have HG := Lib.hid (And.intro hG hT)
  clear hG hT
  go_enter Tryd.func4, Tryd.ntmps4
  go_wp2_with fail
  obtain ⟨W0, hW0⟩ : ∃ W0, w.alloc (.cells #[.string ⟨#[195, 169, 10]⟩] 9) = W0 := ⟨_, rfl⟩
  rw [hW0]
  have hb0 : Below w.heap.size w W0 := hW0 ▸ (Below.refl _ _).alloc (Nat.le_refl _) _
  have hc0 : W0.cell? ⟨w.heap.size, 0, none⟩ = some (.string ⟨#[195, 169, 10]⟩) := by rw [← hW0]; simp
  have hz0 : w.heap.size < W0.heap.size := lt_of_cell hc0
  have hst : Strs W0 [exT] (some ⟨w.heap.size, 0, none⟩) := fun _ => ⟨w.heap.size, 0, rfl, hz0, fun j hj => by
    obtain rfl : j = 0 := by simpa using hj
    exact hc0⟩
  refine (texts_any [exT] (some ⟨w.heap.size, 0, none⟩) 1 W0 hst (by decide)).mono ?_
  clear hW0 hc0 hst
  rintro e W1 ⟨⟨v, rfl, hown⟩, hb1⟩
  have hbw1 : Below w.heap.size w W1 := hb0.trans (hb1.mono (Nat.le_of_lt hz0))
  have hv1 : Val W1 (· < W1.heap.size) 1000000 exV #[.int .i64 4, .bool false, .int .i64 0, .string ⟨#[]⟩, v, .slice none 0 0] := own_list (ss := [exT]) hown (by decide) ex_small
  obtain ⟨ao, lo, co, rfl⟩ : ∃ ao lo co, v = .slice ao lo co := by
    rcases hown.2 with ⟨hv, _⟩ | ⟨g, cap, cur, hv, _⟩
    · exact ⟨_, _, _, hv⟩
    · exact ⟨_, _, _, hv⟩
  have HX := Lib.hid (And.intro hbw1 hv1)
  clear hown hb0 hb1 hbw1 hv1
  go_wp2_with fail
  obtain ⟨W2, hW2⟩ : ∃ W2, W1.alloc (.cells #[.string ⟨#[97]⟩, .int .i64 4, .bool false, .int .i64 0, .string ⟨#[]⟩, .slice ao lo co, .slice none 0 0] 46) = W2 := ⟨_, rfl⟩
  rw [hW2]
  have hb2 : Below W1.heap.size W1 W2 := hW2 ▸ (Below.refl _ _).alloc (Nat.le_refl _) _
  have hm2 : Whole W2 W1.heap.size 46 #[.string ⟨#[97]⟩, .int .i64 4, .bool false, .int .i64 0, .string ⟨#[]⟩, .slice ao lo co, .slice none 0 0] := hW2 ▸ Whole.made _ _ _
  have hz2 : W1.heap.size < W2.heap.size := hm2.lt
  have hz1 : w.heap.size ≤ W1.heap.size := HX.out.1.size
  have hv2 : ValM W2 (· < W2.heap.size) 1000000 exM (some ⟨W1.heap.size, 0, none⟩) 0 :=
    ex_val (a := ao) (l := lo) (c := co) hz2 (fun q _ => by rw [hm2.cell q]; simp [mem7, C6.cells]) (HX.out.2.keep (fun p hp => hb2.cell hp) (fun b hb => Nat.lt_trans hb hz2))
  refine (Members_some exM (some ⟨W1.heap.size, 0, none⟩) 1 W2.heap.size W2 hv2 (Nat.le_refl _) (by decide) (by decide) (fun e => by cases e) (by rw [ex_size]; decide) (by decide)).mono ?_
  rintro e W3 ⟨⟨ms', hp, hs, hmem⟩, hb3⟩
  obtain rfl := ex_perm hp
  obtain ⟨o, rfl, hv⟩ : ∃ o : C6, e = .returned (.tuple #[.agg o.arr, .nilIface]) ∧ Val W3 (fun b => W2.heap.size ≤ b ∧ b < W3.heap.size) 1000000 (.mk 5 false 0 ⟨#[]⟩ [] exM) o.arr := by
    rcases hmem with ⟨o, he, -, hv⟩ | ⟨i, v, hi, -⟩
    · exact ⟨o, he, hv⟩
    · exact absurd hi (by simp [exM])
  have hbw3 : Below w.heap.size w W3 := HX.out.1.trans ((hb2.trans (hb3.mono (Nat.le_of_lt hz2))).mono hz1)
  have hv3 : Val W3 (· < W3.heap.size) 1000000 (.mk 5 false 0 ⟨#[]⟩ [] exM) o.arr := hv.keep (fun _ _ => rfl) (fun b hb => hb.2)
  have HY := Lib.hid (And.intro hbw3 hv3)
  clear hmem hp hs hv hb3 hb2 hm2 hv2 hW2 hbw3 hv3 HX
  obtain ⟨ok, oy, on_, ot, oa, ola, oca, ob, olb, ocb⟩ := o
  simp only [C6.arr] at *
  go_wp2_with fail
  obtain ⟨W4, hW4⟩ : ∃ W4, W3.alloc (.cells #[.int .i64 ok, .bool oy, .int .i64 on_, .string ot, .slice oa ola oca, .slice ob olb ocb] 39) = W4 := ⟨_, rfl⟩
  rw [hW4]
  have hb4 : Below W3.heap.size W3 W4 := hW4 ▸ (Below.refl _ _).alloc (Nat.le_refl _) _
  have hz3 : w.heap.size ≤ W3.heap.size := HY.out.1.size
  have hbw4 : Below w.heap.size w W4 := HY.out.1.trans (hb4.mono hz3)
  have hNT : ∀ W, Below w.heap.size w W → Glob W ∧ Tabs W ∧ 6 ≤ W.heap.size := fun W hW => ⟨HG.out.1.below hW, HG.out.2.below hW (Nat.lt_of_lt_of_le (by decide) hN) (Nat.lt_of_lt_of_le (by decide) hN), Nat.le_trans hN hW.size⟩
  have HN := Lib.hid hNT
  refine (text_any (.mk 5 false 0 ⟨#[]⟩ [] exM) (C6.mk ok oy on_ ot oa ola oca ob olb ocb) W3.heap.size W4 (HY.out.2.keep (fun p hp => hb4.cell hp) (fun _ h => h)) hb4.size (HN.out W4 hbw4).1 (HN.out W4 hbw4).2.1 (HN.out W4 hbw4).2.2 (fun _ => by rw [ex_text]; decide)).mono ?_
  rintro e W5 ⟨hb5, hans⟩
  obtain rfl : e = .returned (.tuple #[.string ⟨#[123, 34, 97, 34, 58, 91, 34, 195, 169, 92, 110, 34, 93, 125]⟩, .nilIface]) := by
    rcases hans with ⟨-, he⟩ | ⟨p, cd, x, hr, -⟩
    · rw [he, ex_text]
    · rw [ex_chk] at hr
      cases hr
  have HZ := Lib.hid (hbw4.trans (hb5.mono hbw4.size))
  clear hans hb5 hb4 hbw4 hW4 hNT HY
  go_wp2_with fail
  have HS := sum_any ⟨#[]⟩ W5 (HN.out W5 HZ.out).2.1.1 (by decide)
  rw [ex_sum] at HS
  refine HS.mono ?_
  rintro e W6 ⟨rfl, hb6⟩
  have H6 := Lib.hid (HZ.out.trans (hb6.mono HZ.out.size))
  clear hb6 HS
  go_wp2_with fail
  have HQ := quoteT_any ⟨#[1]⟩ W6 (HN.out W6 H6.out).2.1 (HN.out W6 H6.out).2.2 (by decide)
  simp only [ex_quote] at HQ
  refine HQ.mono ?_
  rintro e W7 ⟨rfl, hb7⟩
  have H7 := Lib.hid (H6.out.trans (hb7.mono H6.out.size))
  clear hb7 HQ
  go_wp2_with fail
  go_ret
  exact ⟨rfl, H7.out⟩
end Go.Proofs.YtpehddbpingobaaDoor

namespace Go.Proofs.YtpehddbpingobaaDoor
open Go.RowKit Go.Lib
set_option linter.unusedVariables false
set_option linter.unusedSimpArgs false

mutual
/-- Are two the same, by what counts? -/
def same : V → V → Bool
  | .mk k y n t l m, .mk k' y' n' t' l' m' => k == k' && (if k = 1 then y == y' else if k = 2 then n == n' else if k = 3 then t.toList == t'.toList else if k = 4 then sameL l l' else if k = 5 then sameM m m' else true)
def sameL : List V → List V → Bool
  | [], [] => true
  | v :: r, v' :: r' => same v v' && sameL r r'
  | _, _ => false
def sameM : List (ByteArray × V) → List (ByteArray × V) → Bool
  | [], [] => true
  | (s, v) :: r, (s', v') :: r' => s.toList == s'.toList && same v v' && sameM r r'
  | _, _ => false
end
theorem sameL_len : ∀ {l l' : List V}, l.length ≠ l'.length → sameL l l' = false
  | [], [], h => absurd rfl h
  | [], _ :: _, _ => by simp [sameL]
  | _ :: _, [], _ => by simp [sameL]
  | v :: r, v' :: r', h => by rw [sameL, sameL_len (l := r) (l' := r') (by simpa using h)]; simp
theorem sameM_len : ∀ {l l' : List (ByteArray × V)}, l.length ≠ l'.length → sameM l l' = false
  | [], [], h => absurd rfl h
  | [], _ :: _, _ => by simp [sameM]
  | _ :: _, [], _ => by simp [sameM]
  | (s, v) :: r, (s', v') :: r', h => by rw [sameM, sameM_len (l := r) (l' := r') (by simpa using h)]; simp
theorem sameL_drop {l l' : List V} {j : Nat} (h : j < l.length) (h' : j < l'.length) : sameL (l.drop j) (l'.drop j) = (same l[j] l'[j] && sameL (l.drop (j + 1)) (l'.drop (j + 1))) := by
  rw [List.drop_eq_getElem_cons h, List.drop_eq_getElem_cons h', sameL]
theorem sameM_drop {l l' : List (ByteArray × V)} {j : Nat} (h : j < l.length) (h' : j < l'.length) : sameM (l.drop j) (l'.drop j) = (l[j].1.toList == l'[j].1.toList && same l[j].2 l'[j].2 && sameM (l.drop (j + 1)) (l'.drop (j + 1))) := by
  rw [List.drop_eq_getElem_cons h, List.drop_eq_getElem_cons h', sameM]

def SameSaid (n : Nat) : Prop := ∀ (v v' : V) (cs cs' : Array Value) (B : Nat) (w : World), wgt v ≤ n → n ≤ 1000000 → Val w (· < B) 1000000 v cs → Val w (· < B) 1000000 v' cs' → B ≤ w.heap.size →
    Calls Tryd.prog 9 #[.agg cs, .agg cs'] w fun e w' => e = .returned (.bool (same v v')) ∧ Below w.heap.size w w'
def SameRelL (w : World) (l l' : List V) (box box' : Array Value) (k : Nat) (i : Value) (wr : World) : Prop :=
  ∃ j : Nat, j + k = l.length ∧ i = .int .i64 j ∧ Whole wr w.heap.size 25 box ∧ Whole wr (w.heap.size + 1) 25 box' ∧ sameL (l.drop j) (l'.drop j) = sameL l l' ∧ Below w.heap.size w wr
def SameRelM (w : World) (l l' : List (ByteArray × V)) (box box' : Array Value) (k : Nat) (i : Value) (wr : World) : Prop :=
  ∃ j : Nat, j + k = l.length ∧ i = .int .i64 j ∧ Whole wr w.heap.size 25 box ∧ Whole wr (w.heap.size + 1) 25 box' ∧ sameM (l.drop j) (l'.drop j) = sameM l l' ∧ Below w.heap.size w wr

set_option maxRecDepth 100000 in
set_option maxHeartbeats 4000000 in
/-- Lists. -/
theorem refsame_list (n : Nat) (ih : SameSaid n) (y y' : Bool) (m m' : Int) (t t' : ByteArray) (l l' : List V) (mp mp' : List (ByteArray × V)) (A1 A2 A3 A4 : Option Addr) (c1 c2 c3 c4 B : Nat) (w : World) (hw : wgtL l ≤ n) (hn : n ≤ 1000000) (hv : ValL w (· < B) 1000000 l A1 0) (hv' : ValL w (· < B) 1000000 l' A3 0) (hl : l.length ≤ 1000000) (hl' : l'.length ≤ 1000000) (hc1 : l.length ≤ c1) (hc3 : l'.length ≤ c3) (hB : B ≤ w.heap.size) :
    Calls Tryd.prog 9 #[.agg #[.int .i64 4, .bool y, .int .i64 m, .string t, .slice A1 l.length c1, .slice A2 mp.length c2], .agg #[.int .i64 4, .bool y', .int .i64 m', .string t', .slice A3 l'.length c3, .slice A4 mp'.length c4]] w fun e w' => e = .returned (.bool (sameL l l')) ∧ Below w.heap.size w w' := by
  have hb0 : ∀ o o', Below w.heap.size w ((w.alloc o).alloc o') := fun o o' => ((Below.refl _ _).alloc (Nat.le_refl _) _).alloc (by simp) _
  obtain ⟨R, hR⟩ : ∃ R, sameL l l' = R := ⟨_, rfl⟩
  rw [hR]
  have HR := Lib.hid hR
  have HV := Lib.hid (And.intro hv (And.intro hv' hw))
  clear hR hv hv' hw
  by_cases hlen : l.length = l'.length
  · have hlb : ((l.length : Int) != (l'.length : Int)) = false := by simp [hlen]
    have hle : l.length ≤ l'.length := by omega
    have HL := Lib.hid hlen
    clear hlen
    go_enter Tryd.func9, Tryd.ntmps9
    go_wp2_with fail
    go_loopg [47] l.length (SameRelL w l l' #[.int .i64 4, .bool y, .int .i64 m, .string t, .slice A1 l.length c1, .slice A2 mp.length c2] #[.int .i64 4, .bool y', .int .i64 m', .string t', .slice A3 l'.length c3, .slice A4 mp'.length c4])
    case atStart =>
      refine ⟨0, by simp, rfl, (Whole.made w _ _).alloc _, ?_, rfl, hb0 _ _⟩
      have := Whole.made (w.alloc (.cells #[.int .i64 4, .bool y, .int .i64 m, .string t, .slice A1 l.length c1, .slice A2 mp.length c2] 25)) 25 #[.int .i64 4, .bool y', .int .i64 m', .string t', .slice A3 l'.length c3, .slice A4 mp'.length c4]
      simpa using this
    case round =>
      obtain ⟨j, hk, rfl, hbox, hbox', hrest, hb⟩ := hrel
      have b4 := hbox.cell 4
      have d4 := hbox'.cell 4
      simp at b4 d4
      have hz : w.heap.size + 1 < wr.heap.size := hbox'.lt
      by_cases hlt : j < l.length
      · have hlt' : j < l'.length := by omega
        obtain ⟨b, off, cs, rfl, hbB, hc, hx⟩ := HV.out.1.get j hlt
        obtain ⟨b', off', cs', rfl, hbB', hc', hx'⟩ := HV.out.2.1.get j hlt'
        obtain ⟨cj, rfl⟩ := hx.c6
        obtain ⟨cj', rfl⟩ := hx'.c6
        have hcj : ∀ q, q < 6 → wr.cell? ⟨b, off + j * 6 + q, none⟩ = cj.arr[q]? := fun q hq => (hb.cell (p := ⟨b, off + j * 6 + q, none⟩) (by simp; omega)).trans (by simpa using hc q hq)
        have hcj' : ∀ q, q < 6 → wr.cell? ⟨b', off' + j * 6 + q, none⟩ = cj'.arr[q]? := fun q hq => (hb.cell (p := ⟨b', off' + j * 6 + q, none⟩) (by simp; omega)).trans (by simpa using hc' q hq)
        obtain ⟨x0, x1, x2, x3, x4, x5⟩ := cells6 hcj rfl
        obtain ⟨y0, y1, y2, y3, y4, y5⟩ := cells6 hcj' rfl
        have hwj : wgt l[j] ≤ n := by
          have h1 := HV.out.2.2
          have h2 := wgtL_le l (j + 1)
          rw [wgtL_take l j hlt] at h2
          omega
        have hcall := fun W (hW : Below w.heap.size w W) => ih l[j] l'[j] cj.arr cj'.arr B W hwj hn (hx.keep (fun p hp => hW.cell (Nat.lt_of_lt_of_le hp hB)) (fun _ h => h)) (hx'.keep (fun p hp => hW.cell (Nat.lt_of_lt_of_le hp hB)) (fun _ h => h)) (Nat.le_trans hB hW.size)
        have hstep := sameL_drop hlt hlt'
        have hj1 : (j : Int) < (l.length : Int) := by omega
        have hj2 : (j : Int) < (l'.length : Int) := by omega
        have hj0 : (0 : Int) ≤ (j : Int) := by omega
        have hbr : b < wr.heap.size := lt_of_cell x0
        have hbr' : b' < wr.heap.size := lt_of_cell y0
        have hz1 : w.heap.size < wr.heap.size := by omega
        obtain ⟨S, hS⟩ : ∃ S, same l[j] l'[j] = S := ⟨_, rfl⟩
        rw [hS] at hcall hstep
        have HC := Lib.hid (And.intro hcall (And.intro hstep (And.intro hk (And.intro hbox (And.intro hbox' (And.intro hrest hb))))))
        clear hcall hstep hk hbox hbox' hrest hb hcj hcj' hc hc' hx hx' hwj hS
        obtain ⟨jk, jy, jn, jt, ja, jla, jca, jb, jlb, jcb⟩ := cj
        obtain ⟨qk, qy, qn, qt, qa, qla, qca, qb, qlb, qcb⟩ := cj'
        dsimp only [C6.arr] at x0 x1 x2 x3 x4 x5 y0 y1 y2 y3 y4 y5 HC
        cases S
        · go_wp2_with fail
          go_region_held3 (fun w' => w'.cell? ⟨w.heap.size, 4, none⟩ = some (.slice (some ⟨b, off, none⟩) l.length c1) ∧ w'.cell? ⟨w.heap.size + 1, 4, none⟩ = some (.slice (some ⟨b', off', none⟩) l'.length c3) ∧ w'.cell? ⟨b, off + j * 6, none⟩ = some (.int .i64 jk) ∧ w'.cell? ⟨b, off + j * 6 + 1, none⟩ = some (.bool jy) ∧ w'.cell? ⟨b, off + j * 6 + 2, none⟩ = some (.int .i64 jn) ∧ w'.cell? ⟨b, off + j * 6 + 3, none⟩ = some (.string jt) ∧ w'.cell? ⟨b, off + j * 6 + 4, none⟩ = some (.slice ja jla jca) ∧ w'.cell? ⟨b, off + j * 6 + 5, none⟩ = some (.slice jb jlb jcb) ∧ w'.cell? ⟨b', off' + j * 6, none⟩ = some (.int .i64 qk) ∧ w'.cell? ⟨b', off' + j * 6 + 1, none⟩ = some (.bool qy) ∧ w'.cell? ⟨b', off' + j * 6 + 2, none⟩ = some (.int .i64 qn) ∧ w'.cell? ⟨b', off' + j * 6 + 3, none⟩ = some (.string qt) ∧ w'.cell? ⟨b', off' + j * 6 + 4, none⟩ = some (.slice qa qla qca) ∧ w'.cell? ⟨b', off' + j * 6 + 5, none⟩ = some (.slice qb qlb qcb))
            (first | go_keep | (go_split_ands; refine ⟨?_, ?_, ?_, ?_, ?_, ?_, ?_, ?_, ?_, ?_, ?_, ?_, ?_, ?_⟩ <;> (refine (hb2.cell ?_).trans ?_ <;> assumption)))
            (first
              | (go_at_call 9; refine (HC.out.1 _ ?_).mono ?_; (first | exact HC.out.2.2.2.2.2.2 | exact HC.out.2.2.2.2.2.2.drew); rintro e W2 ⟨rfl, hb2⟩))
          go_wp2_with fail
          go_ret
          obtain ⟨-, hstep, hk, hbox, hbox', hrest, hb⟩ := HC.out
          have hRR : R = false := by rw [← HR.out, ← hrest, hstep]; rfl
          exact ⟨by rw [hRR]; rfl, hb.trans ((((Below.refl wr.heap.size wr).drew).trans hb2).mono hb.size)⟩
        · go_wp2_with fail
          go_region_held3 (fun w' => w'.cell? ⟨w.heap.size, 4, none⟩ = some (.slice (some ⟨b, off, none⟩) l.length c1) ∧ w'.cell? ⟨w.heap.size + 1, 4, none⟩ = some (.slice (some ⟨b', off', none⟩) l'.length c3) ∧ w'.cell? ⟨b, off + j * 6, none⟩ = some (.int .i64 jk) ∧ w'.cell? ⟨b, off + j * 6 + 1, none⟩ = some (.bool jy) ∧ w'.cell? ⟨b, off + j * 6 + 2, none⟩ = some (.int .i64 jn) ∧ w'.cell? ⟨b, off + j * 6 + 3, none⟩ = some (.string jt) ∧ w'.cell? ⟨b, off + j * 6 + 4, none⟩ = some (.slice ja jla jca) ∧ w'.cell? ⟨b, off + j * 6 + 5, none⟩ = some (.slice jb jlb jcb) ∧ w'.cell? ⟨b', off' + j * 6, none⟩ = some (.int .i64 qk) ∧ w'.cell? ⟨b', off' + j * 6 + 1, none⟩ = some (.bool qy) ∧ w'.cell? ⟨b', off' + j * 6 + 2, none⟩ = some (.int .i64 qn) ∧ w'.cell? ⟨b', off' + j * 6 + 3, none⟩ = some (.string qt) ∧ w'.cell? ⟨b', off' + j * 6 + 4, none⟩ = some (.slice qa qla qca) ∧ w'.cell? ⟨b', off' + j * 6 + 5, none⟩ = some (.slice qb qlb qcb))
            (first | go_keep | (go_split_ands; refine ⟨?_, ?_, ?_, ?_, ?_, ?_, ?_, ?_, ?_, ?_, ?_, ?_, ?_, ?_⟩ <;> (refine (hb2.cell ?_).trans ?_ <;> assumption)))
            (first
              | (go_at_call 9; refine (HC.out.1 _ ?_).mono ?_; (first | exact HC.out.2.2.2.2.2.2 | exact HC.out.2.2.2.2.2.2.drew); rintro e W2 ⟨rfl, hb2⟩))
          have HB := Lib.hid (((Below.refl wr.heap.size wr).drew).trans hb2)
          clear hb2
          go_wp2_with fail
          go_roundg (l.length - (j + 1))
          case rel =>
            obtain ⟨-, hstep, hk, hbox, hbox', hrest, hb⟩ := HC.out
            refine ⟨j + 1, by omega, by go_num, hbox.below HB.out hbox.lt, hbox'.below HB.out hbox'.lt, ?_, hb.trans (HB.out.mono hb.size)⟩
            rw [← hrest, hstep]; rfl
          case measure => have := HC.out.2.2.1; omega
      · have hjl : j = l.length := by omega
        subst hjl
        have HX := Lib.hid (And.intro hrest hb)
        clear hrest hb hbox hbox' hk
        go_wp2_with fail
        go_ret
        have hRR : R = true := by
          rw [← HR.out, ← HX.out.1, List.drop_of_length_le (Nat.le_refl _), List.drop_of_length_le (by have := HL.out; omega)]
          rfl
        exact ⟨by rw [hRR]; rfl, HX.out.2⟩
  · have hlb : ((l.length : Int) != (l'.length : Int)) = true := by simp; omega
    have hRR : R = false := by rw [← HR.out]; exact sameL_len hlen
    subst hRR
    clear hlen HV HR ih
    go_enter Tryd.func9, Tryd.ntmps9
    go_wp2_with fail
    go_ret
    exact ⟨rfl, hb0 _ _⟩
end Go.Proofs.YtpehddbpingobaaDoor

namespace Go.Proofs.YtpehddbpingobaaDoor
open Go.RowKit Go.Lib
set_option linter.unusedVariables false
set_option linter.unusedSimpArgs false

def digB (c : UInt8) : Prop := 48 ≤ c.toNat ∧ c.toNat ≤ 57
theorem dig_of (k : Nat) (h : k < 10) : (UInt8.ofNat (48 + k)).toNat = 48 + k := by
  rw [UInt8.toNat_ofNat']
  omega
theorem decDigits_dig : ∀ (u : Nat), ∀ c ∈ decDigits u, digB c := by
  intro u
  induction u using Nat.strongRecOn with
  | _ u ih =>
    intro c hc
    rw [decDigits] at hc
    split at hc
    · rename_i h
      rw [List.mem_singleton] at hc
      subst hc
      unfold digB
      rw [dig_of u h]
      omega
    · rename_i h
      rcases List.mem_append.1 hc with hc | hc
      · exact ih (u / 10) (by omega) c hc
      · rw [List.mem_singleton] at hc
        subst hc
        unfold digB
        rw [dig_of (u % 10) (by omega)]
        omega
def valD (l : List UInt8) : Nat := l.foldl (fun a c => a * 10 + (c.toNat - 48)) 0
theorem valD_dec : ∀ u : Nat, valD (decDigits u) = u := by
  intro u
  induction u using Nat.strongRecOn with
  | _ u ih =>
    rw [decDigits]
    split
    · rename_i h
      simp only [valD, List.foldl_cons, List.foldl_nil]
      rw [dig_of u h]
      omega
    · rename_i h
      have := ih (u / 10) (by omega)
      rw [valD] at this
      rw [valD, List.foldl_append, this]
      simp only [List.foldl_cons, List.foldl_nil]
      rw [dig_of (u % 10) (by omega)]
      omega
theorem dec_inj {a b : Nat} (h : decDigits a = decDigits b) : a = b := by rw [← valD_dec a, h, valD_dec]
theorem dec_cons (u : Nat) : ∃ c r, decDigits u = c :: r ∧ digB c := by
  cases h : decDigits u with
  | nil =>
    have := decDigits_length u
    rw [h, nDigits] at this
    split at this <;> simp at this
  | cons c r => exact ⟨c, r, rfl, decDigits_dig u c (by rw [h]; exact List.mem_cons_self ..)⟩
theorem itoa_all (n : Int) : ∀ c ∈ itoa n, c.toNat = 45 ∨ digB c := by
  intro c hc
  rw [itoa] at hc
  split at hc
  · rcases List.mem_cons.1 hc with rfl | hc
    · exact .inl rfl
    · exact .inr (decDigits_dig _ c hc)
  · exact .inr (decDigits_dig _ c hc)
theorem itoa_cons (n : Int) : ∃ c r, itoa n = c :: r ∧ (c.toNat = 45 ∨ digB c) := by
  cases h : itoa n with
  | nil =>
    rw [itoa] at h
    split at h
    · cases h
    · obtain ⟨c, r, e, -⟩ := dec_cons n.toNat
      rw [e] at h
      cases h
  | cons c r => exact ⟨c, r, rfl, itoa_all n c (by rw [h]; exact List.mem_cons_self ..)⟩
theorem itoa_inj {a b : Int} (h : itoa a = itoa b) : a = b := by
  rw [itoa, itoa] at h
  split at h <;> split at h
  · have := dec_inj (List.cons.inj h).2
    omega
  · obtain ⟨c, r, e, hd⟩ := dec_cons b.toNat
    rw [e] at h
    have := (List.cons.inj h).1
    subst this
    unfold digB at hd
    simp at hd
  · obtain ⟨c, r, e, hd⟩ := dec_cons a.toNat
    rw [e] at h
    have := (List.cons.inj h).1
    subst this
    unfold digB at hd
    simp at hd
  · have := dec_inj h
    omega
/-- What stands behind a value: nothing, a comma or a closing bracket. -/
def Stop (r : List UInt8) : Prop := r = [] ∨ ∃ c t, r = c :: t ∧ (c = 44 ∨ c = 93 ∨ c = 125)
theorem stop_num {c : UInt8} (h : c = 44 ∨ c = 93 ∨ c = 125) : ¬ (c.toNat = 45 ∨ digB c) := by
  unfold digB
  rcases h with rfl | rfl | rfl <;> simp
theorem run_cut {P : UInt8 → Prop} : ∀ (l l' r s : List UInt8), (∀ c ∈ l, P c) → (∀ c ∈ l', P c) → (∀ c t, r = c :: t → ¬ P c) → (∀ c t, s = c :: t → ¬ P c) → l ++ r = l' ++ s → l = l' ∧ r = s
  | [], [], r, s, _, _, _, _, h => ⟨rfl, h⟩
  | [], c :: l', r, s, _, h2, h3, _, h => absurd (h2 c (List.mem_cons_self ..)) (h3 c _ h)
  | c :: l, [], r, s, h1, _, _, h4, h => absurd (h1 c (List.mem_cons_self ..)) (h4 c _ h.symm)
  | c :: l, c' :: l', r, s, h1, h2, h3, h4, h => by
    rw [List.cons_append, List.cons_append] at h
    obtain ⟨rfl, g⟩ := List.cons.inj h
    obtain ⟨rfl, e⟩ := run_cut l l' r s (fun x hx => h1 x (List.mem_cons_of_mem _ hx)) (fun x hx => h2 x (List.mem_cons_of_mem _ hx)) h3 h4 g
    exact ⟨rfl, e⟩
theorem itoa_cut {a b : Int} {r s : List UInt8} (hr : Stop r) (hs : Stop s) (h : itoa a ++ r = itoa b ++ s) : a = b ∧ r = s := by
  have hno : ∀ {r : List UInt8}, Stop r → ∀ c t, r = c :: t → ¬ (c.toNat = 45 ∨ digB c) := by
    intro r hr c t e
    rcases hr with rfl | ⟨c', t', rfl, hc⟩
    · cases e
    · obtain ⟨rfl, -⟩ := List.cons.inj e
      exact stop_num hc
  obtain ⟨e, e'⟩ := run_cut (P := fun c => c.toNat = 45 ∨ digB c) _ _ r s (itoa_all a) (itoa_all b) (hno hr) (hno hs) h
  exact ⟨itoa_inj e, e'⟩
theorem hx_inj : ∀ n : Fin 32, ∀ n' : Fin 32, hx 4 n.1 = hx 4 n'.1 → n = n' := by decide
def escB (x : UInt8) : UInt8 := if x = 34 then 34 else if x = 92 then 92 else if x = 98 then 8 else if x = 102 then 12 else if x = 110 then 10 else if x = 114 then 13 else 9
theorem letL_form (c : UInt8) : (letL c = [c] ∧ c ≠ 92 ∧ c ≠ 34) ∨ (∃ x, letL c = [92, x] ∧ x ≠ 117 ∧ escB x = c) ∨ (letL c = 92 :: 117 :: hx 4 c.toNat ∧ c.toNat < 32) := by
  unfold letL
  split
  · subst c; exact .inr (.inl ⟨34, rfl, by decide, by decide⟩)
  split
  · subst c; exact .inr (.inl ⟨92, rfl, by decide, by decide⟩)
  split
  · subst c; exact .inr (.inl ⟨98, rfl, by decide, by decide⟩)
  split
  · subst c; exact .inr (.inl ⟨102, rfl, by decide, by decide⟩)
  split
  · subst c; exact .inr (.inl ⟨110, rfl, by decide, by decide⟩)
  split
  · subst c; exact .inr (.inl ⟨114, rfl, by decide, by decide⟩)
  split
  · subst c; exact .inr (.inl ⟨116, rfl, by decide, by decide⟩)
  split
  · rename_i h; exact .inr (.inr ⟨rfl, h⟩)
  · exact .inl ⟨rfl, by assumption, by assumption⟩
theorem letL_cut {c c' : UInt8} {X Y : List UInt8} (h : letL c ++ X = letL c' ++ Y) : c = c' ∧ X = Y := by
  rcases letL_form c with ⟨e, n1, n2⟩ | ⟨x, e, nx, hx1⟩ | ⟨e, hl⟩ <;> rcases letL_form c' with ⟨e', n1', n2'⟩ | ⟨x', e', nx', hx1'⟩ | ⟨e', hl'⟩ <;> rw [e, e'] at h <;> simp only [List.cons_append, List.nil_append, List.cons.injEq, true_and] at h
  · exact h
  · exact absurd h.1 n1
  · exact absurd h.1 n1
  · exact absurd h.1.symm n1'
  · obtain ⟨rfl, h⟩ := h
    exact ⟨hx1.symm.trans hx1', h⟩
  · exact absurd h.1 nx
  · exact absurd h.1.symm n1'
  · exact absurd h.1.symm nx'
  · obtain ⟨e1, e2⟩ := List.append_inj h (by rw [hx_len, hx_len])
    have := hx_inj ⟨c.toNat, hl⟩ ⟨c'.toNat, hl'⟩ e1
    exact ⟨UInt8.toNat_inj.1 (Fin.mk.inj this), e2⟩
theorem letL_no34 {c : UInt8} {X Y : List UInt8} : letL c ++ X ≠ 34 :: Y := by
  intro h
  rcases letL_form c with ⟨e, n1, n2⟩ | ⟨x, e, nx, hx1⟩ | ⟨e, hl⟩ <;> rw [e] at h <;> simp only [List.cons_append, List.nil_append, List.cons.injEq] at h
  · exact n2 h.1
  · exact absurd h.1 (by decide)
  · exact absurd h.1 (by decide)
theorem flat_cut : ∀ (s s' X Y : List UInt8), s.flatMap letL ++ 34 :: X = s'.flatMap letL ++ 34 :: Y → s = s' ∧ X = Y
  | [], [], X, Y, h => ⟨rfl, (List.cons.inj h).2⟩
  | [], c :: s', X, Y, h => by
    rw [List.flatMap_cons, List.append_assoc] at h
    exact absurd h.symm letL_no34
  | c :: s, [], X, Y, h => by
    rw [List.flatMap_cons, List.append_assoc] at h
    exact absurd h letL_no34
  | c :: s, c' :: s', X, Y, h => by
    rw [List.flatMap_cons, List.append_assoc, List.flatMap_cons, List.append_assoc] at h
    obtain ⟨rfl, g⟩ := letL_cut h
    obtain ⟨rfl, g2⟩ := flat_cut s s' X Y g
    exact ⟨rfl, g2⟩
theorem quoL_cut {s s' X Y : List UInt8} (h : quoL s ++ X = quoL s' ++ Y) : s = s' ∧ X = Y := by
  unfold quoL at h
  rw [List.cons_append, List.cons_append, List.append_assoc, List.append_assoc] at h
  exact flat_cut s s' X Y (List.cons.inj h).2
theorem quoL_cons (s : List UInt8) : ∃ r, quoL s = 34 :: r := ⟨_, rfl⟩
end Go.Proofs.YtpehddbpingobaaDoor

namespace Go.Proofs.YtpehddbpingobaaDoor
open Go.RowKit Go.Lib
set_option linter.unusedVariables false
set_option linter.unusedSimpArgs false

/-- The kind of a value whose text begins with this byte. -/
def hk (c : UInt8) : Int := if c = 116 ∨ c = 102 then 1 else if c = 34 then 3 else if c = 91 then 4 else if c = 123 then 5 else if c = 110 then 0 else 2
theorem hk_num {c : UInt8} (h : c.toNat = 45 ∨ digB c) : hk c = 2 := by
  unfold digB at h
  have n1 : c ≠ 116 := by rintro rfl; simp at h
  have n2 : c ≠ 102 := by rintro rfl; simp at h
  have n3 : c ≠ 34 := by rintro rfl; simp at h
  have n4 : c ≠ 91 := by rintro rfl; simp at h
  have n5 : c ≠ 123 := by rintro rfl; simp at h
  have n6 : c ≠ 110 := by rintro rfl; simp at h
  simp [hk, n1, n2, n3, n4, n5, n6]
/-- The first byte of a right value's text tells its kind, and is no closing bracket. -/
theorem canT_head (d : Nat) : ∀ v : V, chk d v = none → ∃ c r, canT v = c :: r ∧ hk c = (match v with | .mk k _ _ _ _ _ => k) ∧ c ≠ 93 ∧ c ≠ 125
  | .mk k y n t l m, h => by
    have hh : ∃ fl fm, chkHead fl fm (.mk k y n t l m) = none := by
      cases d with
      | zero => exact ⟨_, _, h⟩
      | succ d => exact ⟨_, _, h⟩
    obtain ⟨fl, fm, hh⟩ := hh
    obtain ⟨hk_, -⟩ := chkHead_none hh
    rw [canT]
    rcases hk_ with rfl | rfl | rfl | rfl | rfl | rfl
    · exact ⟨_, _, rfl, rfl, by decide, by decide⟩
    · cases y
      · exact ⟨_, _, rfl, rfl, by decide, by decide⟩
      · exact ⟨_, _, rfl, rfl, by decide, by decide⟩
    · obtain ⟨c, r, e, hc⟩ := itoa_cons n
      rw [if_neg (by decide), if_pos rfl]
      refine ⟨c, r, e, hk_num hc, ?_, ?_⟩
      · rintro rfl; unfold digB at hc; simp at hc
      · rintro rfl; unfold digB at hc; simp at hc
    · rw [if_neg (by decide), if_neg (by decide), if_pos rfl]
      exact ⟨34, _, rfl, rfl, by decide, by decide⟩
    · rw [if_neg (by decide), if_neg (by decide), if_neg (by decide), if_pos rfl]
      exact ⟨91, _, rfl, rfl, by decide, by decide⟩
    · rw [if_neg (by decide), if_neg (by decide), if_neg (by decide), if_neg (by decide), if_pos rfl]
      exact ⟨123, _, rfl, rfl, by decide, by decide⟩
def CutV (x y : V) : Prop := ∀ r s, Stop r → Stop s → canT x ++ r = canT y ++ s → same x y = true ∧ r = s
def HeadV (x : V) : Prop := ∃ c r, canT x = c :: r ∧ c ≠ 93 ∧ c ≠ 125
theorem canL_stop (l : List V) (i : Nat) (r : List UInt8) : Stop (canL (i + 1) l ++ 93 :: r) := by
  cases l with
  | nil => exact .inr ⟨93, r, by rw [canL]; rfl, .inr (.inl rfl)⟩
  | cons v l => exact .inr ⟨44, _, by rw [canL, commaL, if_neg (by omega)]; rfl, .inl rfl⟩
theorem canM_stop (l : List (ByteArray × V)) (i : Nat) (r : List UInt8) : Stop (canM (i + 1) l ++ 125 :: r) := by
  cases l with
  | nil => exact .inr ⟨125, r, by rw [canM]; rfl, .inr (.inr rfl)⟩
  | cons v l => exact .inr ⟨44, _, by rw [canM, commaL, if_neg (by omega)]; rfl, .inl rfl⟩
theorem canL_not (v : V) (l : List V) (i : Nat) (r s : List UInt8) (hv : HeadV v) : canL i (v :: l) ++ s ≠ 93 :: r := by
  obtain ⟨c, q, e, h1, h2⟩ := hv
  intro h
  rw [canL, e, commaL] at h
  split at h
  · exact h1 (List.cons.inj h).1
  · exact absurd (List.cons.inj h).1 (by decide)
theorem canM_not (x : ByteArray × V) (l : List (ByteArray × V)) (i : Nat) (r s : List UInt8) : canM i (x :: l) ++ s ≠ 125 :: r := by
  obtain ⟨k, v⟩ := x
  intro h
  rw [canM, commaL] at h
  split at h
  · exact absurd (List.cons.inj h).1 (by decide)
  · exact absurd (List.cons.inj h).1 (by decide)
theorem canL_cut : ∀ (l l' : List V) (i : Nat) (r s : List UInt8), (∀ x ∈ l, HeadV x) → (∀ x ∈ l', HeadV x) → (∀ x ∈ l, ∀ y ∈ l', CutV x y) → canL i l ++ 93 :: r = canL i l' ++ 93 :: s → sameL l l' = true ∧ r = s
  | [], [], i, r, s, _, _, _, h => by rw [canL] at h; exact ⟨by rw [sameL], (List.cons.inj h).2⟩
  | [], v :: l', i, r, s, _, h2, _, h => absurd h.symm (canL_not v l' i _ _ (h2 v (List.mem_cons_self ..)))
  | v :: l, [], i, r, s, h1, _, _, h => absurd h (canL_not v l i _ _ (h1 v (List.mem_cons_self ..)))
  | v :: l, v' :: l', i, r, s, h1, h2, h3, h => by
    rw [canL, canL, List.append_assoc, List.append_assoc, List.append_assoc, List.append_assoc] at h
    have h := List.append_cancel_left h
    obtain ⟨e1, e2⟩ := h3 v (List.mem_cons_self ..) v' (List.mem_cons_self ..) _ _ (canL_stop l i r) (canL_stop l' i s) h
    obtain ⟨e3, e4⟩ := canL_cut l l' (i + 1) r s (fun x hx => h1 x (List.mem_cons_of_mem _ hx)) (fun x hx => h2 x (List.mem_cons_of_mem _ hx)) (fun x hx y hy => h3 x (List.mem_cons_of_mem _ hx) y (List.mem_cons_of_mem _ hy)) e2
    exact ⟨by rw [sameL, e1, e3]; rfl, e4⟩
theorem data_inj {a b : ByteArray} (h : a.data.toList = b.data.toList) : a = b := by
  cases a; cases b
  congr
  exact Array.toList_inj.1 h
theorem canM_cut : ∀ (l l' : List (ByteArray × V)) (i : Nat) (r s : List UInt8), (∀ x ∈ l, ∀ y ∈ l', CutV x.2 y.2) → canM i l ++ 125 :: r = canM i l' ++ 125 :: s → sameM l l' = true ∧ r = s
  | [], [], i, r, s, _, h => by rw [canM] at h; exact ⟨by rw [sameM], (List.cons.inj h).2⟩
  | [], v :: l', i, r, s, _, h => absurd h.symm (canM_not v l' i _ _)
  | v :: l, [], i, r, s, _, h => absurd h (canM_not v l i _ _)
  | (k, v) :: l, (k', v') :: l', i, r, s, h3, h => by
    rw [canM, canM] at h
    simp only [List.append_assoc] at h
    have h := List.append_cancel_left h
    obtain ⟨e0, g⟩ := quoL_cut h
    have e0 := data_inj e0
    subst e0
    have g := (List.cons.inj g).2
    obtain ⟨e1, e2⟩ := h3 (k, v) (List.mem_cons_self ..) (k, v') (List.mem_cons_self ..) _ _ (canM_stop l i r) (canM_stop l' i s) g
    obtain ⟨e3, e4⟩ := canM_cut l l' (i + 1) r s (fun x hx y hy => h3 x (List.mem_cons_of_mem _ hx) y (List.mem_cons_of_mem _ hy)) e2
    exact ⟨by rw [sameM, e1, e3]; simp, e4⟩
theorem canT_cut : ∀ (d : Nat) (a : V), chk d a = none → ∀ (d' : Nat) (b : V), chk d' b = none → CutV a b
  | d, .mk k y n t l m, ha, d', .mk k' y' n' t' l' m', hb => by
    intro r s hr hs h
    obtain ⟨c, q, ec, hc, -⟩ := canT_head d _ ha
    obtain ⟨c', q', ec', hc', -⟩ := canT_head d' _ hb
    have hkk : k = k' := by
      rw [ec, ec', List.cons_append, List.cons_append] at h
      have := (List.cons.inj h).1
      subst this
      exact hc.symm.trans hc'
    subst hkk
    clear ec ec' hc hc'
    have hA : ∃ fl fm, chkHead fl fm (.mk k y n t l m) = none ∧ (fl l = none → ∀ x ∈ l, HeadV x ∧ ∀ d' y, chk d' y = none → CutV x y) ∧ (fm m = none → ∀ x ∈ m, ∀ d' y, chk d' y = none → CutV x.2 y) := by
      cases d with
      | zero => exact ⟨fun _ => some ([], 3), fun _ => some ([], 3), ha, (fun e => absurd e (by simp)), (fun e => absurd e (by simp))⟩
      | succ d => exact ⟨_, _, ha, fun e x hx => ⟨by obtain ⟨c, r, e1, e2, e3⟩ := canT_head d x (chkL_none e x hx); exact ⟨c, r, e1, e3⟩, canT_cut d x (chkL_none e x hx)⟩, fun e x hx => canT_cut d x.2 (chkM_none e x hx)⟩
    have hB : ∃ fl fm, chkHead fl fm (.mk k y' n' t' l' m') = none ∧ (fl l' = none → ∀ x ∈ l', ∃ d', chk d' x = none) ∧ (fm m' = none → ∀ x ∈ m', ∃ d', chk d' x.2 = none) := by
      cases d' with
      | zero => exact ⟨fun _ => some ([], 3), fun _ => some ([], 3), hb, (fun e => absurd e (by simp)), (fun e => absurd e (by simp))⟩
      | succ d => exact ⟨_, _, hb, fun e x hx => ⟨d, chkL_none e x hx⟩, fun e x hx => ⟨d, chkM_none e x hx⟩⟩
    obtain ⟨fl, fm, hh, hl, hm⟩ := hA
    obtain ⟨fl', fm', hh', hl', hm'⟩ := hB
    obtain ⟨hkd, h2, h3, h4, h5⟩ := chkHead_none hh
    obtain ⟨-, -, -, h4', h5'⟩ := chkHead_none hh'
    rw [canT, canT] at h
    rw [same]
    rcases hkd with rfl | rfl | rfl | rfl | rfl | rfl
    · simp at h
      exact ⟨by simp, h⟩
    · simp only [if_pos] at h
      cases y <;> cases y' <;> simp at h
      · exact ⟨by simp, h⟩
      · exact ⟨by simp, h⟩
    · rw [if_neg (by decide), if_pos rfl, if_neg (by decide), if_pos rfl] at h
      obtain ⟨e, e'⟩ := itoa_cut hr hs h
      exact ⟨by simp [e], e'⟩
    · rw [if_neg (by decide), if_neg (by decide), if_pos rfl, if_neg (by decide), if_neg (by decide), if_pos rfl] at h
      obtain ⟨e, e'⟩ := quoL_cut h
      have e := data_inj e
      exact ⟨by simp [e], e'⟩
    · rw [if_neg (by decide), if_neg (by decide), if_neg (by decide), if_pos rfl, if_neg (by decide), if_neg (by decide), if_neg (by decide), if_pos rfl] at h
      simp only [List.cons_append, List.append_assoc, List.nil_append, List.cons.injEq, true_and] at h
      have hl := hl (h4 rfl)
      have hl' := hl' (h4' rfl)
      obtain ⟨e, e'⟩ := canL_cut l l' 0 r s (fun x hx => (hl x hx).1) (fun x hx => by obtain ⟨d, hd⟩ := hl' x hx; obtain ⟨c, r, e1, e2, e3⟩ := canT_head d x hd; exact ⟨c, r, e1, e3⟩) (fun x hx y hy => by obtain ⟨d, hd⟩ := hl' y hy; exact (hl x hx).2 d y hd) h
      exact ⟨by simp [e], e'⟩
    · rw [if_neg (by decide), if_neg (by decide), if_neg (by decide), if_neg (by decide), if_pos rfl, if_neg (by decide), if_neg (by decide), if_neg (by decide), if_neg (by decide), if_pos rfl] at h
      simp only [List.cons_append, List.append_assoc, List.nil_append, List.cons.injEq, true_and] at h
      have hm := hm (h5 rfl)
      have hm' := hm' (h5' rfl)
      obtain ⟨e, e'⟩ := canM_cut m m' 0 r s (fun x hx y hy => by obtain ⟨d, hd⟩ := hm' y hy; exact hm x hx d y.2 hd) h
      exact ⟨by simp [e], e'⟩
termination_by d _ _ _ _ _ => d
mutual
theorem canT_same : ∀ v v' : V, same v v' = true → canT v = canT v'
  | .mk k y n t l m, .mk k' y' n' t' l' m', h => by
    rw [same] at h
    simp only [Bool.and_eq_true, beq_iff_eq] at h
    obtain ⟨rfl, h⟩ := h
    rw [canT, canT]
    by_cases h1 : k = 1
    · subst h1; simp at h; simp [h]
    by_cases h2 : k = 2
    · subst h2; simp at h; simp [h]
    by_cases h3 : k = 3
    · subst h3; simp at h; have := toList_inj h; simp [this]
    by_cases h4 : k = 4
    · subst h4; simp at h; simp [canL_same l l' 0 h]
    by_cases h5 : k = 5
    · subst h5; simp at h; simp [canM_same m m' 0 h]
    simp [h1, h2, h3, h4, h5]
theorem canL_same : ∀ (l l' : List V) (i : Nat), sameL l l' = true → canL i l = canL i l'
  | [], [], i, h => rfl
  | [], v :: l', i, h => by simp [sameL] at h
  | v :: l, [], i, h => by simp [sameL] at h
  | v :: l, v' :: l', i, h => by
    rw [sameL, Bool.and_eq_true] at h
    rw [canL, canL, canT_same v v' h.1, canL_same l l' (i + 1) h.2]
theorem canM_same : ∀ (l l' : List (ByteArray × V)) (i : Nat), sameM l l' = true → canM i l = canM i l'
  | [], [], i, h => rfl
  | [], v :: l', i, h => by simp [sameM] at h
  | v :: l, [], i, h => by simp [sameM] at h
  | (k, v) :: l, (k', v') :: l', i, h => by
    rw [sameM, Bool.and_eq_true, Bool.and_eq_true, beq_iff_eq] at h
    rw [canM, canM, canT_same v v' h.1.2, canM_same l l' (i + 1) h.2, toList_inj h.1.1]
end
/-- Two right values have one text just if they are the same. -/
theorem once {d d' : Nat} {a b : V} (ha : chk d a = none) (hb : chk d' b = none) : decide (canT a = canT b) = same a b := by
  by_cases h : same a b = true
  · rw [h, canT_same a b h]; simp
  · rw [Bool.not_eq_true] at h
    rw [h, decide_eq_false_iff_not]
    intro e
    have := (canT_cut d a ha d' b hb [] [] (.inl rfl) (.inl rfl) (by rw [e])).1
    rw [h] at this
    cases this
end Go.Proofs.YtpehddbpingobaaDoor

namespace Go.Proofs.YtpehddbpingobaaDoor
open Go.RowKit Go.Lib
set_option linter.unusedVariables false
set_option linter.unusedSimpArgs false

set_option maxRecDepth 100000 in
set_option maxHeartbeats 4000000 in
/-- Maps. -/
theorem refsame_map (n : Nat) (ih : SameSaid n) (y y' : Bool) (m m' : Int) (t t' : ByteArray) (l l' : List V) (mp mp' : List (ByteArray × V)) (A1 A2 A3 A4 : Option Addr) (c1 c2 c3 c4 B : Nat) (w : World) (hw : wgtM mp ≤ n) (hn : n ≤ 1000000) (hv : ValM w (· < B) 1000000 mp A2 0) (hv' : ValM w (· < B) 1000000 mp' A4 0) (hl : mp.length ≤ 1000000) (hl' : mp'.length ≤ 1000000) (hc1 : mp.length ≤ c2) (hc3 : mp'.length ≤ c4) (hB : B ≤ w.heap.size) :
    Calls Tryd.prog 9 #[.agg #[.int .i64 5, .bool y, .int .i64 m, .string t, .slice A1 l.length c1, .slice A2 mp.length c2], .agg #[.int .i64 5, .bool y', .int .i64 m', .string t', .slice A3 l'.length c3, .slice A4 mp'.length c4]] w fun e w' => e = .returned (.bool (sameM mp mp')) ∧ Below w.heap.size w w' := by
  have hb0 : ∀ o o', Below w.heap.size w ((w.alloc o).alloc o') := fun o o' => ((Below.refl _ _).alloc (Nat.le_refl _) _).alloc (by simp) _
  obtain ⟨R, hR⟩ : ∃ R, sameM mp mp' = R := ⟨_, rfl⟩
  rw [hR]
  have HR := Lib.hid hR
  have HV := Lib.hid (And.intro hv (And.intro hv' hw))
  clear hR hv hv' hw
  by_cases hlen : mp.length = mp'.length
  · have hlb : ((mp.length : Int) != (mp'.length : Int)) = false := by simp [hlen]
    have hle : mp.length ≤ mp'.length := by omega
    have HL := Lib.hid hlen
    clear hlen
    go_enter Tryd.func9, Tryd.ntmps9
    go_wp2_with fail
    go_loopg [75] mp.length (SameRelM w mp mp' #[.int .i64 5, .bool y, .int .i64 m, .string t, .slice A1 l.length c1, .slice A2 mp.length c2] #[.int .i64 5, .bool y', .int .i64 m', .string t', .slice A3 l'.length c3, .slice A4 mp'.length c4])
    case atStart =>
      refine ⟨0, by simp, rfl, (Whole.made w _ _).alloc _, ?_, rfl, hb0 _ _⟩
      have := Whole.made (w.alloc (.cells #[.int .i64 5, .bool y, .int .i64 m, .string t, .slice A1 l.length c1, .slice A2 mp.length c2] 25)) 25 #[.int .i64 5, .bool y', .int .i64 m', .string t', .slice A3 l'.length c3, .slice A4 mp'.length c4]
      simpa using this
    case round =>
      obtain ⟨j, hk, rfl, hbox, hbox', hrest, hb⟩ := hrel
      have b4 := hbox.cell 5
      have d4 := hbox'.cell 5
      simp at b4 d4
      have hz : w.heap.size + 1 < wr.heap.size := hbox'.lt
      by_cases hlt : j < mp.length
      · have hlt' : j < mp'.length := by omega
        obtain ⟨b, off, cs, rfl, hbB, hsM, hkc, hc, hx⟩ := HV.out.1.get j hlt
        obtain ⟨b', off', cs', rfl, hbB', hsM', hkc', hc', hx'⟩ := HV.out.2.1.get j hlt'
        obtain ⟨cj, rfl⟩ := hx.c6
        obtain ⟨cj', rfl⟩ := hx'.c6
        obtain ⟨s, hs⟩ : ∃ s, mp[j].1 = s := ⟨_, rfl⟩
        obtain ⟨s', hs'⟩ : ∃ s', mp'[j].1 = s' := ⟨_, rfl⟩
        rw [hs] at hkc
        rw [hs'] at hkc'
        have hck : wr.cell? ⟨b, off + j * 7, none⟩ = some (.string s) := (hb.cell (p := ⟨b, off + j * 7, none⟩) (by simp; omega)).trans (by simpa using hkc)
        have hck' : wr.cell? ⟨b', off' + j * 7, none⟩ = some (.string s') := (hb.cell (p := ⟨b', off' + j * 7, none⟩) (by simp; omega)).trans (by simpa using hkc')
        have hcj : ∀ q, q < 6 → wr.cell? ⟨b, off + j * 7 + (1 + q), none⟩ = cj.arr[q]? := fun q hq => (hb.cell (p := ⟨b, off + j * 7 + (1 + q), none⟩) (by simp; omega)).trans (by simpa using hc q hq)
        have hcj' : ∀ q, q < 6 → wr.cell? ⟨b', off' + j * 7 + (1 + q), none⟩ = cj'.arr[q]? := fun q hq => (hb.cell (p := ⟨b', off' + j * 7 + (1 + q), none⟩) (by simp; omega)).trans (by simpa using hc' q hq)
        obtain ⟨xk, x0, x1, x2, x3, x4, x5⟩ := cells7 hck hcj rfl
        obtain ⟨yk, y0, y1, y2, y3, y4, y5⟩ := cells7 hck' hcj' rfl
        have hwj : wgt mp[j].2 ≤ n := by
          have h1 := HV.out.2.2
          have h2 := wgtM_le mp (j + 1)
          rw [wgtM_take mp j hlt] at h2
          omega
        have hcall := fun W (hW : Below w.heap.size w W) => ih mp[j].2 mp'[j].2 cj.arr cj'.arr B W hwj hn (hx.keep (fun p hp => hW.cell (Nat.lt_of_lt_of_le hp hB)) (fun _ h => h)) (hx'.keep (fun p hp => hW.cell (Nat.lt_of_lt_of_le hp hB)) (fun _ h => h)) (Nat.le_trans hB hW.size)
        have hstep := sameM_drop hlt hlt'
        rw [hs, hs'] at hstep
        have hj1 : (j : Int) < (mp.length : Int) := by omega
        have hj2 : (j : Int) < (mp'.length : Int) := by omega
        have hj0 : (0 : Int) ≤ (j : Int) := by omega
        have hbr : b < wr.heap.size := lt_of_cell xk
        have hbr' : b' < wr.heap.size := lt_of_cell yk
        have hz1 : w.heap.size < wr.heap.size := by omega
        obtain ⟨S, hS⟩ : ∃ S, same mp[j].2 mp'[j].2 = S := ⟨_, rfl⟩
        rw [hS] at hcall hstep
        cases hsk : (s.toList == s'.toList)
        · have hne : (s.toList != s'.toList) = true := by simp only [bne, hsk]; rfl
          rw [hsk] at hstep
          have hRR : R = false := by rw [← HR.out, ← hrest, hstep]; rfl
          have HB := Lib.hid (And.intro hb hRR)
          clear hcall hstep hk hbox hbox' hrest hb hcj hcj' hc hc' hx hx' hwj hS hRR hs hs' hkc hkc' hck hck'
          go_wp2_with fail
          go_quiet (fail)
          go_wp2_with fail
          go_ret
          exact ⟨by rw [HB.out.2]; rfl, below_drewN HB.out.1 _⟩
        · have hne : (s.toList != s'.toList) = false := by simp only [bne, hsk]; rfl
          rw [hsk] at hstep
          have HC := Lib.hid (And.intro hcall (And.intro hstep (And.intro hk (And.intro hbox (And.intro hbox' (And.intro hrest hb))))))
          clear hcall hstep hk hbox hbox' hrest hb hcj hcj' hc hc' hx hx' hwj hS hs hs' hkc hkc' hck hck'
          obtain ⟨jk, jy, jn, jt, ja, jla, jca, jb, jlb, jcb⟩ := cj
          obtain ⟨qk, qy, qn, qt, qa, qla, qca, qb, qlb, qcb⟩ := cj'
          dsimp only [C6.arr] at x0 x1 x2 x3 x4 x5 y0 y1 y2 y3 y4 y5 HC
          cases S
          · go_wp2_with fail
            go_region_held3 (fun w' => w'.cell? ⟨w.heap.size, 5, none⟩ = some (.slice (some ⟨b, off, none⟩) mp.length c2) ∧ w'.cell? ⟨w.heap.size + 1, 5, none⟩ = some (.slice (some ⟨b', off', none⟩) mp'.length c4) ∧ w'.cell? ⟨b, off + j * 7, none⟩ = some (.string s) ∧ w'.cell? ⟨b, off + j * 7 + 1, none⟩ = some (.int .i64 jk) ∧ w'.cell? ⟨b, off + j * 7 + 2, none⟩ = some (.bool jy) ∧ w'.cell? ⟨b, off + j * 7 + 3, none⟩ = some (.int .i64 jn) ∧ w'.cell? ⟨b, off + j * 7 + 4, none⟩ = some (.string jt) ∧ w'.cell? ⟨b, off + j * 7 + 5, none⟩ = some (.slice ja jla jca) ∧ w'.cell? ⟨b, off + j * 7 + 6, none⟩ = some (.slice jb jlb jcb) ∧ w'.cell? ⟨b', off' + j * 7, none⟩ = some (.string s') ∧ w'.cell? ⟨b', off' + j * 7 + 1, none⟩ = some (.int .i64 qk) ∧ w'.cell? ⟨b', off' + j * 7 + 2, none⟩ = some (.bool qy) ∧ w'.cell? ⟨b', off' + j * 7 + 3, none⟩ = some (.int .i64 qn) ∧ w'.cell? ⟨b', off' + j * 7 + 4, none⟩ = some (.string qt) ∧ w'.cell? ⟨b', off' + j * 7 + 5, none⟩ = some (.slice qa qla qca) ∧ w'.cell? ⟨b', off' + j * 7 + 6, none⟩ = some (.slice qb qlb qcb))
              (first | go_keep | (go_split_ands; refine ⟨?_, ?_, ?_, ?_, ?_, ?_, ?_, ?_, ?_, ?_, ?_, ?_, ?_, ?_, ?_, ?_⟩ <;> (refine (hb2.cell ?_).trans ?_ <;> assumption)))
              (first
                | (go_at_call 9; refine (HC.out.1 _ ?_).mono ?_; (first | exact HC.out.2.2.2.2.2.2 | exact HC.out.2.2.2.2.2.2.drew); rintro e W2 ⟨rfl, hb2⟩))
            go_wp2_with fail
            go_ret
            obtain ⟨-, hstep, hk, hbox, hbox', hrest, hb⟩ := HC.out
            have hRR : R = false := by rw [← HR.out, ← hrest, hstep]; rfl
            exact ⟨by rw [hRR]; rfl, hb.trans ((((Below.refl wr.heap.size wr).drew).trans hb2).mono hb.size)⟩
          · go_wp2_with fail
            go_region_held3 (fun w' => w'.cell? ⟨w.heap.size, 5, none⟩ = some (.slice (some ⟨b, off, none⟩) mp.length c2) ∧ w'.cell? ⟨w.heap.size + 1, 5, none⟩ = some (.slice (some ⟨b', off', none⟩) mp'.length c4) ∧ w'.cell? ⟨b, off + j * 7, none⟩ = some (.string s) ∧ w'.cell? ⟨b, off + j * 7 + 1, none⟩ = some (.int .i64 jk) ∧ w'.cell? ⟨b, off + j * 7 + 2, none⟩ = some (.bool jy) ∧ w'.cell? ⟨b, off + j * 7 + 3, none⟩ = some (.int .i64 jn) ∧ w'.cell? ⟨b, off + j * 7 + 4, none⟩ = some (.string jt) ∧ w'.cell? ⟨b, off + j * 7 + 5, none⟩ = some (.slice ja jla jca) ∧ w'.cell? ⟨b, off + j * 7 + 6, none⟩ = some (.slice jb jlb jcb) ∧ w'.cell? ⟨b', off' + j * 7, none⟩ = some (.string s') ∧ w'.cell? ⟨b', off' + j * 7 + 1, none⟩ = some (.int .i64 qk) ∧ w'.cell? ⟨b', off' + j * 7 + 2, none⟩ = some (.bool qy) ∧ w'.cell? ⟨b', off' + j * 7 + 3, none⟩ = some (.int .i64 qn) ∧ w'.cell? ⟨b', off' + j * 7 + 4, none⟩ = some (.string qt) ∧ w'.cell? ⟨b', off' + j * 7 + 5, none⟩ = some (.slice qa qla qca) ∧ w'.cell? ⟨b', off' + j * 7 + 6, none⟩ = some (.slice qb qlb qcb))
              (first | go_keep | (go_split_ands; refine ⟨?_, ?_, ?_, ?_, ?_, ?_, ?_, ?_, ?_, ?_, ?_, ?_, ?_, ?_, ?_, ?_⟩ <;> (refine (hb2.cell ?_).trans ?_ <;> assumption)))
              (first
                | (go_at_call 9; refine (HC.out.1 _ ?_).mono ?_; (first | exact HC.out.2.2.2.2.2.2 | exact HC.out.2.2.2.2.2.2.drew); rintro e W2 ⟨rfl, hb2⟩))
            have HB := Lib.hid (((Below.refl wr.heap.size wr).drew).trans hb2)
            clear hb2
            go_wp2_with fail
            go_roundg (mp.length - (j + 1))
            case rel =>
              obtain ⟨-, hstep, hk, hbox, hbox', hrest, hb⟩ := HC.out
              refine ⟨j + 1, by omega, by go_num, hbox.below HB.out hbox.lt, hbox'.below HB.out hbox'.lt, ?_, hb.trans (HB.out.mono hb.size)⟩
              rw [← hrest, hstep]; rfl
            case measure => have := HC.out.2.2.1; omega
      · have hjl : j = mp.length := by omega
        subst hjl
        have HX := Lib.hid (And.intro hrest hb)
        clear hrest hb hbox hbox' hk
        go_wp2_with fail
        go_ret
        have hRR : R = true := by
          rw [← HR.out, ← HX.out.1, List.drop_of_length_le (Nat.le_refl _), List.drop_of_length_le (by have := HL.out; omega)]
          rfl
        exact ⟨by rw [hRR]; rfl, HX.out.2⟩
  · have hlb : ((mp.length : Int) != (mp'.length : Int)) = true := by simp; omega
    have hRR : R = false := by rw [← HR.out]; exact sameM_len hlen
    subst hRR
    clear hlen HV HR ih
    go_enter Tryd.func9, Tryd.ntmps9
    go_wp2_with fail
    go_ret
    exact ⟨rfl, hb0 _ _⟩
set_option maxRecDepth 100000 in
set_option maxHeartbeats 4000000 in
/-- Values of unlike kinds, and kinds without parts. -/
theorem refsame_plain (k k' : Int) (y y' : Bool) (m m' : Int) (t t' : ByteArray) (l l' : List V) (mp mp' : List (ByteArray × V)) (a1 a2 a3 a4 : Value) (w : World) (h : k ≠ k' ∨ (k ≠ 4 ∧ k ≠ 5)) :
    Calls Tryd.prog 9 #[.agg #[.int .i64 k, .bool y, .int .i64 m, .string t, a1, a2], .agg #[.int .i64 k', .bool y', .int .i64 m', .string t', a3, a4]] w fun e w' => e = .returned (.bool (same (.mk k y m t l mp) (.mk k' y' m' t' l' mp'))) ∧ Below w.heap.size w w' := by
  have hb0 : ∀ o o', Below w.heap.size w ((w.alloc o).alloc o') := fun o o' => ((Below.refl _ _).alloc (Nat.le_refl _) _).alloc (by simp) _
  obtain ⟨R, hR⟩ : ∃ R, same (.mk k y m t l mp) (.mk k' y' m' t' l' mp') = R := ⟨_, rfl⟩
  rw [hR]
  rw [same] at hR
  by_cases hkk : k = k'
  · subst hkk
    have hk45 : k ≠ 4 ∧ k ≠ 5 := by
      rcases h with h | h
      · exact absurd rfl h
      · exact h
    rw [show (k == k) = true by simp, Bool.true_and] at hR
    have hnb : (k != k) = false := by simp
    by_cases k1 : k = 1
    · subst k1
      rw [if_pos rfl] at hR
      subst hR
      clear h hk45
      go_enter Tryd.func9, Tryd.ntmps9
      go_wp2_with fail
      go_ret
      exact ⟨by simp, hb0 _ _⟩
    rw [if_neg k1] at hR
    by_cases k2 : k = 2
    · subst k2
      rw [if_pos rfl] at hR
      subst hR
      clear h hk45
      go_enter Tryd.func9, Tryd.ntmps9
      go_wp2_with fail
      go_ret
      exact ⟨by simp, hb0 _ _⟩
    rw [if_neg k2] at hR
    by_cases k3 : k = 3
    · subst k3
      rw [if_pos rfl] at hR
      subst hR
      clear h hk45
      go_enter Tryd.func9, Tryd.ntmps9
      go_wp2_with fail
      go_ret
      exact ⟨by simp, hb0 _ _⟩
    rw [if_neg k3, if_neg hk45.1, if_neg hk45.2] at hR
    subst hR
    have e1 : (k == 1) = false := beq_eq_false_iff_ne.2 k1
    have e2 : (k == 2) = false := beq_eq_false_iff_ne.2 k2
    have e3 : (k == 3) = false := beq_eq_false_iff_ne.2 k3
    have e4 : (k == 4) = false := beq_eq_false_iff_ne.2 hk45.1
    have e5 : (k == 5) = false := beq_eq_false_iff_ne.2 hk45.2
    clear h hk45 k1 k2 k3
    go_enter Tryd.func9, Tryd.ntmps9
    go_wp2_with fail
    go_ret
    exact ⟨rfl, hb0 _ _⟩
  · have hnb : (k != k') = true := by simpa using hkk
    rw [show (k == k') = false by simpa using hkk, Bool.false_and] at hR
    subst hR
    clear h hkk
    go_enter Tryd.func9, Tryd.ntmps9
    go_wp2_with fail
    go_ret
    exact ⟨rfl, hb0 _ _⟩

theorem refsame_any : ∀ n, SameSaid n
  | 0 => fun v v' cs cs' B w hw _ _ _ _ => by have := wgt_pos v; omega
  | n + 1 => fun v v' cs cs' B w hw hn hv hv' hB => by
    have ih := refsame_any n
    cases v with
    | mk k y m t l mp =>
    cases v' with
    | mk k' y' m' t' l' mp' =>
    rw [wgt] at hw
    rw [Val] at hv hv'
    obtain ⟨A1, c1, A2, c2, rfl, ⟨h1c, h2c, ht, hl, hm, -, -⟩, hvl, hvm⟩ := hv
    obtain ⟨A3, c3, A4, c4, rfl, ⟨h3c, h4c, ht', hl', hm', -, -⟩, hvl', hvm'⟩ := hv'
    by_cases hkk : k = k'
    · subst hkk
      by_cases k4 : k = 4
      · subst k4
        have e : same (.mk 4 y m t l mp) (.mk 4 y' m' t' l' mp') = sameL l l' := by simp [same]
        rw [e]
        exact refsame_list n ih y y' m m' t t' l l' mp mp' A1 A2 A3 A4 c1 c2 c3 c4 B w (by omega) (by omega) hvl hvl' hl hl' h1c h3c hB
      by_cases k5 : k = 5
      · subst k5
        have e : same (.mk 5 y m t l mp) (.mk 5 y' m' t' l' mp') = sameM mp mp' := by simp [same]
        rw [e]
        exact refsame_map n ih y y' m m' t t' l l' mp mp' A1 A2 A3 A4 c1 c2 c3 c4 B w (by omega) (by omega) hvm hvm' hm hm' h2c h4c hB
      exact refsame_plain k k y y' m m' t t' l l' mp mp' _ _ _ _ w (.inr ⟨k4, k5⟩)
    · exact refsame_plain k k' y y' m m' t t' l l' mp mp' _ _ _ _ w (.inl hkk)
end Go.Proofs.YtpehddbpingobaaDoor

namespace Go.Proofs.YtpehddbpingobaaDoor
open Go.RowKit Go.Lib
set_option linter.unusedVariables false
set_option linter.unusedSimpArgs false

/-- One cell is put; all else that was there stays. -/
def Put (t : Addr) (v : Value) (w w' : World) : Prop :=
  w'.cell? t = some v ∧ (∀ p : Addr, p.block < w.heap.size → p ≠ t → w'.cell? p = w.cell? p) ∧ (∀ p : Addr, p.block < w.heap.size → w'.frozen? p = w.frozen? p) ∧ w.heap.size ≤ w'.heap.size ∧
  ∀ (B : Nat) (W : World), Below B W w → B ≤ t.block → B ≤ w.heap.size → Below B W w'
theorem none_any (w : World) : Calls Tryd.prog 26 #[] w fun e w' => e = .returned (.agg #[.int .i64 0, .int .i64 (-1), .string ⟨#[]⟩]) ∧ Below w.heap.size w w' := by
  go_enter Tryd.func26, Tryd.ntmps26
  go_wp2
  exact bodyPost_ret (v := .agg #[.int .i64 0, .int .i64 (-1), .string ⟨#[]⟩]) (by simp [results, Tryd.results26, go_sem]) rfl ⟨rfl, (Below.refl _ _).alloc (Nat.le_refl _) _⟩

theorem bcell {W w1 : World} (hb : Below W.heap.size W w1) : (∀ b o, b < W.heap.size → w1.cell? ⟨b, o, none⟩ = W.cell? ⟨b, o, none⟩) ∧ (∀ b o, b < W.heap.size → w1.frozen? ⟨b, o, none⟩ = W.frozen? ⟨b, o, none⟩) :=
  ⟨fun b o h => hb.cell (p := ⟨b, o, none⟩) h, fun b o h => hb.frozen (p := ⟨b, o, none⟩) h⟩

/-- The three cells of an answer of the kind E. -/
def EBlk (w : World) (g : Nat) (a b : Int) (s : ByteArray) : Prop :=
  (w.cell? ⟨g, 0, none⟩ = some (.int .i64 a) ∧ w.cell? ⟨g, 1, none⟩ = some (.int .i64 b) ∧ w.cell? ⟨g, 2, none⟩ = some (.string s)) ∧ (w.frozen? ⟨g, 0, none⟩ = false ∧ w.frozen? ⟨g, 1, none⟩ = false ∧ w.frozen? ⟨g, 2, none⟩ = false)
theorem EBlk.lt {w : World} {g : Nat} {a b : Int} {s : ByteArray} (h : EBlk w g a b s) : g < w.heap.size := lt_of_cell h.1.1
theorem EBlk.keep {w w' : World} {g : Nat} {a b : Int} {s : ByteArray} (h : EBlk w g a b s) (hc : ∀ o, w'.cell? ⟨g, o, none⟩ = w.cell? ⟨g, o, none⟩) (hf : ∀ o, w'.frozen? ⟨g, o, none⟩ = w.frozen? ⟨g, o, none⟩) : EBlk w' g a b s :=
  ⟨⟨(hc 0).trans h.1.1, (hc 1).trans h.1.2.1, (hc 2).trans h.1.2.2⟩, (hf 0).trans h.2.1, (hf 1).trans h.2.2.1, (hf 2).trans h.2.2.2⟩
theorem EBlk.put {w w' : World} {t : Addr} {v : Value} {g : Nat} {a b : Int} {s : ByteArray} (h : EBlk w g a b s) (hp : Put t v w w') (hne : g ≠ t.block) : EBlk w' g a b s :=
  h.keep (fun o => hp.2.1 _ h.lt (fun e => hne (by rw [← e]))) (fun o => hp.2.2.1 _ h.lt)
theorem EBlk.alloc {w : World} {g : Nat} {a b : Int} {s : ByteArray} (h : EBlk w g a b s) (o : Obj) : EBlk (w.alloc o) g a b s :=
  h.keep (fun _ => World.cell?_alloc_lt _ _ _ h.lt) (fun _ => World.frozen?_alloc_old _ _ _ (Nat.ne_of_lt h.lt))
theorem EBlk.below {w w' : World} {g : Nat} {a b : Int} {s : ByteArray} (h : EBlk w g a b s) {B : Nat} (hb : Below B w w') (hB : g < B) : EBlk w' g a b s :=
  h.keep (fun _ => hb.cell hB) (fun _ => hb.frozen hB)
theorem EBlk.drew {w : World} {g : Nat} {a b : Int} {s : ByteArray} (h : EBlk w g a b s) : EBlk w.drew g a b s := h
theorem EBlk.other {w : World} {g : Nat} {a b : Int} {s : ByteArray} (h : EBlk w g a b s) {p : Addr} (hne : p.block ≠ g) (v : Value) : EBlk (w.setCell p v) g a b s :=
  h.keep (fun _ => World.cell?_setCell_far _ _ _ _ hne) (fun _ => World.frozen?_setCell _ _ _ _)
theorem EBlk.set0 {w : World} {g : Nat} {a b : Int} {s : ByteArray} (h : EBlk w g a b s) (x : Int) : EBlk (w.setCell ⟨g, 0, none⟩ (.int .i64 x)) g x b s :=
  ⟨⟨World.cell?_setCell_same _ _ _ h.1.1, by rw [World.cell?_setCell_other _ _ _ _ (by simp)]; exact h.1.2.1, by rw [World.cell?_setCell_other _ _ _ _ (by simp)]; exact h.1.2.2⟩, by simp [h.2.1], by simp [h.2.2.1], by simp [h.2.2.2]⟩
theorem EBlk.set1 {w : World} {g : Nat} {a b : Int} {s : ByteArray} (h : EBlk w g a b s) (x : Int) : EBlk (w.setCell ⟨g, 1, none⟩ (.int .i64 x)) g a x s :=
  ⟨⟨by rw [World.cell?_setCell_other _ _ _ _ (by simp)]; exact h.1.1, World.cell?_setCell_same _ _ _ h.1.2.1, by rw [World.cell?_setCell_other _ _ _ _ (by simp)]; exact h.1.2.2⟩, by simp [h.2.1], by simp [h.2.2.1], by simp [h.2.2.2]⟩
theorem EBlk.set2 {w : World} {g : Nat} {a b : Int} {s : ByteArray} (h : EBlk w g a b s) (x : ByteArray) : EBlk (w.setCell ⟨g, 2, none⟩ (.string x)) g a b x :=
  ⟨⟨by rw [World.cell?_setCell_other _ _ _ _ (by simp)]; exact h.1.1, by rw [World.cell?_setCell_other _ _ _ _ (by simp)]; exact h.1.2.1, World.cell?_setCell_same _ _ _ h.1.2.2⟩, by simp [h.2.1], by simp [h.2.2.1], by simp [h.2.2.2]⟩
theorem EBlk.new (w : World) (a b : Int) (s : ByteArray) : EBlk (w.alloc (.cells #[.int .i64 a, .int .i64 b, .string s] 29)) w.heap.size a b s :=
  ⟨⟨by simp, by simp, by simp⟩, by simp, by simp, by simp⟩

end Go.Proofs.YtpehddbpingobaaDoor

namespace Go.Proofs.YtpehddbpingobaaDoor
open Go.RowKit Go.Lib
set_option linter.unusedVariables false
set_option linter.unusedSimpArgs false

theorem Only.refl (g : Nat) (w : World) : Only g w w := ⟨Nat.le_refl _, fun _ _ _ => rfl, fun _ _ h _ _ => h⟩
theorem Only.step {g : Nat} {w w' w2 : World} (h : Only g w w') (hb : Below w'.heap.size w' w2) : Only g w w2 :=
  ⟨Nat.le_trans h.1 hb.size, fun k hk hg => (hb.block k (Nat.lt_of_lt_of_le hk h.1)).trans (h.2.1 k hk hg), fun B W h1 h2 h3 => (h.2.2 B W h1 h2 h3).trans (hb.mono (Nat.le_trans h3 h.1))⟩
theorem Only.put {g : Nat} {w w' : World} (h : Only g w w') (q : Nat) (v : Value) : Only g w (w'.setCell ⟨g, q, none⟩ v) :=
  ⟨by simpa [World.setCell] using h.1, fun k hk hg => (Below.heap_setCell w' ⟨g, q, none⟩ v k (by simpa using hg)).trans (h.2.1 k hk hg), fun B W h1 h2 h3 => (h.2.2 B W h1 h2 h3).setCell (by simpa using h2) _⟩
theorem Only.cell {g : Nat} {w w' : World} (h : Only g w w') {p : Addr} (hp : p.block < w.heap.size) (hg : p.block ≠ g) : w'.cell? p = w.cell? p := World.cell?_of_block (h.2.1 _ hp hg)

end Go.Proofs.YtpehddbpingobaaDoor

namespace Go.Proofs.YtpehddbpingobaaDoor
open Go.RowKit Go.Lib

theorem itoaB_small (n : Nat) (h : n ≤ 1000000000) : (itoaB n).size ≤ 1000 := by
  have := Lib.itoa_length_le (n : Int) (by omega) (by omega)
  unfold itoaB
  simp only [ByteArray.size, List.size_toArray]
  omega
end Go.Proofs.YtpehddbpingobaaDoor

namespace Go.Proofs.YtpehddbpingobaaDoor
open Go.RowKit Go.Lib
set_option linter.unusedVariables false
set_option linter.unusedSimpArgs false

/-- The path of an error, each part with / ahead. -/
def pth : List ByteArray → ByteArray
  | [] => ⟨#[]⟩
  | s :: r => (⟨#[47]⟩ ++ s) ++ pth r
def refCode : Option (List ByteArray × Int) → Int
  | none => 0
  | some (_, c) => c
def refPath : Option (List ByteArray × Int) → ByteArray
  | none => ⟨#[]⟩
  | some (p, _) => pth p
def RefAns (r : Option (List ByteArray × Int)) (w : World) (e : Ending) (w' : World) : Prop := e = .returned (.agg #[.int .i64 (refCode r), .int .i64 (-1), .string (refPath r)]) ∧ Below w.heap.size w w'

def GoodR (d : Nat) (r : Option (List ByteArray × Int)) : Prop := ∀ p c, r = some (p, c) → c ≠ 0 ∧ (pth p).size ≤ d * 1000050
theorem chkL_good {d : Nat} {f : V → Option (List ByteArray × Int)} : ∀ (l : List V) (i : Nat), (∀ v ∈ l, GoodR d (f v)) → i + l.length ≤ 1000000 → GoodR (d + 1) (chkL f i l)
  | [], i, _, _ => fun p c h => by simp [chkL] at h
  | v :: r, i, hf, hi => fun p c h => by
    rw [chkL] at h
    cases hv : f v with
    | none => rw [hv] at h; exact chkL_good r (i + 1) (fun x hx => hf x (List.mem_cons_of_mem _ hx)) (by simp only [List.length_cons] at hi; omega) p c h
    | some pc =>
      obtain ⟨p', c'⟩ := pc
      rw [hv] at h
      simp only [Option.some.injEq, Prod.mk.injEq] at h
      obtain ⟨rfl, rfl⟩ := h
      have := hf v (List.mem_cons_self ..) p' c' hv
      have h1 := itoaB_small i (by simp only [List.length_cons] at hi; omega)
      refine ⟨this.1, ?_⟩
      have h47 : (ByteArray.mk #[47]).size = 1 := rfl
      rw [pth, ByteArray.size_append, ByteArray.size_append, h47, Nat.succ_mul]
      omega
theorem chkKey_ne {s : ByteArray} {q : Option ByteArray} {c : Int} (h : chkKey s q = some c) : c ≠ 0 := by
  unfold chkKey at h
  split at h
  · injection h with h; omega
  · split at h
    · cases h
    · split at h
      · injection h with h; omega
      · split at h
        · injection h with h; omega
        · cases h
theorem chkM_good {d : Nat} {f : V → Option (List ByteArray × Int)} : ∀ (l : List (ByteArray × V)) (q : Option ByteArray), (∀ x ∈ l, x.1.size ≤ 1000000 ∧ GoodR d (f x.2)) → GoodR (d + 1) (chkM f q l)
  | [], q, _ => fun p c h => by simp [chkM] at h
  | (s, v) :: r, q, hf => fun p c h => by
    have h47 : (ByteArray.mk #[47]).size = 1 := rfl
    have h0 : (ByteArray.mk #[]).size = 0 := rfl
    have hs := hf (s, v) (List.mem_cons_self ..)
    rw [chkM] at h
    cases hk : chkKey s q with
    | some c' =>
      rw [hk] at h
      simp only [Option.some.injEq, Prod.mk.injEq] at h
      obtain ⟨rfl, rfl⟩ := h
      refine ⟨chkKey_ne hk, ?_⟩
      rw [pth, pth, ByteArray.size_append, ByteArray.size_append, h47, h0, Nat.succ_mul]
      have := hs.1
      dsimp only at this
      omega
    | none =>
      rw [hk] at h
      cases hv : f v with
      | none => rw [hv] at h; exact chkM_good r (some s) (fun x hx => hf x (List.mem_cons_of_mem _ hx)) p c h
      | some pc =>
        obtain ⟨p', c'⟩ := pc
        rw [hv] at h
        simp only [Option.some.injEq, Prod.mk.injEq] at h
        obtain ⟨rfl, rfl⟩ := h
        have := hs.2 p' c' hv
        refine ⟨this.1, ?_⟩
        rw [pth, ByteArray.size_append, ByteArray.size_append, h47, Nat.succ_mul]
        have := hs.1
        dsimp only at this
        omega
theorem VOkL.mem {M : Nat} : ∀ {l : List V}, VOkL M l → ∀ v ∈ l, VOk M v
  | v :: r, h, x, hx => by
    rcases List.mem_cons.1 hx with rfl | hx
    · exact h.1
    · exact VOkL.mem h.2 x hx
theorem VOkM.mem {M : Nat} : ∀ {l : List (ByteArray × V)}, VOkM M l → ∀ x ∈ l, x.1.size ≤ M ∧ VOk M x.2
  | (s, v) :: r, h, x, hx => by
    rcases List.mem_cons.1 hx with rfl | hx
    · exact ⟨h.1, h.2.1⟩
    · exact VOkM.mem h.2.2 x hx
theorem chkHead_good {D : Nat} {fl : List V → Option (List ByteArray × Int)} {fm : List (ByteArray × V) → Option (List ByteArray × Int)} : ∀ v, (∀ k y n t l m, v = .mk k y n t l m → GoodR D (fl l) ∧ GoodR D (fm m)) → GoodR D (chkHead fl fm v)
  | .mk k y n t l m, h => fun p c hh => by
    have h0 : (pth []).size = 0 := rfl
    obtain ⟨h1, h2⟩ := h k y n t l m rfl
    have hz : ∀ c', some (([] : List ByteArray), c') = some (p, c) → c' ≠ 0 → c ≠ 0 ∧ (pth p).size ≤ D * 1000050 := fun c' e hc => by
      injection e with e; injection e with e1 e2; subst e1 e2; exact ⟨hc, by omega⟩
    rw [chkHead] at hh
    by_cases k0 : k = 0 ∨ k = 1
    · rw [if_pos k0] at hh; cases hh
    rw [if_neg k0] at hh
    by_cases k2 : k = 2
    · rw [if_pos k2] at hh
      by_cases hn : n < -9007199254740991 ∨ 9007199254740991 < n
      · rw [if_pos hn] at hh; exact hz 4 hh (by omega)
      · rw [if_neg hn] at hh; cases hh
    rw [if_neg k2] at hh
    by_cases k3 : k = 3
    · rw [if_pos k3] at hh
      by_cases hn : validB t = true
      · rw [if_pos hn] at hh; cases hh
      · rw [if_neg hn] at hh; exact hz 5 hh (by omega)
    rw [if_neg k3] at hh
    by_cases k4 : k = 4
    · rw [if_pos k4] at hh; exact h1 p c hh
    rw [if_neg k4] at hh
    by_cases k5 : k = 5
    · rw [if_pos k5] at hh; exact h2 p c hh
    rw [if_neg k5] at hh
    exact hz 9 hh (by omega)
theorem chk_good : ∀ (d : Nat) (v : V), VOk 1000000 v → GoodR d (chk d v)
  | 0, v, h => by
    rw [chk]
    exact chkHead_good v fun k y n t l m e => ⟨fun p c h => by injection h with h; injection h with e1 e2; subst e1 e2; exact ⟨by omega, by show (pth []).size ≤ _; exact Nat.zero_le _⟩, fun p c h => by injection h with h; injection h with e1 e2; subst e1 e2; exact ⟨by omega, by show (pth []).size ≤ _; exact Nat.zero_le _⟩⟩
  | d + 1, v, h => by
    rw [chk]
    refine chkHead_good v fun k y n t l m e => ?_
    subst e
    obtain ⟨ht, hl, hm, hvl, hvm⟩ := h
    exact ⟨chkL_good l 0 (fun x hx => chk_good d x (hvl.mem x hx)) (by omega), chkM_good m none (fun x hx => ⟨(hvm.mem x hx).1, chk_good d x.2 (hvm.mem x hx).2⟩)⟩

set_option maxRecDepth 100000 in
set_option maxHeartbeats 4000000 in
/-- The kinds without parts, at whatever depth; and those that are too deep. -/
theorem refcheck_plain (fl : List V → Option (List ByteArray × Int)) (fm : List (ByteArray × V) → Option (List ByteArray × Int)) (k : Int) (y : Bool) (n : Int) (t : ByteArray) (l : List V) (m : List (ByteArray × V)) (a a' : Value) (dp : Int) (w : World) (ht : t.size ≤ 1000000)
    (hk : (k ≠ 4 ∧ k ≠ 5) ∨ (dp = 20 ∧ fl l = some ([], 3) ∧ fm m = some ([], 3))) :
    Calls Tryd.prog 15 #[.agg #[.int .i64 k, .bool y, .int .i64 n, .string t, a, a'], .int .i64 dp] w (RefAns (chkHead fl fm (.mk k y n t l m)) w) := by
  have hb0 : Below w.heap.size w ((w.alloc (.cells #[.int .i64 k, .bool y, .int .i64 n, .string t, a, a'] 25)).alloc (.cells #[.int .i64 0, .int .i64 0, .string ⟨#[]⟩] 29)) := ((Below.refl _ _).alloc (Nat.le_refl _) _).alloc (by simp) _
  have hE0 : EBlk ((w.alloc (.cells #[.int .i64 k, .bool y, .int .i64 n, .string t, a, a'] 25)).alloc (.cells #[.int .i64 0, .int .i64 0, .string ⟨#[]⟩] 29)) (w.heap.size + 1) 0 0 ⟨#[]⟩ := by
    have := EBlk.new (w.alloc (.cells #[.int .i64 k, .bool y, .int .i64 n, .string t, a, a'] 25)) 0 0 ⟨#[]⟩
    simpa using this
  have fin : ∀ (W : World) (r : Option (List ByteArray × Int)), Below w.heap.size w W → chkHead fl fm (.mk k y n t l m) = r → RefAns (chkHead fl fm (.mk k y n t l m)) w (.returned (.agg #[.int .i64 (refCode r), .int .i64 (-1), .string (refPath r)])) W := fun W r hW hr => by rw [hr]; exact ⟨rfl, hW⟩
  obtain ⟨R, hR⟩ : ∃ R, chkHead fl fm (.mk k y n t l m) = R := ⟨_, rfl⟩
  rw [hR] at fin ⊢
  have FIN := Lib.hid fin
  have HR := Lib.hid hR
  have H0 := Lib.hid (And.intro hb0 hE0)
  clear fin hR hb0 hE0
  by_cases e0 : k = 0
  · subst e0
    go_enter Tryd.func15, Tryd.ntmps15
    go_wp2_with fail
    refine (none_any _).mono ?_
    rintro e W ⟨rfl, hb⟩
    obtain ⟨⟨x0, x1, x2⟩, y0, y1, y2⟩ := H0.out.2.below hb (by simp)
    have hz : w.heap.size + 1 < W.heap.size := lt_of_cell x0
    have HB := Lib.hid (H0.out.1.trans (hb.mono (by simp; omega)))
    clear hb
    go_wp2_with fail
    exact bodyPost_ret (v := .agg #[.int .i64 0, .int .i64 (-1), .string ⟨#[]⟩]) (by simp [results, Tryd.results15, go_sem, x0, x1, x2, y0, y1, y2]) rfl (FIN.out _ none (((HB.out.setCell (by simp) _).setCell (by simp) _).setCell (by simp) _) (by rw [← HR.out]; simp [chkHead]))
  by_cases e1 : k = 1
  · subst e1
    go_enter Tryd.func15, Tryd.ntmps15
    go_wp2_with fail
    refine (none_any _).mono ?_
    rintro e W ⟨rfl, hb⟩
    obtain ⟨⟨x0, x1, x2⟩, y0, y1, y2⟩ := H0.out.2.below hb (by simp)
    have hz : w.heap.size + 1 < W.heap.size := lt_of_cell x0
    have HB := Lib.hid (H0.out.1.trans (hb.mono (by simp; omega)))
    clear hb
    go_wp2_with fail
    exact bodyPost_ret (v := .agg #[.int .i64 0, .int .i64 (-1), .string ⟨#[]⟩]) (by simp [results, Tryd.results15, go_sem, x0, x1, x2, y0, y1, y2]) rfl (FIN.out _ none (((HB.out.setCell (by simp) _).setCell (by simp) _).setCell (by simp) _) (by rw [← HR.out]; simp [chkHead]))
  by_cases e2 : k = 2
  · subst e2
    by_cases g2 : 9007199254740991 < n
    · go_enter Tryd.func15, Tryd.ntmps15
      go_wp2_with fail
      refine (err_any 4 _).mono ?_
      rintro e W ⟨rfl, hb⟩
      obtain ⟨⟨x0, x1, x2⟩, y0, y1, y2⟩ := H0.out.2.below hb (by simp)
      have hz : w.heap.size + 1 < W.heap.size := lt_of_cell x0
      have HB := Lib.hid (H0.out.1.trans (hb.mono (by simp; omega)))
      clear hb
      go_wp2_with fail
      exact bodyPost_ret (v := .agg #[.int .i64 4, .int .i64 (-1), .string ⟨#[]⟩]) (by simp [results, Tryd.results15, go_sem, x0, x1, x2, y0, y1, y2]) rfl (FIN.out _ (some ([], 4)) (((HB.out.setCell (by simp) _).setCell (by simp) _).setCell (by simp) _) (by rw [← HR.out]; simp [chkHead, g2]))
    have g2' : decide (9007199254740991 < n) = false := decide_eq_false g2
    by_cases g1 : n < -9007199254740991
    · go_enter Tryd.func15, Tryd.ntmps15
      go_wp2_with fail
      refine (err_any 4 _).mono ?_
      rintro e W ⟨rfl, hb⟩
      obtain ⟨⟨x0, x1, x2⟩, y0, y1, y2⟩ := H0.out.2.below hb (by simp)
      have hz : w.heap.size + 1 < W.heap.size := lt_of_cell x0
      have HB := Lib.hid (H0.out.1.trans (hb.mono (by simp; omega)))
      clear hb
      go_wp2_with fail
      exact bodyPost_ret (v := .agg #[.int .i64 4, .int .i64 (-1), .string ⟨#[]⟩]) (by simp [results, Tryd.results15, go_sem, x0, x1, x2, y0, y1, y2]) rfl (FIN.out _ (some ([], 4)) (((HB.out.setCell (by simp) _).setCell (by simp) _).setCell (by simp) _) (by rw [← HR.out]; simp [chkHead, g1]))
    · go_enter Tryd.func15, Tryd.ntmps15
      go_wp2_with fail
      refine (none_any _).mono ?_
      rintro e W ⟨rfl, hb⟩
      obtain ⟨⟨x0, x1, x2⟩, y0, y1, y2⟩ := H0.out.2.below hb (by simp)
      have hz : w.heap.size + 1 < W.heap.size := lt_of_cell x0
      have HB := Lib.hid (H0.out.1.trans (hb.mono (by simp; omega)))
      clear hb
      go_wp2_with fail
      exact bodyPost_ret (v := .agg #[.int .i64 0, .int .i64 (-1), .string ⟨#[]⟩]) (by simp [results, Tryd.results15, go_sem, x0, x1, x2, y0, y1, y2]) rfl (FIN.out _ none (((HB.out.setCell (by simp) _).setCell (by simp) _).setCell (by simp) _) (by rw [← HR.out, chkHead, if_neg (by omega), if_pos rfl, if_neg (by omega)]))
  by_cases e3 : k = 3
  · subst e3
    have HU := Lib.hid (fun W => utf8_any t W (by omega))
    cases hB' : validB t
    · rw [hB'] at HU
      have HV := Lib.hid hB'
      clear hB'
      go_enter Tryd.func15, Tryd.ntmps15
      go_wp2_with fail
      refine (HU.out _).mono ?_
      rintro e W0 ⟨rfl, rfl⟩
      go_wp2_with fail
      refine (err_any 5 _).mono ?_
      rintro e W ⟨rfl, hb⟩
      obtain ⟨⟨x0, x1, x2⟩, y0, y1, y2⟩ := H0.out.2.below hb (by simp)
      have hz : w.heap.size + 1 < W.heap.size := lt_of_cell x0
      have HB := Lib.hid (H0.out.1.trans (hb.mono (by simp; omega)))
      clear hb
      go_wp2_with fail
      exact bodyPost_ret (v := .agg #[.int .i64 5, .int .i64 (-1), .string ⟨#[]⟩]) (by simp [results, Tryd.results15, go_sem, x0, x1, x2, y0, y1, y2]) rfl (FIN.out _ (some ([], 5)) (((HB.out.setCell (by simp) _).setCell (by simp) _).setCell (by simp) _) (by rw [← HR.out]; simp [chkHead, HV.out]))
    · rw [hB'] at HU
      have HV := Lib.hid hB'
      clear hB'
      go_enter Tryd.func15, Tryd.ntmps15
      go_wp2_with fail
      refine (HU.out _).mono ?_
      rintro e W0 ⟨rfl, rfl⟩
      go_wp2_with fail
      refine (none_any _).mono ?_
      rintro e W ⟨rfl, hb⟩
      obtain ⟨⟨x0, x1, x2⟩, y0, y1, y2⟩ := H0.out.2.below hb (by simp)
      have hz : w.heap.size + 1 < W.heap.size := lt_of_cell x0
      have HB := Lib.hid (H0.out.1.trans (hb.mono (by simp; omega)))
      clear hb
      go_wp2_with fail
      exact bodyPost_ret (v := .agg #[.int .i64 0, .int .i64 (-1), .string ⟨#[]⟩]) (by simp [results, Tryd.results15, go_sem, x0, x1, x2, y0, y1, y2]) rfl (FIN.out _ none (((HB.out.setCell (by simp) _).setCell (by simp) _).setCell (by simp) _) (by rw [← HR.out]; simp [chkHead, HV.out]))
  by_cases e4 : k = 4
  · subst e4
    obtain ⟨rfl, hfl, hfm⟩ : dp = 20 ∧ fl l = some ([], 3) ∧ fm m = some ([], 3) := by
      rcases hk with h | h
      · exact absurd rfl h.1
      · exact h
    have HF := Lib.hid hfl
    clear hfl hfm hk
    go_enter Tryd.func15, Tryd.ntmps15
    go_wp2_with fail
    refine (err_any 3 _).mono ?_
    rintro e W ⟨rfl, hb⟩
    obtain ⟨⟨x0, x1, x2⟩, y0, y1, y2⟩ := H0.out.2.below hb (by simp)
    have hz : w.heap.size + 1 < W.heap.size := lt_of_cell x0
    have HB := Lib.hid (H0.out.1.trans (hb.mono (by simp; omega)))
    clear hb
    go_wp2_with fail
    exact bodyPost_ret (v := .agg #[.int .i64 3, .int .i64 (-1), .string ⟨#[]⟩]) (by simp [results, Tryd.results15, go_sem, x0, x1, x2, y0, y1, y2]) rfl (FIN.out _ (some ([], 3)) (((HB.out.setCell (by simp) _).setCell (by simp) _).setCell (by simp) _) (by rw [← HR.out]; simp [chkHead, HF.out]))
  by_cases e5 : k = 5
  · subst e5
    obtain ⟨rfl, hfl, hfm⟩ : dp = 20 ∧ fl l = some ([], 3) ∧ fm m = some ([], 3) := by
      rcases hk with h | h
      · exact absurd rfl h.2
      · exact h
    have HF := Lib.hid hfm
    clear hfl hfm hk
    go_enter Tryd.func15, Tryd.ntmps15
    go_wp2_with fail
    refine (err_any 3 _).mono ?_
    rintro e W ⟨rfl, hb⟩
    obtain ⟨⟨x0, x1, x2⟩, y0, y1, y2⟩ := H0.out.2.below hb (by simp)
    have hz : w.heap.size + 1 < W.heap.size := lt_of_cell x0
    have HB := Lib.hid (H0.out.1.trans (hb.mono (by simp; omega)))
    clear hb
    go_wp2_with fail
    exact bodyPost_ret (v := .agg #[.int .i64 3, .int .i64 (-1), .string ⟨#[]⟩]) (by simp [results, Tryd.results15, go_sem, x0, x1, x2, y0, y1, y2]) rfl (FIN.out _ (some ([], 3)) (((HB.out.setCell (by simp) _).setCell (by simp) _).setCell (by simp) _) (by rw [← HR.out]; simp [chkHead, HF.out]))
  · have k0 : (k == 0) = false := beq_eq_false_iff_ne.2 e0
    have k1 : (k == 1) = false := beq_eq_false_iff_ne.2 e1
    have k2 : (k == 2) = false := beq_eq_false_iff_ne.2 e2
    have k3 : (k == 3) = false := beq_eq_false_iff_ne.2 e3
    have k4 : (k == 4) = false := beq_eq_false_iff_ne.2 e4
    have k5 : (k == 5) = false := beq_eq_false_iff_ne.2 e5
    have HK : Hid (chkHead fl fm (.mk k y n t l m) = some ([], 9)) := by
      show _ = _
      rw [chkHead, if_neg (by omega), if_neg e2, if_neg e3, if_neg e4, if_neg e5]
    clear hk e0 e1 e2 e3 e4 e5
    go_enter Tryd.func15, Tryd.ntmps15
    go_wp2_with fail
    refine (err_any 9 _).mono ?_
    rintro e W ⟨rfl, hb⟩
    obtain ⟨⟨x0, x1, x2⟩, y0, y1, y2⟩ := H0.out.2.below hb (by simp)
    have hz : w.heap.size + 1 < W.heap.size := lt_of_cell x0
    have HB := Lib.hid (H0.out.1.trans (hb.mono (by simp; omega)))
    clear hb
    go_wp2_with fail
    exact bodyPost_ret (v := .agg #[.int .i64 9, .int .i64 (-1), .string ⟨#[]⟩]) (by simp [results, Tryd.results15, go_sem, x0, x1, x2, y0, y1, y2]) rfl (FIN.out _ (some ([], 9)) (((HB.out.setCell (by simp) _).setCell (by simp) _).setCell (by simp) _) (by rw [← HR.out]; exact HK.out))
end Go.Proofs.YtpehddbpingobaaDoor

namespace Go.Proofs.YtpehddbpingobaaDoor
open Go.RowKit Go.Lib
set_option linter.unusedVariables false
set_option linter.unusedSimpArgs false

def RefSaid (d : Nat) : Prop := ∀ (v : V) (cs : Array Value) (B : Nat) (w : World), Val w (· < B) 1000000 v cs → B ≤ w.heap.size → Calls Tryd.prog 15 #[.agg cs, .int .i64 (20 - (d : Int))] w (RefAns (chk d v) w)
def RefRelL (w : World) (f : V → Option (List ByteArray × Int)) (l : List V) (box : Array Value) (k : Nat) (i : Value) (wr : World) : Prop :=
  ∃ j : Nat, j + k = l.length ∧ i = .int .i64 j ∧ Whole wr w.heap.size 25 box ∧ EBlk wr (w.heap.size + 1) 0 0 ⟨#[]⟩ ∧ chkL f j (l.drop j) = chkL f 0 l ∧ Below w.heap.size w wr
theorem inPath_pth (s : ByteArray) (c : Int) (p : List ByteArray) (h : c ≠ 0) : inPath s c (pth p) = pth (s :: p) := by rw [inPath, if_neg h, pth]

set_option maxRecDepth 100000 in
set_option maxHeartbeats 4000000 in
theorem refcheck_list (d : Nat) (hd : d + 1 ≤ 20) (ih : RefSaid d) (y : Bool) (n : Int) (t : ByteArray) (l : List V) (m : List (ByteArray × V)) (A A' : Option Addr) (c c' B : Nat) (w : World) (hv : ValL w (· < B) 1000000 l A 0) (hlen : l.length ≤ 1000000) (hcap : l.length ≤ c) (hB : B ≤ w.heap.size) :
    Calls Tryd.prog 15 #[.agg #[.int .i64 4, .bool y, .int .i64 n, .string t, .slice A l.length c, .slice A' m.length c'], .int .i64 (20 - ((d + 1 : Nat) : Int))] w (RefAns (chkL (chk d) 0 l) w) := by
  obtain ⟨dp, hdp⟩ : ∃ dp : Int, dp = 20 - ((d + 1 : Nat) : Int) := ⟨_, rfl⟩
  rw [← hdp]
  have hdp1 : dp + 1 = 20 - (d : Int) := by omega
  have hne : (dp == 20) = false := beq_eq_false_iff_ne.2 (by omega)
  have hd0 : 0 ≤ dp := by omega
  have hd20 : dp < 20 := by omega
  obtain ⟨R, hR⟩ : ∃ R, chkL (chk d) 0 l = R := ⟨_, rfl⟩
  rw [hR]
  have HR := Lib.hid (And.intro hR hdp1)
  have HV := Lib.hid hv
  clear hR hv hdp hdp1
  go_enter Tryd.func15, Tryd.ntmps15
  go_wp2_with fail
  go_loopg [43] l.length (RefRelL w (chk d) l #[.int .i64 4, .bool y, .int .i64 n, .string t, .slice A l.length c, .slice A' m.length c'])
  case atStart =>
    refine ⟨0, by simp, rfl, (Whole.made w _ _).alloc _, ?_, rfl, ((Below.refl _ _).alloc (Nat.le_refl _) _).alloc (by simp) _⟩
    have := EBlk.new (w.alloc (.cells #[.int .i64 4, .bool y, .int .i64 n, .string t, .slice A l.length c, .slice A' m.length c'] 25)) 0 0 ⟨#[]⟩
    simpa using this
  case round =>
    obtain ⟨j, hk, rfl, hbox, hE, hrest, hb⟩ := hrel
    have b4 := hbox.cell 4
    simp at b4
    have hz : w.heap.size + 1 < wr.heap.size := hE.lt
    by_cases hlt : j < l.length
    · obtain ⟨b, off, cs, rfl, hbl, hcell, hval⟩ := HV.out.get j hlt
      have hcell' : ∀ q, q < 6 → wr.cell? ⟨b, off + j * 6 + q, none⟩ = cs[q]? := fun q hq => (hb.cell (by simp; omega)).trans (by simpa using hcell q hq)
      obtain ⟨cj, rfl⟩ := hval.c6
      obtain ⟨x0, x1, x2, x3, x4, x5⟩ := cells6 hcell' rfl
      have hcall := ih l[j] cj.arr B wr (hval.keep (fun p hp => hb.cell (Nat.lt_of_lt_of_le hp hB)) (fun _ h => h)) (Nat.le_trans hB hb.size)
      rw [← HR.out.2] at hcall
      have hgood := chk_good d l[j] hval.ok
      have hj1 : (j : Int) < (l.length : Int) := by omega
      have HC := Lib.hid hcall
      have HX := Lib.hid (And.intro hk (And.intro hbox (And.intro hE (And.intro hrest hb))))
      clear hcall hval hcell hcell' hk hbox hE hrest hb
      obtain ⟨jk, jy, jn, jt, ja, jla, jca, jb, jlb, jcb⟩ := cj
      dsimp only [C6.arr] at x0 x1 x2 x3 x4 x5 HC
      cases hcj : chk d l[j] with
      | none =>
        rw [hcj] at HC
        have HJ := Lib.hid hcj
        clear hcj hgood
        go_wp2_with fail
        refine HC.out.mono ?_
        rintro e W ⟨rfl, hb2⟩
        have HB := Lib.hid hb2
        clear hb2 x0 x1 x2 x3 x4 x5 HC
        simp only [refCode, refPath]
        go_wp2_with fail
        go_roundg (l.length - (j + 1))
        case rel =>
          obtain ⟨hk, hbox, hE, hrest, hb⟩ := HX.out
          have hb3 := HB.out.alloc HB.out.size (.cells #[.int .i64 0, .int .i64 (-1), .string ⟨#[]⟩] 29)
          refine ⟨j + 1, by omega, by go_num, hbox.below hb3 hbox.lt, hE.below hb3 hE.lt, ?_, hb.trans (hb3.mono hb.size)⟩
          rw [← hrest, List.drop_eq_getElem_cons hlt, chkL, HJ.out]
        case measure => have := HX.out.1; omega
      | some pc =>
        obtain ⟨p, ec⟩ := pc
        rw [hcj] at HC
        have hg := hgood p ec hcj
        have hec : (ec != 0) = true := by simpa using hg.1
        have hps : (pth p).size ≤ 1000000000 := by have := hg.2; have : d * 1000050 ≤ 20 * 1000050 := Nat.mul_le_mul_right _ (by omega); omega
        have HJ := Lib.hid (And.intro hcj hg.1)
        clear hcj hgood hg
        obtain ⟨pp, hpp⟩ : ∃ pp, pth p = pp := ⟨_, rfl⟩
        unfold RefAns at HC
        simp only [refCode, refPath] at HC
        rw [hpp] at HC hps
        have HP := Lib.hid hpp
        clear hpp
        go_wp2_with fail
        refine HC.out.mono ?_
        rintro e W ⟨rfl, hb2⟩
        obtain ⟨r0, r1, r2⟩ := (HX.out.2.2.1.below hb2 HX.out.2.2.1.lt).1
        obtain ⟨s0, s1, s2⟩ := (HX.out.2.2.1.below hb2 HX.out.2.2.1.lt).2
        have hzW : w.heap.size + 1 < W.heap.size := lt_of_cell r0
        have HB := Lib.hid hb2
        clear hb2 x0 x1 x2 x3 x4 x5 HC
        go_wp2_with fail
        obtain ⟨W2, hW2⟩ : ∃ W2, W.alloc (.cells #[.int .i64 ec, .int .i64 (-1), .string pp] 29) = W2 := ⟨_, rfl⟩
        rw [hW2]
        have hbW2 : Below W.heap.size W W2 := hW2 ▸ (Below.refl _ _).alloc (Nat.le_refl _) _
        have hE2 : EBlk W2 W.heap.size ec (-1) pp := hW2 ▸ EBlk.new W ec (-1) pp
        obtain ⟨e0, e1, e2⟩ := hE2.1
        have q0 := (hbW2.cell (p := ⟨w.heap.size + 1, 0, none⟩) hzW).trans r0
        have q1 := (hbW2.cell (p := ⟨w.heap.size + 1, 1, none⟩) hzW).trans r1
        have q2 := (hbW2.cell (p := ⟨w.heap.size + 1, 2, none⟩) hzW).trans r2
        have u0 := (hbW2.frozen (p := ⟨w.heap.size + 1, 0, none⟩) hzW).trans s0
        have u1 := (hbW2.frozen (p := ⟨w.heap.size + 1, 1, none⟩) hzW).trans s1
        have u2 := (hbW2.frozen (p := ⟨w.heap.size + 1, 2, none⟩) hzW).trans s2
        have hz2 : W.heap.size < W2.heap.size := hE2.lt
        have hzr2 : w.heap.size + 1 < W2.heap.size := by omega
        have HW2 := Lib.hid hbW2
        clear hbW2 hE2 hW2 r0 r1 r2 s0 s1 s2
        go_region_held3 (fun w' => w'.cell? ⟨W.heap.size, 0, none⟩ = some (.int .i64 ec) ∧ w'.cell? ⟨W.heap.size, 1, none⟩ = some (.int .i64 (-1)) ∧ w'.cell? ⟨W.heap.size, 2, none⟩ = some (.string pp)) (go_keep)
          (first
            | (go_at_call 30; refine (digits_any j _ (by omega)).mono ?_; rintro e W5 ⟨rfl, rfl⟩)
            | (go_at_call 29; refine (in_any (itoaB j) pp ec (-1) _ (Nat.le_trans (itoaB_small j (by omega)) (by omega)) hps).mono ?_; rintro e W6 ⟨rfl, hb6⟩
               have e0' := (hb6.cell (p := ⟨W.heap.size, 0, none⟩) hz2).trans e0
               have e1' := (hb6.cell (p := ⟨W.heap.size, 1, none⟩) hz2).trans e1
               have e2' := (hb6.cell (p := ⟨W.heap.size, 2, none⟩) hz2).trans e2
               have q0' := (hb6.cell (p := ⟨w.heap.size + 1, 0, none⟩) hzr2).trans q0
               have q1' := (hb6.cell (p := ⟨w.heap.size + 1, 1, none⟩) hzr2).trans q1
               have q2' := (hb6.cell (p := ⟨w.heap.size + 1, 2, none⟩) hzr2).trans q2
               have u0' := (hb6.frozen (p := ⟨w.heap.size + 1, 0, none⟩) hzr2).trans u0
               have u1' := (hb6.frozen (p := ⟨w.heap.size + 1, 1, none⟩) hzr2).trans u1
               have u2' := (hb6.frozen (p := ⟨w.heap.size + 1, 2, none⟩) hzr2).trans u2
               have hz6 : w.heap.size + 1 < W6.heap.size := lt_of_cell q0'
               have hne6 : ¬ w.heap.size + 1 = W.heap.size := by omega
               have H6 := Lib.hid (((Below.refl W2.heap.size W2).drew).trans hb6)
               clear hb6))
        go_wp2_with fail
        refine bodyPost_ret (v := .agg #[.int .i64 ec, .int .i64 (-1), .string (inPath (itoaB j) ec pp)]) (by simp [results, Tryd.results15, go_sem, q0', q1', q2', u0', u1', u2']) rfl ?_
        obtain ⟨hk, hbox, hE, hrest, hb⟩ := HX.out
        have hRR : R = some (itoaB j :: p, ec) := by rw [← HR.out.1, ← hrest, List.drop_eq_getElem_cons hlt, chkL, HJ.out.1]
        refine ⟨?_, ?_⟩
        · rw [hRR, ← HP.out, inPath_pth _ _ _ HJ.out.2]; rfl
        · exact (((hb.trans ((HB.out.trans ((HW2.out.trans (H6.out.mono HW2.out.size)).mono HB.out.size)).mono hb.size)).setCell (by simp) _).setCell (by simp) _).setCell (by simp) _
    · obtain ⟨r0, r1, r2⟩ := hE.1
      have HX := Lib.hid (And.intro hk (And.intro hE (And.intro hrest hb)))
      clear hk hbox hE hrest hb
      go_wp2_with fail
      refine (none_any _).mono ?_
      rintro e W ⟨rfl, hb2⟩
      obtain ⟨⟨x0, x1, x2⟩, y0, y1, y2⟩ := HX.out.2.1.below hb2 HX.out.2.1.lt
      have hzW : w.heap.size + 1 < W.heap.size := lt_of_cell x0
      have HB := Lib.hid hb2
      clear hb2 r0 r1 r2
      go_wp2_with fail
      refine bodyPost_ret (v := .agg #[.int .i64 0, .int .i64 (-1), .string ⟨#[]⟩]) (by simp [results, Tryd.results15, go_sem, x0, x1, x2, y0, y1, y2]) rfl ?_
      obtain ⟨hk, hE, hrest, hb⟩ := HX.out
      have hRR : R = none := by rw [← HR.out.1, ← hrest, List.drop_of_length_le (by omega), chkL]
      refine ⟨by rw [hRR]; rfl, ?_⟩
      exact (((hb.trans (HB.out.mono hb.size)).setCell (by simp) _).setCell (by simp) _).setCell (by simp) _
end Go.Proofs.YtpehddbpingobaaDoor

namespace Go.Proofs.YtpehddbpingobaaDoor
open Go.RowKit Go.Lib
set_option linter.unusedVariables false
set_option linter.unusedSimpArgs false

def RefRelM (w : World) (f : V → Option (List ByteArray × Int)) (l : List (ByteArray × V)) (box : Array Value) (k : Nat) (i : Value) (wr : World) : Prop :=
  ∃ j : Nat, j + k = l.length ∧ i = .int .i64 j ∧ Whole wr w.heap.size 25 box ∧ EBlk wr (w.heap.size + 1) 0 0 ⟨#[]⟩ ∧ chkM f (prevAt l j) (l.drop j) = chkM f none l ∧ Below w.heap.size w wr

theorem Only.drewN {g : Nat} {w w' : World} (h : Only g w w') (n : Nat) : Only g w (w'.drewN n) := ⟨h.1, h.2.1, fun B W hW h1 h2 => below_drewN (h.2.2 B W hW h1 h2) n⟩
theorem EBlk.drewN {w : World} {g : Nat} {a b : Int} {s : ByteArray} (h : EBlk w g a b s) (n : Nat) : EBlk (w.drewN n) g a b s := h
def lessB (s : ByteArray) : Option ByteArray → Bool
  | none => false
  | some q => Op.bytesLess s.toList q.toList
def sameB (s : ByteArray) : Option ByteArray → Bool
  | none => false
  | some q => s.toList == q.toList

theorem sameB_some {s q : ByteArray} : sameB s (some q) = decide (s.toList = q.toList) := by
  unfold sameB
  by_cases h : s.toList = q.toList <;> simp [h]
theorem map_step {f : V → Option (List ByteArray × Int)} {m : List (ByteArray × V)} {j : Nat} {s : ByteArray} {ro : Option (List ByteArray × Int)} {d : Nat} (hlt : j < m.length) (hs : m[j].1 = s) (hro : f m[j].2 = ro) (hg : GoodR d ro) :
    (validB s = false → chkM f (prevAt m j) (m.drop j) = some ([s], 5)) ∧
    (validB s = true → ∀ (ec2 : Int) (ep2 : ByteArray), (if sameB s (prevAt m j) then 6 else if lessB s (prevAt m j) then 1 else refCode ro) = ec2 → (if sameB s (prevAt m j) then ⟨#[]⟩ else if lessB s (prevAt m j) then ⟨#[]⟩ else refPath ro) = ep2 →
      (ec2 = 0 → chkM f (prevAt m (j + 1)) (m.drop (j + 1)) = chkM f (prevAt m j) (m.drop j)) ∧ (ec2 ≠ 0 → ∃ p, chkM f (prevAt m j) (m.drop j) = some (p, ec2) ∧ pth p = inPath s ec2 ep2)) := by
  have hdrop : m.drop j = (s, m[j].2) :: m.drop (j + 1) := by
    rw [List.drop_eq_getElem_cons hlt]
    congr 1
    exact Prod.ext hs rfl
  have hprev : prevAt m (j + 1) = some s := by simp [prevAt, List.getElem?_eq_getElem hlt, hs]
  have hone : ∀ c : Int, c ≠ 0 → pth [s] = inPath s c ⟨#[]⟩ := fun c hc => by rw [inPath, if_neg hc, pth, pth]
  refine ⟨fun h => ?_, fun h ec2 ep2 hec hep => ?_⟩
  · rw [hdrop, chkM, chkKey.eq_def, if_pos h]
  · have hkey : chkKey s (prevAt m j) = if sameB s (prevAt m j) then some 6 else if lessB s (prevAt m j) then some 1 else none := by
      rw [chkKey.eq_def, if_neg (by simp [h])]
      cases hp : prevAt m j with
      | none => rfl
      | some q =>
        simp only [sameB_some, lessB, bytesLt]
        by_cases h1 : s.toList = q.toList
        · simp [h1]
        · rw [if_neg h1, if_neg (by simp [h1])]
          rfl
    rw [hdrop, chkM, hkey, hprev]
    by_cases b2 : sameB s (prevAt m j) = true
    · rw [if_pos b2] at hec hep ⊢
      subst hec hep
      exact ⟨fun h0 => absurd h0 (by omega), fun _ => ⟨[s], rfl, hone 6 (by omega)⟩⟩
    · rw [if_neg b2] at hec hep ⊢
      by_cases b1 : lessB s (prevAt m j) = true
      · rw [if_pos b1] at hec hep ⊢
        subst hec hep
        exact ⟨fun h0 => absurd h0 (by omega), fun _ => ⟨[s], rfl, hone 1 (by omega)⟩⟩
      · rw [if_neg b1] at hec hep ⊢
        dsimp only
        rw [hro]
        cases ro with
        | none =>
          subst hec hep
          exact ⟨fun _ => rfl, fun h0 => absurd rfl h0⟩
        | some pc =>
          obtain ⟨p, c⟩ := pc
          subst hec hep
          have hc := (hg p c rfl).1
          exact ⟨fun h0 => absurd h0 hc, fun _ => ⟨s :: p, rfl, (inPath_pth s c p hc).symm⟩⟩

set_option maxRecDepth 100000 in
set_option maxHeartbeats 8000000 in
theorem refcheck_map (d : Nat) (hd : d + 1 ≤ 20) (ih : RefSaid d) (y : Bool) (n : Int) (t : ByteArray) (l : List V) (m : List (ByteArray × V)) (A A' : Option Addr) (c c' B : Nat) (w : World) (hv : ValM w (· < B) 1000000 m A' 0) (hlen : m.length ≤ 1000000) (hcap : m.length ≤ c') (hB : B ≤ w.heap.size) :
    Calls Tryd.prog 15 #[.agg #[.int .i64 5, .bool y, .int .i64 n, .string t, .slice A l.length c, .slice A' m.length c'], .int .i64 (20 - ((d + 1 : Nat) : Int))] w (RefAns (chkM (chk d) none m) w) := by
  obtain ⟨dp, hdp⟩ : ∃ dp : Int, dp = 20 - ((d + 1 : Nat) : Int) := ⟨_, rfl⟩
  rw [← hdp]
  have hdp1 : dp + 1 = 20 - (d : Int) := by omega
  have hne : (dp == 20) = false := beq_eq_false_iff_ne.2 (by omega)
  have hd0 : 0 ≤ dp := by omega
  have hd20 : dp < 20 := by omega
  obtain ⟨R, hR⟩ : ∃ R, chkM (chk d) none m = R := ⟨_, rfl⟩
  rw [hR]
  have HR := Lib.hid (And.intro hR hdp1)
  have HV := Lib.hid hv
  clear hR hv hdp hdp1
  go_enter Tryd.func15, Tryd.ntmps15
  go_wp2_with fail
  go_loopg [71] m.length (RefRelM w (chk d) m #[.int .i64 5, .bool y, .int .i64 n, .string t, .slice A l.length c, .slice A' m.length c'])
  case atStart =>
    refine ⟨0, by simp, rfl, (Whole.made w _ _).alloc _, ?_, rfl, ((Below.refl _ _).alloc (Nat.le_refl _) _).alloc (by simp) _⟩
    have := EBlk.new (w.alloc (.cells #[.int .i64 5, .bool y, .int .i64 n, .string t, .slice A l.length c, .slice A' m.length c'] 25)) 0 0 ⟨#[]⟩
    simpa using this
  case round =>
    obtain ⟨j, hk, rfl, hbox, hE, hrest, hb⟩ := hrel
    have b5 := hbox.cell 5
    simp at b5
    have hz : w.heap.size + 1 < wr.heap.size := hE.lt
    by_cases hlt : j < m.length
    · obtain ⟨b, off, cs, rfl, hbl, hsM, hkc, hcell, hval⟩ := HV.out.get j hlt
      obtain ⟨cj, rfl⟩ := hval.c6
      obtain ⟨s, hs⟩ : ∃ s, m[j].1 = s := ⟨_, rfl⟩
      rw [hs] at hkc hsM
      have hck : wr.cell? ⟨b, off + j * 7, none⟩ = some (.string s) := (hb.cell (p := ⟨b, off + j * 7, none⟩) (by simp; omega)).trans (by simpa using hkc)
      have hcj : ∀ q, q < 6 → wr.cell? ⟨b, off + j * 7 + (1 + q), none⟩ = cj.arr[q]? := fun q hq => (hb.cell (p := ⟨b, off + j * 7 + (1 + q), none⟩) (by simp; omega)).trans (by simpa using hcell q hq)
      obtain ⟨xk, x0, x1, x2, x3, x4, x5⟩ := cells7 hck hcj rfl
      have hcall := ih m[j].2 cj.arr B wr (hval.keep (fun p hp => hb.cell (Nat.lt_of_lt_of_le hp hB)) (fun _ h => h)) (Nat.le_trans hB hb.size)
      rw [← HR.out.2] at hcall
      have hgood := chk_good d m[j].2 hval.ok
      have hj1 : (j : Int) < (m.length : Int) := by omega
      have hbr : b < wr.heap.size := by have := hb.size; omega
      obtain ⟨ro, hro⟩ : ∃ ro, chk d m[j].2 = ro := ⟨_, rfl⟩
      rw [hro] at hcall hgood
      unfold RefAns at hcall
      obtain ⟨ec, hec⟩ : ∃ ec, refCode ro = ec := ⟨_, rfl⟩
      obtain ⟨ep, hep⟩ : ∃ ep, refPath ro = ep := ⟨_, rfl⟩
      rw [hec, hep] at hcall
      have hps : ep.size ≤ 1000000000 := by
        rw [← hep]
        cases ro with
        | none => simp [refPath, ByteArray.size]
        | some pc =>
          obtain ⟨p, c2⟩ := pc
          have := (hgood p c2 rfl).2
          have : d * 1000050 ≤ 20 * 1000050 := Nat.mul_le_mul_right _ (by omega)
          simp only [refPath]; omega
      have HC := Lib.hid hcall
      have HX := Lib.hid (And.intro hk (And.intro hbox (And.intro hE (And.intro hrest hb))))
      have HY := Lib.hid (And.intro hs (And.intro hro (And.intro hec (And.intro hep hgood))))
      clear hcall hval hcell hcj hk hbox hE hrest hb hs hro hec hep hgood hkc hck
      obtain ⟨jk, jy, jn, jt, ja, jla, jca, jb, jlb, jcb⟩ := cj
      dsimp only [C6.arr] at x0 x1 x2 x3 x4 x5 HC
      have hprev : ∀ i, j = i + 1 → ∃ q, prevAt m j = some q ∧ wr.cell? ⟨b, off + i * 7, none⟩ = some (.string q) := fun i e => by
        subst e
        obtain ⟨b', off', cs', e', -, -, hkc', -, -⟩ := HV.out.get i (by omega)
        obtain ⟨rfl, rfl⟩ : b = b' ∧ off = off' := by simpa using e'
        refine ⟨m[i].1, by simp [prevAt, List.getElem?_eq_getElem (show i < m.length by omega)], ?_⟩
        exact (HX.out.2.2.2.2.cell (p := ⟨b, off + i * 7, none⟩) (by simp; omega)).trans (by simpa using hkc')
      have HP := Lib.hid hprev
      clear hprev
      go_wp2_with fail
      refine HC.out.mono ?_
      rintro e W ⟨rfl, hb2⟩
      have HB := Lib.hid hb2
      have zk0 := (hb2.cell (p := ⟨b, off + j * 7, none⟩) hbr).trans xk
      have z50 := (hb2.cell (p := ⟨w.heap.size, 5, none⟩) (show w.heap.size < wr.heap.size by omega)).trans b5
      have hzW := hb2.size
      clear hb2 x0 x1 x2 x3 x4 x5 HC xk b5
      go_upto_region 31 with (fail)
      obtain ⟨W2, hW2⟩ : ∃ W2, W.alloc (.cells #[.int .i64 ec, .int .i64 (-1), .string ep] 29) = W2 := ⟨_, rfl⟩
      rw [hW2]
      have hbW2 : Below W.heap.size W W2 := hW2 ▸ (Below.refl _ _).alloc (Nat.le_refl _) _
      have hE2 : EBlk W2 W.heap.size ec (-1) ep := hW2 ▸ EBlk.new W ec (-1) ep
      have zk := (hbW2.cell (p := ⟨b, off + j * 7, none⟩) (show b < W.heap.size by omega)).trans zk0
      have z5 := (hbW2.cell (p := ⟨w.heap.size, 5, none⟩) (show w.heap.size < W.heap.size by omega)).trans z50
      have HK := Lib.hid (And.intro zk (And.intro z5 (And.intro hE2 hbW2)))
      have hz2 : W.heap.size < W2.heap.size := hE2.lt
      have hbW : b < W.heap.size := by omega
      clear hW2 hE2 hbW2 zk0 z50
      go_cut [71, 100] from 71 to 141 (fun i s100 wx => i = .int .i64 j ∧ s100 = .bool (lessB s (prevAt m j)) ∧ Only W.heap.size W2 wx ∧ EBlk wx W.heap.size ec (-1) ep)
      case first =>
        cases j with
        | zero =>
          have hg0 : decide ((0 : Int) < ((0 : Nat) : Int)) = false := rfl
          go_quiet (fail)
          go_wp2_with fail
          go_meet
          exact ⟨rfl, rfl, (Only.refl _ _).drewN _, HK.out.2.2.1.drewN _⟩
        | succ i =>
          obtain ⟨q, hq, hqc⟩ := HP.out i rfl
          have hqc2 : W2.cell? ⟨b, off + i * 7, none⟩ = some (.string q) := (HK.out.2.2.2.cell (p := ⟨b, off + i * 7, none⟩) hbW).trans ((HB.out.cell (p := ⟨b, off + i * 7, none⟩) hbr).trans hqc)
          have hi0 : (0 : Int) < ((i + 1 : Nat) : Int) := by omega
          have hil : (i : Int) < (m.length : Int) := by omega
          have HQ := Lib.hid hq
          clear hq hqc
          go_quiet (fail)
          go_wp2_with fail
          go_meet
          exact ⟨by go_num, by rw [HQ.out]; rfl, (Only.refl _ _).drewN _, HK.out.2.2.1.drewN _⟩
      case rest =>
        obtain ⟨rfl, rfl, ho, hE⟩ := hcut
        obtain ⟨B1, hB1⟩ : ∃ B1, lessB s (prevAt m j) = B1 := ⟨_, rfl⟩
        rw [hB1]
        have HB1 := Lib.hid hB1
        have HO := Lib.hid (And.intro ho hE)
        obtain ⟨⟨e0, e1, e2⟩, f0, f1, f2⟩ := hE
        have hzo : W2.heap.size ≤ wc.heap.size := ho.1
        clear hB1 ho
        go_upto_if 100 with (fail)
        go_cut [71] from 71 to 141 (fun i wx => i = .int .i64 j ∧ Only W.heap.size W2 wx ∧ EBlk wx W.heap.size (if B1 then 1 else ec) (-1) (if B1 then ⟨#[]⟩ else ep))
        case first =>
          cases B1 with
          | false =>
            go_wp2_with fail
            go_meet
            exact ⟨rfl, HO.out.1, HO.out.2⟩
          | true =>
            go_wp2_with fail
            refine (err_any 1 _).mono ?_
            rintro e W5 ⟨rfl, hb5⟩
            have hE5 := HO.out.2.below hb5 (show W.heap.size < wc.heap.size by omega)
            have HE := Lib.hid (And.intro hE5 hb5)
            obtain ⟨⟨c0, c1, c2⟩, g0, g1, g2⟩ := hE5
            have hz5 : W.heap.size < W5.heap.size := lt_of_cell c0
            clear hb5 e0 e1 e2 f0 f1 f2
            go_wp2_with fail
            go_meet
            refine ⟨rfl, (((HO.out.1.step HE.out.2).put 0 _).put 1 _).put 2 _, ?_⟩
            exact ((HE.out.1.set0 _).set1 _).set2 _
        case rest =>
          obtain ⟨rfl, ho, hE⟩ := hcut
          clear HO e0 e1 e2 f0 f1 f2 hzo
          obtain ⟨ec1, hec1⟩ : ∃ x, (if B1 then (1 : Int) else ec) = x := ⟨_, rfl⟩
          obtain ⟨ep1, hep1⟩ : ∃ x, (if B1 then (⟨#[]⟩ : ByteArray) else ep) = x := ⟨_, rfl⟩
          rw [hec1, hep1] at hE
          have hps1 : ep1.size ≤ 1000000000 := by
            rw [← hep1]
            split
            · simp [ByteArray.size]
            · exact hps
          have Hec1 := Lib.hid (And.intro hec1 hep1)
          clear hec1 hep1
          have HO := Lib.hid (And.intro ho hE)
          have zk' := (ho.cell (p := ⟨b, off + j * 7, none⟩) (show b < W2.heap.size by omega) (show b ≠ W.heap.size by omega)).trans zk
          have z5' := (ho.cell (p := ⟨w.heap.size, 5, none⟩) (show w.heap.size < W2.heap.size by omega) (show w.heap.size ≠ W.heap.size by omega)).trans z5
          clear ho hE
          go_upto_region 33 with (fail)
          go_cut [71, 119] from 71 to 141 (fun i s119 wx => i = .int .i64 j ∧ s119 = .bool (sameB s (prevAt m j)) ∧ Only W.heap.size W2 wx ∧ EBlk wx W.heap.size ec1 (-1) ep1)
          case first =>
            cases j with
            | zero =>
              have hg0 : decide ((0 : Int) < ((0 : Nat) : Int)) = false := rfl
              go_quiet (fail)
              go_wp2_with fail
              go_meet
              exact ⟨rfl, rfl, HO.out.1.drewN _, HO.out.2.drewN _⟩
            | succ i =>
              obtain ⟨q, hq, hqc⟩ := HP.out i rfl
              have hqc2 : wc.cell? ⟨b, off + i * 7, none⟩ = some (.string q) := (HO.out.1.cell (p := ⟨b, off + i * 7, none⟩) (show b < W2.heap.size by omega) (show b ≠ W.heap.size by omega)).trans ((HK.out.2.2.2.cell (p := ⟨b, off + i * 7, none⟩) hbW).trans ((HB.out.cell (p := ⟨b, off + i * 7, none⟩) hbr).trans hqc))
              have hi0 : (0 : Int) < ((i + 1 : Nat) : Int) := by omega
              have hil : (i : Int) < (m.length : Int) := by omega
              have HQ := Lib.hid hq
              clear hq hqc
              go_quiet (fail)
              go_wp2_with fail
              go_meet
              exact ⟨by go_num, by rw [HQ.out]; rfl, HO.out.1.drewN _, HO.out.2.drewN _⟩
          case rest =>
            clear HO zk' z5'
            obtain ⟨rfl, rfl, ho, hE⟩ := hcut
            obtain ⟨B2, hB2⟩ : ∃ B2, sameB s (prevAt m j) = B2 := ⟨_, rfl⟩
            rw [hB2]
            have HB2 := Lib.hid hB2
            have HO := Lib.hid (And.intro ho hE)
            obtain ⟨⟨e0, e1, e2⟩, f0, f1, f2⟩ := hE
            have hzo : W2.heap.size ≤ wc.heap.size := ho.1
            clear hB2 ho
            go_upto_if 119 with (fail)
            go_cut [71] from 71 to 141 (fun i wx => i = .int .i64 j ∧ Only W.heap.size W2 wx ∧ EBlk wx W.heap.size (if B2 then 6 else ec1) (-1) (if B2 then ⟨#[]⟩ else ep1))
            case first =>
              cases B2 with
              | false =>
                go_wp2_with fail
                go_meet
                exact ⟨rfl, HO.out.1, HO.out.2⟩
              | true =>
                go_wp2_with fail
                refine (err_any 6 _).mono ?_
                rintro e W5 ⟨rfl, hb5⟩
                have hE5 := HO.out.2.below hb5 (show W.heap.size < wc.heap.size by omega)
                have HE := Lib.hid (And.intro hE5 hb5)
                obtain ⟨⟨c0, c1, c2⟩, g0, g1, g2⟩ := hE5
                have hz5 : W.heap.size < W5.heap.size := lt_of_cell c0
                clear hb5 e0 e1 e2 f0 f1 f2
                go_wp2_with fail
                go_meet
                refine ⟨rfl, (((HO.out.1.step HE.out.2).put 0 _).put 1 _).put 2 _, ?_⟩
                exact ((HE.out.1.set0 _).set1 _).set2 _
            case rest =>
              obtain ⟨rfl, ho, hE⟩ := hcut
              clear HO e0 e1 e2 f0 f1 f2 hzo
              obtain ⟨ec2, hec2⟩ : ∃ x, (if B2 then (6 : Int) else ec1) = x := ⟨_, rfl⟩
              obtain ⟨ep2, hep2⟩ : ∃ x, (if B2 then (⟨#[]⟩ : ByteArray) else ep1) = x := ⟨_, rfl⟩
              rw [hec2, hep2] at hE
              have hps2 : ep2.size ≤ 1000000000 := by
                rw [← hep2]
                split
                · simp [ByteArray.size]
                · exact hps1
              have Hec2 := Lib.hid (And.intro hec2 hep2)
              clear hec2 hep2
              have hE1 : EBlk wc (w.heap.size + 1) 0 0 ⟨#[]⟩ := by
                have h1 := (HX.out.2.2.1.below HB.out HX.out.2.2.1.lt).below HK.out.2.2.2 (show w.heap.size + 1 < W.heap.size by omega)
                exact h1.keep (fun o => ho.cell (p := ⟨w.heap.size + 1, o, none⟩) (show w.heap.size + 1 < W2.heap.size by omega) (show w.heap.size + 1 ≠ W.heap.size by omega)) (fun o => World.frozen?_of_block (ho.2.1 (w.heap.size + 1) (show w.heap.size + 1 < W2.heap.size by omega) (show w.heap.size + 1 ≠ W.heap.size by omega)))
              have zk' := (ho.cell (p := ⟨b, off + j * 7, none⟩) (show b < W2.heap.size by omega) (show b ≠ W.heap.size by omega)).trans zk
              have z5' := (ho.cell (p := ⟨w.heap.size, 5, none⟩) (show w.heap.size < W2.heap.size by omega) (show w.heap.size ≠ W.heap.size by omega)).trans z5
              have hbw : Below w.heap.size w W2 := HX.out.2.2.2.2.trans ((HB.out.trans (HK.out.2.2.2.mono HB.out.size)).mono HX.out.2.2.2.2.size)
              have hbc : Below w.heap.size w wc := ho.2.2 _ _ hbw (by omega) (by omega)
              obtain ⟨⟨e0, e1, e2⟩, f0, f1, f2⟩ := hE
              obtain ⟨⟨r0, r1, r2⟩, s0, s1, s2⟩ := hE1
              have hzo : W2.heap.size ≤ wc.heap.size := ho.1
              have yb : b < wc.heap.size := by omega
              have yw : w.heap.size < wc.heap.size := by omega
              have yg : W.heap.size < wc.heap.size := by omega
              have yr : w.heap.size + 1 < wc.heap.size := by omega
              have HO := Lib.hid (And.intro hbc ho)
              have HU := Lib.hid (utf8_any s wc (by omega))
              clear ho hbw hbc zk z5
              cases hvs : validB s
              · rw [hvs] at HU
                have HVS := Lib.hid hvs
                clear hvs
                go_wp2_with fail
                refine HU.out.mono ?_
                rintro e W5 ⟨rfl, rfl⟩
                go_wp2_with fail
                refine (err_any 5 _).mono ?_
                rintro e W7 ⟨rfl, hb7⟩
                obtain ⟨W8, hW8⟩ : ∃ W8, ((W7.setCell ⟨W.heap.size, 0, none⟩ (.int .i64 5)).setCell ⟨W.heap.size, 1, none⟩ (.int .i64 (-1))).setCell ⟨W.heap.size, 2, none⟩ (.string ⟨#[]⟩) = W8 := ⟨_, rfl⟩
                have ho8 : Only W.heap.size W2 W8 := hW8 ▸ (((HO.out.2.step hb7).put 0 _).put 1 _).put 2 _
                have hE8 : EBlk W8 W.heap.size 5 (-1) ⟨#[]⟩ := hW8 ▸ ((((show EBlk wc W.heap.size ec2 (-1) ep2 from ⟨⟨e0, e1, e2⟩, f0, f1, f2⟩).below hb7 yg).set0 5).set1 (-1)).set2 ⟨#[]⟩
                have d0 := (hb7.cell (p := ⟨W.heap.size, 0, none⟩) yg).trans e0
                have d1 := (hb7.cell (p := ⟨W.heap.size, 1, none⟩) yg).trans e1
                have d2 := (hb7.cell (p := ⟨W.heap.size, 2, none⟩) yg).trans e2
                have g0 := (hb7.frozen (p := ⟨W.heap.size, 0, none⟩) yg).trans f0
                have g1 := (hb7.frozen (p := ⟨W.heap.size, 1, none⟩) yg).trans f1
                have g2 := (hb7.frozen (p := ⟨W.heap.size, 2, none⟩) yg).trans f2
                have hz7 : W.heap.size < W7.heap.size := lt_of_cell d0
                have hbw : Below w.heap.size w W2 := HX.out.2.2.2.2.trans ((HB.out.trans (HK.out.2.2.2.mono HB.out.size)).mono HX.out.2.2.2.2.size)
                have hbc : Below w.heap.size w W8 := ho8.2.2 _ _ hbw (by omega) (by omega)
                have hE1 : EBlk W8 (w.heap.size + 1) 0 0 ⟨#[]⟩ := by
                  have h1 := (HX.out.2.2.1.below HB.out HX.out.2.2.1.lt).below HK.out.2.2.2 (show w.heap.size + 1 < W.heap.size by omega)
                  exact h1.keep (fun o => ho8.cell (p := ⟨w.heap.size + 1, o, none⟩) (show w.heap.size + 1 < W2.heap.size by omega) (show w.heap.size + 1 ≠ W.heap.size by omega)) (fun o => World.frozen?_of_block (ho8.2.1 (w.heap.size + 1) (show w.heap.size + 1 < W2.heap.size by omega) (show w.heap.size + 1 ≠ W.heap.size by omega)))
                have zk8 := (ho8.cell (p := ⟨b, off + j * 7, none⟩) (show b < W2.heap.size by omega) (show b ≠ W.heap.size by omega)).trans HK.out.1
                have z58 := (ho8.cell (p := ⟨w.heap.size, 5, none⟩) (show w.heap.size < W2.heap.size by omega) (show w.heap.size ≠ W.heap.size by omega)).trans HK.out.2.1
                have hz8 : W2.heap.size ≤ W8.heap.size := ho8.1
                have HQ8 := Lib.hid hW8
                have HO8 := Lib.hid (And.intro hbc (And.intro hE8 (And.intro hE1 (And.intro zk8 z58))))
                clear hW8 ho8 hb7 hbw hbc hE8 hE1 zk8 z58 zk' z5' e0 e1 e2 f0 f1 f2 r0 r1 r2 s0 s1 s2 yb yw yg yr HU HO
                go_wp2_with fail
                rw [HQ8.out]
                obtain ⟨hbc, hE8, hE1, zk', z5'⟩ := HO8.out
                obtain ⟨⟨e0, e1, e2⟩, f0, f1, f2⟩ := hE8
                obtain ⟨⟨r0, r1, r2⟩, s0, s1, s2⟩ := hE1
                have yb : b < W8.heap.size := by omega
                have yw : w.heap.size < W8.heap.size := by omega
                have yg : W.heap.size < W8.heap.size := by omega
                have yr : w.heap.size + 1 < W8.heap.size := by omega
                clear d0 d1 d2 g0 g1 g2 hbc
                go_region_held3 (fun w' => w'.cell? ⟨b, off + j * 7, none⟩ = some (.string s) ∧ w'.cell? ⟨w.heap.size, 5, none⟩ = some (.slice (some ⟨b, off, none⟩) m.length c') ∧ w'.cell? ⟨W.heap.size, 0, none⟩ = some (.int .i64 5) ∧ w'.cell? ⟨W.heap.size, 1, none⟩ = some (.int .i64 (-1)) ∧ w'.cell? ⟨W.heap.size, 2, none⟩ = some (.string ⟨#[]⟩)) (go_keep)
                  (first
                    | (go_at_call 29; refine (in_any s ⟨#[]⟩ 5 (-1) _ (by omega) (by simp [ByteArray.size])).mono ?_; rintro e W6 ⟨rfl, hb6⟩
                       have k1 := (hb6.cell (p := ⟨b, off + j * 7, none⟩) yb).trans zk'
                       have k2 := (hb6.cell (p := ⟨w.heap.size, 5, none⟩) yw).trans z5'
                       have k3 := (hb6.cell (p := ⟨W.heap.size, 0, none⟩) yg).trans e0
                       have k4 := (hb6.cell (p := ⟨W.heap.size, 1, none⟩) yg).trans e1
                       have k5 := (hb6.cell (p := ⟨W.heap.size, 2, none⟩) yg).trans e2
                       have q0 := (hb6.cell (p := ⟨w.heap.size + 1, 0, none⟩) yr).trans r0
                       have q1 := (hb6.cell (p := ⟨w.heap.size + 1, 1, none⟩) yr).trans r1
                       have q2 := (hb6.cell (p := ⟨w.heap.size + 1, 2, none⟩) yr).trans r2
                       have u0 := (hb6.frozen (p := ⟨w.heap.size + 1, 0, none⟩) yr).trans s0
                       have u1 := (hb6.frozen (p := ⟨w.heap.size + 1, 1, none⟩) yr).trans s1
                       have u2 := (hb6.frozen (p := ⟨w.heap.size + 1, 2, none⟩) yr).trans s2
                       have hz6 : w.heap.size + 1 < W6.heap.size := lt_of_cell q0
                       have hn1 : ¬ w.heap.size + 1 = W.heap.size := by omega
                       have hn2 : ¬ w.heap.size + 1 = b := by omega
                       have H6 := Lib.hid (((Below.refl W8.heap.size W8).drew).trans hb6)
                       clear hb6))
                go_wp2_with fail
                refine bodyPost_ret (v := .agg #[.int .i64 5, .int .i64 (-1), .string (inPath s 5 ⟨#[]⟩)]) (by simp [results, Tryd.results15, go_sem, q0, q1, q2, u0, u1, u2]) rfl ?_
                obtain ⟨hs, hro, hec, hep, hgood⟩ := HY.out
                have hst := map_step hlt hs hro hgood
                have hRR : R = some ([s], 5) := by rw [← HR.out.1, ← HX.out.2.2.2.1, hst.1 HVS.out]
                refine ⟨by rw [hRR]; simp [refCode, refPath, pth, inPath], ?_⟩
                have hbc := HO8.out.1
                exact (((hbc.trans (H6.out.mono hbc.size)).setCell (by simp) _).setCell (by simp) _).setCell (by simp) _
              · rw [hvs] at HU
                have HVS := Lib.hid hvs
                clear hvs
                by_cases h20 : ec2 = 0
                · subst h20
                  go_wp2_with fail
                  refine HU.out.mono ?_
                  rintro e W5 ⟨rfl, rfl⟩
                  go_wp2_with fail
                  go_roundg (m.length - (j + 1))
                  case rel =>
                    obtain ⟨hs, hro, hec, hep, hgood⟩ := HY.out
                    obtain ⟨hk, hbox, hE, hrest, hb⟩ := HX.out
                    have hst := (map_step hlt hs hro hgood).2 HVS.out 0 ep2 (by rw [HB2.out, HB1.out, hec]; rw [← Hec1.out.1] at Hec2; exact Hec2.out.1) (by rw [HB2.out, HB1.out, hep]; rw [← Hec1.out.2] at Hec2; exact Hec2.out.2)
                    refine ⟨j + 1, by omega, by go_num, ?_, ⟨⟨r0, r1, r2⟩, s0, s1, s2⟩, (hst.1 rfl).trans hrest, HO.out.1⟩
                    have h1 := (hbox.below HB.out hbox.lt).below HK.out.2.2.2 (show w.heap.size < W.heap.size by omega)
                    exact (HO.out.2.2.1 w.heap.size (show w.heap.size < W2.heap.size by omega) (show w.heap.size ≠ W.heap.size by omega)).trans h1
                  case measure => have := HX.out.1; omega
                · have h20b : (ec2 != 0) = true := by simpa using h20
                  have H20 := Lib.hid h20
                  clear h20
                  go_wp2_with fail
                  refine HU.out.mono ?_
                  rintro e W5 ⟨rfl, rfl⟩
                  go_wp2_with fail
                  go_region_held3 (fun w' => w'.cell? ⟨b, off + j * 7, none⟩ = some (.string s) ∧ w'.cell? ⟨w.heap.size, 5, none⟩ = some (.slice (some ⟨b, off, none⟩) m.length c') ∧ w'.cell? ⟨W.heap.size, 0, none⟩ = some (.int .i64 ec2) ∧ w'.cell? ⟨W.heap.size, 1, none⟩ = some (.int .i64 (-1)) ∧ w'.cell? ⟨W.heap.size, 2, none⟩ = some (.string ep2)) (go_keep)
                    (first
                      | (go_at_call 29; refine (in_any s ep2 ec2 (-1) _ (by omega) hps2).mono ?_; rintro e W6 ⟨rfl, hb6⟩
                         have k1 := (hb6.cell (p := ⟨b, off + j * 7, none⟩) yb).trans zk'
                         have k2 := (hb6.cell (p := ⟨w.heap.size, 5, none⟩) yw).trans z5'
                         have k3 := (hb6.cell (p := ⟨W.heap.size, 0, none⟩) yg).trans e0
                         have k4 := (hb6.cell (p := ⟨W.heap.size, 1, none⟩) yg).trans e1
                         have k5 := (hb6.cell (p := ⟨W.heap.size, 2, none⟩) yg).trans e2
                         have q0 := (hb6.cell (p := ⟨w.heap.size + 1, 0, none⟩) yr).trans r0
                         have q1 := (hb6.cell (p := ⟨w.heap.size + 1, 1, none⟩) yr).trans r1
                         have q2 := (hb6.cell (p := ⟨w.heap.size + 1, 2, none⟩) yr).trans r2
                         have u0 := (hb6.frozen (p := ⟨w.heap.size + 1, 0, none⟩) yr).trans s0
                         have u1 := (hb6.frozen (p := ⟨w.heap.size + 1, 1, none⟩) yr).trans s1
                         have u2 := (hb6.frozen (p := ⟨w.heap.size + 1, 2, none⟩) yr).trans s2
                         have hz6 : w.heap.size + 1 < W6.heap.size := lt_of_cell q0
                         have hn1 : ¬ w.heap.size + 1 = W.heap.size := by omega
                         have hn2 : ¬ w.heap.size + 1 = b := by omega
                         have H6 := Lib.hid (((Below.refl wc.heap.size wc).drew).trans hb6)
                         clear hb6))
                  go_wp2_with fail
                  refine bodyPost_ret (v := .agg #[.int .i64 ec2, .int .i64 (-1), .string (inPath s ec2 ep2)]) (by simp [results, Tryd.results15, go_sem, q0, q1, q2, u0, u1, u2]) rfl ?_
                  obtain ⟨hs, hro, hec, hep, hgood⟩ := HY.out
                  have hst := map_step hlt hs hro hgood
                  have hst2 := hst.2 HVS.out ec2 ep2 (by rw [HB2.out, HB1.out, hec]; rw [← Hec1.out.1] at Hec2; exact Hec2.out.1) (by rw [HB2.out, HB1.out, hep]; rw [← Hec1.out.2] at Hec2; exact Hec2.out.2)
                  obtain ⟨p, hp1, hp2⟩ := hst2.2 H20.out
                  have hRR : R = some (p, ec2) := by rw [← HR.out.1, ← HX.out.2.2.2.1, hp1]
                  refine ⟨by rw [hRR]; simp only [refCode, refPath, hp2], ?_⟩
                  exact (((HO.out.1.trans (H6.out.mono HO.out.1.size)).setCell (by simp) _).setCell (by simp) _).setCell (by simp) _
    · obtain ⟨r0, r1, r2⟩ := hE.1
      have HX := Lib.hid (And.intro hk (And.intro hE (And.intro hrest hb)))
      clear hk hbox hE hrest hb
      go_wp2_with fail
      refine (none_any _).mono ?_
      rintro e W ⟨rfl, hb2⟩
      obtain ⟨⟨x0, x1, x2⟩, y0, y1, y2⟩ := HX.out.2.1.below hb2 HX.out.2.1.lt
      have hzW : w.heap.size + 1 < W.heap.size := lt_of_cell x0
      have HB := Lib.hid hb2
      clear hb2 r0 r1 r2
      go_wp2_with fail
      refine bodyPost_ret (v := .agg #[.int .i64 0, .int .i64 (-1), .string ⟨#[]⟩]) (by simp [results, Tryd.results15, go_sem, x0, x1, x2, y0, y1, y2]) rfl ?_
      obtain ⟨hk, hE, hrest, hb⟩ := HX.out
      have hRR : R = none := by rw [← HR.out.1, ← hrest, List.drop_of_length_le (by omega), chkM]
      refine ⟨by rw [hRR]; rfl, ?_⟩
      exact (((hb.trans (HB.out.mono hb.size)).setCell (by simp) _).setCell (by simp) _).setCell (by simp) _

theorem refcheck_any : ∀ d, d ≤ 20 → RefSaid d
  | 0, _ => fun v cs B w hv hB => by
    cases v with
    | mk k y n t l m =>
    rw [Val] at hv
    obtain ⟨A1, c1, A2, c2, rfl, ⟨h1c, h2c, ht, hl, hm, -, -⟩, hvl, hvm⟩ := hv
    rw [chk]
    exact refcheck_plain _ _ k y n t l m _ _ _ w ht (.inr ⟨by simp, rfl, rfl⟩)
  | d + 1, hd => fun v cs B w hv hB => by
    have ih := refcheck_any d (by omega)
    cases v with
    | mk k y n t l m =>
    rw [Val] at hv
    obtain ⟨A1, c1, A2, c2, rfl, ⟨h1c, h2c, ht, hl, hm, -, -⟩, hvl, hvm⟩ := hv
    rw [chk]
    by_cases k4 : k = 4
    · subst k4
      exact refcheck_list d hd ih y n t l m A1 A2 c1 c2 B w hvl hl h1c hB
    · by_cases k5 : k = 5
      · subst k5
        exact refcheck_map d hd ih y n t l m A1 A2 c1 c2 B w hvm hm h2c hB
      · exact refcheck_plain _ _ k y n t l m _ _ _ w ht (.inl ⟨k4, k5⟩)

end Go.Proofs.YtpehddbpingobaaDoor

namespace Go.Proofs.YtpehddbpingobaaDoor
open Go.RowKit Go.Lib
set_option linter.unusedVariables false
set_option linter.unusedSimpArgs false

/-- The document's Check of every value. -/
theorem RefCheck_any (v : V) (cs : Array Value) (B : Nat) (w : World) (hv : Val w (· < B) 1000000 v cs) (hB : B ≤ w.heap.size) :
    Calls Tryd.prog 6 #[.agg cs] w (RefAns (chk 20 v) w) := by
  obtain ⟨c, rfl⟩ := hv.c6
  have HC := Lib.hid (fun W (hW : Below w.heap.size w W) => refcheck_any 20 (Nat.le_refl _) v c.arr B W (hv.keep (fun p hp => hW.cell (Nat.lt_of_lt_of_le hp hB)) (fun _ h => h)) (Nat.le_trans hB hW.size))
  clear hv
  obtain ⟨jk, jy, jn, jt, ja, jla, jca, jb, jlb, jcb⟩ := c
  obtain ⟨R, hR⟩ : ∃ R, chk 20 v = R := ⟨_, rfl⟩
  rw [hR] at HC ⊢
  have h00 : (20 : Int) - ((20 : Nat) : Int) = 0 := by decide
  rw [h00] at HC
  dsimp only [C6.arr] at HC ⊢
  clear h00 hR
  go_enter Tryd.func6, Tryd.ntmps6
  go_wp2_with fail
  refine (HC.out _ ?_).mono ?_
  · repeat (first | exact Below.refl _ _ | refine Below.alloc ?_ (by simp <;> omega) _)
  rintro e W ⟨rfl, hb⟩
  have hE0 : EBlk ((w.alloc (.cells #[.int .i64 jk, .bool jy, .int .i64 jn, .string jt, .slice ja jla jca, .slice jb jlb jcb] 25)).alloc (.cells #[.int .i64 0, .int .i64 0, .string ⟨#[]⟩] 29)) (w.heap.size + 1) 0 0 ⟨#[]⟩ := by
    have := EBlk.new (w.alloc (.cells #[.int .i64 jk, .bool jy, .int .i64 jn, .string jt, .slice ja jla jca, .slice jb jlb jcb] 25)) 0 0 ⟨#[]⟩
    simpa using this
  obtain ⟨⟨x0, x1, x2⟩, y0, y1, y2⟩ := hE0.below hb (by simp)
  have hz : w.heap.size + 1 < W.heap.size := lt_of_cell x0
  have HB := Lib.hid ((((Below.refl w.heap.size w).alloc (Nat.le_refl _) _).alloc (by simp) _).trans (hb.mono (by simp; omega)))
  clear hb hE0
  go_wp2_with fail
  exact bodyPost_ret (v := .agg #[.int .i64 (refCode R), .int .i64 (-1), .string (refPath R)]) (by simp [results, Tryd.results6, go_sem, x0, x1, x2, y0, y1, y2]) rfl ⟨rfl, ((HB.out.setCell (by simp) _).setCell (by simp) _).setCell (by simp) _⟩

end Go.Proofs.YtpehddbpingobaaDoor

namespace Go.Proofs.YtpehddbpingobaaDoor
open Go.RowKit Go.Lib

theorem Whole.onS {w w' : World} {g : Nat} {t : TypeId} {cs : Array Value} (h : Whole w g t cs) (hb : Below w.heap.size w w') : Whole w' g t cs := h.below hb h.lt
end Go.Proofs.YtpehddbpingobaaDoor

namespace Go.Proofs.YtpehddbpingobaaDoor
open Go.RowKit Go.Lib
set_option linter.unusedVariables false
set_option linter.unusedSimpArgs false

theorem run_fieldE (a b : Int) (s : ByteArray) (W : World) : Sem.run Tryd.prog (Instr.field 29 (.agg #[.int .i64 a, .int .i64 b, .string s]) 0) W = .ok (.int .i64 a) W := by kernel_rfl
/-- A right value is made, and behind it, in whatever world, its text. -/
def RealTx (v : V) (w : World) (e : Ending) (w' : World) : Prop :=
  ∃ o : C6, e = .returned (.agg o.arr) ∧ Below w.heap.size w w' ∧ ∀ W, Below w'.heap.size w' W → Calls Tryd.prog 7 #[.agg o.arr] W fun e W' => e = .returned (.tuple #[.string ⟨(canT v).toArray⟩, .nilIface]) ∧ Below W.heap.size W W'
theorem realTx_any (v : V) (cs : Array Value) (B : Nat) (w : World) (hk : chk 20 v = none) (hw : wgt v ≤ 300) (hv : Val w (· < B) 1000000 v cs) (hB : B ≤ w.heap.size) (hG : Glob w) (hT : Tabs w) (hN : 6 ≤ w.heap.size) :
    Calls Tryd.prog 8 #[.agg cs] w (RealTx v w) := by
  refine (real_any 300 v cs B w hw (by omega) hv hB).mono ?_
  rintro e w' ⟨⟨o, rfl, ho⟩, hb⟩
  refine ⟨o, rfl, hb, fun W hW => ?_⟩
  have hbw : Below w.heap.size w W := hb.trans (hW.mono hb.size)
  refine (text_any v o w'.heap.size W (ho.keep (fun p hp => hW.cell hp.2) (fun b hb => hb.2)) hW.size ((hG.below hb).below hW) (hT.below hbw (Nat.lt_of_lt_of_le (by decide) hN) (Nat.lt_of_lt_of_le (by decide) hN)) (Nat.le_trans hN hbw.size) (fun h => by have := canT_len 20 v h; omega)).mono ?_
  rintro e W' ⟨hb', ⟨hr, rfl⟩ | ⟨p, cd, x, hr, rfl, hch⟩⟩
  · exact ⟨rfl, hb'⟩
  · rw [hk] at hr; cases hr

set_option maxRecDepth 100000 in
set_option maxHeartbeats 8000000 in
theorem lawOnce_any (v v' : V) (c c' : C6) (B M : Nat) (w : World) (hM : M ≤ 1000000000) (hw : wgt v ≤ 1000000000) (hw' : wgt v' ≤ 1000000000) (hv : Val w (· < B) M v c.arr) (hv' : Val w (· < B) M v' c'.arr) (hB : B ≤ w.heap.size) (hG : Glob w) (hT : Tabs w) (hN : 6 ≤ w.heap.size) :
    Calls Tryd.prog 3 #[.agg c.arr, .agg c'.arr] w fun e w' => e = .returned (.bool true) ∧ Below w.heap.size w w' := by
  obtain ⟨jk, jy, jn, jt, ja, jla, jca, jb, jlb, jcb⟩ := c
  obtain ⟨zk, zy, zn, zt, za, zla, zca, zb, zlb, zcb⟩ := c'
  have hNT : ∀ W, Below w.heap.size w W → Glob W ∧ Tabs W ∧ 6 ≤ W.heap.size := fun W hW => ⟨hG.below hW, hT.below hW (Nat.lt_of_lt_of_le (by decide) hN) (Nat.lt_of_lt_of_le (by decide) hN), Nat.le_trans hN hW.size⟩
  have HAw := Lib.hid (fun W (hW : Below w.heap.size w W) => awake3_any W (hNT W hW).1 (hNT W hW).2.1 (hNT W hW).2.2)
  have HV := Lib.hid (And.intro hv (And.intro hv' hNT))
  have HF := Lib.hid (fun W (hW : Below w.heap.size w W) => few_any M hM 300 (by omega) v _ B W hw (hv.keep (fun p hp => hW.cell (Nat.lt_of_lt_of_le hp hB)) (fun _ h => h)) (Nat.le_trans hB hW.size))
  have HF' := Lib.hid (fun W (hW : Below w.heap.size w W) => few_any M hM 300 (by omega) v' _ B W hw' (hv'.keep (fun p hp => hW.cell (Nat.lt_of_lt_of_le hp hB)) (fun _ h => h)) (Nat.le_trans hB hW.size))
  obtain ⟨W0, hW0⟩ : ∃ W0, (w.alloc (.cells #[.int .i64 jk, .bool jy, .int .i64 jn, .string jt, .slice ja jla jca, .slice jb jlb jcb] 25)).alloc (.cells #[.int .i64 zk, .bool zy, .int .i64 zn, .string zt, .slice za zla zca, .slice zb zlb zcb] 25) = W0 := ⟨_, rfl⟩
  have hb0 : Below w.heap.size w W0 := hW0 ▸ ((Below.refl _ _).alloc (Nat.le_refl _) _).alloc (by simp) _
  have hwj : Whole W0 w.heap.size 25 #[.int .i64 jk, .bool jy, .int .i64 jn, .string jt, .slice ja jla jca, .slice jb jlb jcb] := hW0 ▸ (Whole.made w _ _).alloc _
  have hwi : Whole W0 (w.heap.size + 1) 25 #[.int .i64 zk, .bool zy, .int .i64 zn, .string zt, .slice za zla zca, .slice zb zlb zcb] := by
    have := Whole.made (w.alloc (.cells #[.int .i64 jk, .bool jy, .int .i64 jn, .string jt, .slice ja jla jca, .slice jb jlb jcb] 25)) 25 #[.int .i64 zk, .bool zy, .int .i64 zn, .string zt, .slice za zla zca, .slice zb zlb zcb]
    rw [hW0] at this
    simpa using this
  have HW0 := Lib.hid hW0
  have HD0 := Lib.hid (And.intro hwj (And.intro hwi hb0))
  clear hv hv' hG hT hNT hW0 hb0 hwj hwi
  dsimp only [C6.arr] at HF HF' HV ⊢
  go_enter Tryd.func3, Tryd.ntmps3
  go_wp2_with fail
  rw [HW0.out]
  refine (HAw.out W0 HD0.out.2.2).mono ?_
  rintro e W1 ⟨rfl, hb1⟩
  have HD1 := Lib.hid (And.intro (HD0.out.1.onS hb1) (And.intro (HD0.out.2.1.onS hb1) (HD0.out.2.2.trans (hb1.mono HD0.out.2.2.size))))
  clear hb1
  obtain ⟨x0, x1, x2, x3, x4, x5⟩ := HD1.out.1.six
  have hz1 : w.heap.size < W1.heap.size := HD1.out.1.lt
  go_wp2_with fail
  refine (HF.out W1 HD1.out.2.2).mono ?_
  rintro e W2 ⟨rfl, hb2⟩
  have HD2 := Lib.hid (And.intro (HD1.out.1.onS hb2) (And.intro (HD1.out.2.1.onS hb2) (HD1.out.2.2.trans (hb2.mono HD1.out.2.2.size))))
  clear x0 x1 x2 x3 x4 x5 hz1 hb2
  by_cases h300 : wgt v ≤ 300
  rotate_left
  · have hdec : decide (wgt v ≤ 300) = false := decide_eq_false h300
    rw [hdec]
    clear hdec h300
    go_wp2_with fail
    refine (HAw.out W2 HD2.out.2.2).mono ?_
    rintro e Wa ⟨rfl, hba⟩
    have HBa := Lib.hid (HD2.out.2.2.trans (hba.mono HD2.out.2.2.size))
    clear hba
    go_wp2_with fail
    go_ret
    exact ⟨rfl, HBa.out⟩
  have hdec : decide (wgt v ≤ 300) = true := decide_eq_true h300
  rw [hdec]
  clear hdec
  obtain ⟨y0, y1, y2, y3, y4, y5⟩ := HD2.out.2.1.six
  have hz2 : w.heap.size + 1 < W2.heap.size := HD2.out.2.1.lt
  have H300 := Lib.hid h300
  clear h300
  go_wp2_with fail
  refine (HF'.out W2 HD2.out.2.2).mono ?_
  rintro e W3 ⟨rfl, hb3⟩
  have HD3 := Lib.hid (And.intro (HD2.out.1.onS hb3) (And.intro (HD2.out.2.1.onS hb3) (HD2.out.2.2.trans (hb3.mono HD2.out.2.2.size))))
  clear y0 y1 y2 y3 y4 y5 hz2 hb3
  by_cases h300 : wgt v' ≤ 300
  rotate_left
  · have hdec : decide (wgt v' ≤ 300) = false := decide_eq_false h300
    rw [hdec]
    clear hdec h300
    go_wp2_with fail
    refine (HAw.out W3 HD3.out.2.2).mono ?_
    rintro e Wa ⟨rfl, hba⟩
    have HBa := Lib.hid (HD3.out.2.2.trans (hba.mono HD3.out.2.2.size))
    clear hba
    go_wp2_with fail
    go_ret
    exact ⟨rfl, HBa.out⟩
  have hdec : decide (wgt v' ≤ 300) = true := decide_eq_true h300
  rw [hdec]
  have H300' := Lib.hid h300
  clear hdec h300
  have hvs : ∀ W, Below w.heap.size w W → Val W (· < B) 1000000 v #[.int .i64 jk, .bool jy, .int .i64 jn, .string jt, .slice ja jla jca, .slice jb jlb jcb] := fun W hW => (HV.out.1.small (K := 300) (by omega) H300.out).keep (fun p hp => hW.cell (Nat.lt_of_lt_of_le hp hB)) (fun _ h => h)
  have hvs' : ∀ W, Below w.heap.size w W → Val W (· < B) 1000000 v' #[.int .i64 zk, .bool zy, .int .i64 zn, .string zt, .slice za zla zca, .slice zb zlb zcb] := fun W hW => (HV.out.2.1.small (K := 300) (by omega) H300'.out).keep (fun p hp => hW.cell (Nat.lt_of_lt_of_le hp hB)) (fun _ h => h)
  have HC := Lib.hid (fun W (hW : Below w.heap.size w W) => RefCheck_any v _ B W (hvs W hW) (Nat.le_trans hB hW.size))
  have HC' := Lib.hid (fun W (hW : Below w.heap.size w W) => RefCheck_any v' _ B W (hvs' W hW) (Nat.le_trans hB hW.size))
  have hgood := chk_good 20 v (hvs w (Below.refl _ _)).ok
  have hgood' := chk_good 20 v' (hvs' w (Below.refl _ _)).ok
  have HR := Lib.hid (fun hk W (hW : Below w.heap.size w W) => realTx_any v _ B W hk H300.out (hvs W hW) (Nat.le_trans hB hW.size) (HV.out.2.2 W hW).1 (HV.out.2.2 W hW).2.1 (HV.out.2.2 W hW).2.2)
  have HR' := Lib.hid (fun hk W (hW : Below w.heap.size w W) => realTx_any v' _ B W hk H300'.out (hvs' W hW) (Nat.le_trans hB hW.size) (HV.out.2.2 W hW).1 (HV.out.2.2 W hW).2.1 (HV.out.2.2 W hW).2.2)
  have HRS := Lib.hid (fun W (hW : Below w.heap.size w W) => refsame_any 300 v v' _ _ B W H300.out (by omega) (hvs W hW) (hvs' W hW) (Nat.le_trans hB hW.size))
  unfold RefAns at HC HC'
  unfold RealTx at HR HR'
  have HG := Lib.hid hgood
  have HG' := Lib.hid hgood'
  clear hvs hvs' hgood hgood'
  obtain ⟨x0, x1, x2, x3, x4, x5⟩ := HD3.out.1.six
  have hz3 : w.heap.size < W3.heap.size := HD3.out.1.lt
  go_wp2_with fail
  refine (HC.out W3 HD3.out.2.2).mono ?_
  rintro e W4 ⟨rfl, hb4⟩
  have HD4 := Lib.hid (And.intro (HD3.out.1.onS hb4) (And.intro (HD3.out.2.1.onS hb4) (HD3.out.2.2.trans (hb4.mono HD3.out.2.2.size))))
  clear x0 x1 x2 x3 x4 x5 hz3 hb4
  have hfld := fun W => run_fieldE (refCode (chk 20 v)) (-1) (refPath (chk 20 v)) W
  by_cases hr : chk 20 v = none
  rotate_left
  · have hec : (refCode (chk 20 v) != 0) = true := by
      cases h : chk 20 v with
      | none => exact absurd h hr
      | some pc => simpa [refCode] using (HG.out pc.1 pc.2 h).1
    obtain ⟨rc, hrc⟩ : ∃ rc, refCode (chk 20 v) = rc := ⟨_, rfl⟩
    obtain ⟨rp, hrp⟩ : ∃ rp, refPath (chk 20 v) = rp := ⟨_, rfl⟩
    simp only [hrc, hrp] at hfld hec ⊢
    clear hr hrc hrp
    go_wp2_with fail
    refine (HAw.out W4 HD4.out.2.2).mono ?_
    rintro e Wa ⟨rfl, hba⟩
    have HBa := Lib.hid (HD4.out.2.2.trans (hba.mono HD4.out.2.2.size))
    clear hba
    go_wp2_with fail
    go_ret
    exact ⟨rfl, HBa.out⟩
  have HK := Lib.hid hr
  rw [hr] at hfld
  rw [hr]
  simp only [refCode, refPath] at hfld ⊢
  clear hr
  obtain ⟨y0, y1, y2, y3, y4, y5⟩ := HD4.out.2.1.six
  have hz4 : w.heap.size + 1 < W4.heap.size := HD4.out.2.1.lt
  go_wp2_with fail
  refine (HC'.out W4 HD4.out.2.2).mono ?_
  rintro e W5 ⟨rfl, hb5⟩
  have HD5 := Lib.hid (And.intro (HD4.out.1.onS hb5) (And.intro (HD4.out.2.1.onS hb5) (HD4.out.2.2.trans (hb5.mono HD4.out.2.2.size))))
  clear y0 y1 y2 y3 y4 y5 hz4 hb5
  clear hfld
  have hfld := fun W => run_fieldE (refCode (chk 20 v')) (-1) (refPath (chk 20 v')) W
  by_cases hr : chk 20 v' = none
  rotate_left
  · have hec : (refCode (chk 20 v') != 0) = true := by
      cases h : chk 20 v' with
      | none => exact absurd h hr
      | some pc => simpa [refCode] using (HG'.out pc.1 pc.2 h).1
    obtain ⟨rc, hrc⟩ : ∃ rc, refCode (chk 20 v') = rc := ⟨_, rfl⟩
    obtain ⟨rp, hrp⟩ : ∃ rp, refPath (chk 20 v') = rp := ⟨_, rfl⟩
    simp only [hrc, hrp] at hfld hec ⊢
    clear hr hrc hrp
    go_wp2_with fail
    refine (HAw.out W5 HD5.out.2.2).mono ?_
    rintro e Wa ⟨rfl, hba⟩
    have HBa := Lib.hid (HD5.out.2.2.trans (hba.mono HD5.out.2.2.size))
    clear hba
    go_wp2_with fail
    go_ret
    exact ⟨rfl, HBa.out⟩
  have HK' := Lib.hid hr
  rw [hr] at hfld
  rw [hr]
  simp only [refCode, refPath] at hfld ⊢
  clear hr
  obtain ⟨x0, x1, x2, x3, x4, x5⟩ := HD5.out.1.six
  have hz5 : w.heap.size < W5.heap.size := HD5.out.1.lt
  go_wp2_with fail
  refine (HR.out HK.out W5 HD5.out.2.2).mono ?_
  rintro e W6 ⟨o, rfl, hb6, htx⟩
  have HD6 := Lib.hid (And.intro (HD5.out.1.onS hb6) (And.intro (HD5.out.2.1.onS hb6) (HD5.out.2.2.trans (hb6.mono HD5.out.2.2.size))))
  clear x0 x1 x2 x3 x4 x5 hz5 hb6
  have HTx := Lib.hid htx
  clear htx hfld
  have hz6 : w.heap.size < W6.heap.size := HD6.out.1.lt
  go_wp2_with fail
  refine (HTx.out W6 (Below.refl _ _)).mono ?_
  rintro e W7 ⟨rfl, hb7⟩
  have HD7 := Lib.hid (And.intro (HD6.out.1.onS hb7) (And.intro (HD6.out.2.1.onS hb7) (HD6.out.2.2.trans (hb7.mono HD6.out.2.2.size))))
  clear hb7 hz6
  obtain ⟨D, hD⟩ : ∃ D : ByteArray, (⟨(canT v).toArray⟩ : ByteArray) = D := ⟨_, rfl⟩
  rw [hD]
  have HD := Lib.hid hD
  clear hD
  obtain ⟨y0, y1, y2, y3, y4, y5⟩ := HD7.out.2.1.six
  have hz7 : w.heap.size + 1 < W7.heap.size := HD7.out.2.1.lt
  go_wp2_with fail
  refine (HR'.out HK'.out W7 HD7.out.2.2).mono ?_
  rintro e W8 ⟨o', rfl, hb8, htx⟩
  have HD8 := Lib.hid (And.intro (HD7.out.1.onS hb8) (And.intro (HD7.out.2.1.onS hb8) (HD7.out.2.2.trans (hb8.mono HD7.out.2.2.size))))
  clear y0 y1 y2 y3 y4 y5 hz7 hb8
  have HTx' := Lib.hid htx
  clear htx
  have hz8 : w.heap.size < W8.heap.size := HD8.out.1.lt
  go_wp2_with fail
  refine (HTx'.out W8 (Below.refl _ _)).mono ?_
  rintro e W9 ⟨rfl, hb9⟩
  have HD9 := Lib.hid (And.intro (HD8.out.1.onS hb9) (And.intro (HD8.out.2.1.onS hb9) (HD8.out.2.2.trans (hb9.mono HD8.out.2.2.size))))
  clear hb9 hz8
  obtain ⟨D', hD'⟩ : ∃ D' : ByteArray, (⟨(canT v').toArray⟩ : ByteArray) = D' := ⟨_, rfl⟩
  rw [hD']
  have HDD : RowKit.Hid (decide (D.toList = D'.toList) = same v v') := Lib.hid (by
    rw [← once HK.out HK'.out]
    have e := HD.out
    congr 1
    rw [← HD.out, ← hD']
    exact propext ⟨fun h => by have := toList_inj h; injection this with h; exact Array.mk.inj h, fun h => by rw [h]⟩)
  clear hD'
  obtain ⟨S, hS⟩ : ∃ S, same v v' = S := ⟨_, rfl⟩
  rw [hS] at HRS HDD
  clear hS
  obtain ⟨x0, x1, x2, x3, x4, x5⟩ := HD9.out.1.six
  have hz9 : w.heap.size < W9.heap.size := HD9.out.1.lt
  obtain ⟨y0, y1, y2, y3, y4, y5⟩ := HD9.out.2.1.six
  have hz9y : w.heap.size + 1 < W9.heap.size := HD9.out.2.1.lt
  go_wp2_with fail
  refine (HRS.out W9 HD9.out.2.2).mono ?_
  rintro e Wz ⟨rfl, hbz⟩
  have HBz := Lib.hid (HD9.out.2.2.trans (hbz.mono HD9.out.2.2.size))
  clear hbz
  go_wp2_with fail
  go_ret
  refine ⟨?_, HBz.out⟩
  have h := HDD.out
  subst h
  simp
  rw [Bool.eq_iff_iff]
  simp
end Go.Proofs.YtpehddbpingobaaDoor

namespace Go.Proofs.YtpehddbpingobaaDoor
open Go.ChangeShapes Go.WideShapes Go.ChangeAt Go.RowKit Go.Lib Go.Shelf
set_option linter.unusedVariables false
set_option linter.unusedSimpArgs false

theorem own : ownKnob Tryd.prog.godebug = none := by kernel_rfl
theorem pow_eq : Rows.laid_internal_strconv_uint64pow10 = tabData (H := Unit) .u64 Lib.pow10Tab := by kernel_rfl
set_option maxRecDepth 100000 in
theorem first_eq : Rows.laid_unicode_utf8_first = firstData := by kernel_rfl
theorem acc_eq : Rows.laid_unicode_utf8_acceptRanges = acceptData := by kernel_rfl

/-- The variables that every row of this seat lists. -/
def laidAll : List (String × DataW Unit) := [("math/bits.deBruijn32tab", Rows.laid_math_bits_deBruijn32tab), ("math/bits.deBruijn64tab", Rows.laid_math_bits_deBruijn64tab), ("internal/strconv.uint64pow10", Rows.laid_internal_strconv_uint64pow10), ("unicode/utf8.acceptRanges", Rows.laid_unicode_utf8_acceptRanges), ("unicode/utf8.first", Rows.laid_unicode_utf8_first)]

theorem glob_of_laid {W : World} (h : laidMetH Tryd.prog laidAll W) : Glob W := by
  have h' : laidMet Tryd.prog [("math/bits.deBruijn32tab", Rows.laid_math_bits_deBruijn32tab), ("math/bits.deBruijn64tab", Rows.laid_math_bits_deBruijn64tab), ("internal/strconv.uint64pow10", Rows.laid_internal_strconv_uint64pow10), ("unicode/utf8.acceptRanges", Rows.laid_unicode_utf8_acceptRanges), ("unicode/utf8.first", Rows.laid_unicode_utf8_first)] W := h
  refine ⟨?_, ?_, ?_⟩
  · exact trivial
  · have h1 := Lib.laidMet.reads h' (n := "unicode/utf8.first") (d := Rows.laid_unicode_utf8_first) (.tail _ (.tail _ (.tail _ (.tail _ (.head _)))))
    have h2 := Lib.laidMet.reads h' (n := "unicode/utf8.acceptRanges") (d := Rows.laid_unicode_utf8_acceptRanges) (.tail _ (.tail _ (.tail _ (.head _))))
    rw [first_eq] at h1
    rw [acc_eq] at h2
    exact utf8Tabs_of_readsT (U8Types.of196 Tryd.laysValid) ⟨by kernel_rfl, by kernel_rfl, by kernel_rfl, by kernel_rfl, by kernel_rfl, by kernel_rfl, by kernel_rfl⟩ h1 h2
  · obtain ⟨g, t, cs, fuel, p, hg, hty, hvar, hd⟩ := Lib.laidMet.reads h' (n := "internal/strconv.uint64pow10") (d := Rows.laid_internal_strconv_uint64pow10) (.tail _ (.tail _ (.head _)))
    rw [pow_eq] at hd
    obtain rfl := Option.some.inj ((show Tryd.prog.globalNamed "internal/strconv.uint64pow10" = some 3 by kernel_rfl).symm.trans hg)
    obtain rfl := Option.some.inj ((show (Tryd.prog.globals[3]?).map (·.type) = some 140 by kernel_rfl).symm.trans hty)
    unfold TabIs
    rw [hvar, ← cells_of_tab Tryd.underlying140 Tryd.underlying68 (by kernel_rfl) (by kernel_rfl) hd]

/-- The numbers that a table's data tells. -/
def litNums : DataW Unit → List Int
  | .agg l => l.filterMap fun | .lit (.int _ z) => some z | _ => none
  | _ => []
def debTab : List Int := litNums Rows.laid_math_bits_deBruijn64tab
set_option maxRecDepth 100000 in
theorem deb_eq : Rows.laid_math_bits_deBruijn64tab = tabData (H := Unit) .u8 debTab := by kernel_rfl
theorem deb_15 : debTab.getD 15 0 = 4 := by kernel_rfl
theorem deb_named : Tryd.prog.globalNamed "math/bits.deBruijn64tab" = some 5 := by kernel_rfl
theorem tabs_of_laid {W : World} (h : laidMetH Tryd.prog laidAll W) : Tabs W := by
  refine ⟨?_, (glob_of_laid h).2.2⟩
  have h' : laidMet Tryd.prog [("math/bits.deBruijn32tab", Rows.laid_math_bits_deBruijn32tab), ("math/bits.deBruijn64tab", Rows.laid_math_bits_deBruijn64tab), ("internal/strconv.uint64pow10", Rows.laid_internal_strconv_uint64pow10), ("unicode/utf8.acceptRanges", Rows.laid_unicode_utf8_acceptRanges), ("unicode/utf8.first", Rows.laid_unicode_utf8_first)] W := h
  obtain ⟨g, t, cs, fuel, p, hg, hty, hvar, hd⟩ := Lib.laidMet.reads h' (n := "math/bits.deBruijn64tab") (d := Rows.laid_math_bits_deBruijn64tab) (.tail _ (.head _))
  rw [deb_eq] at hd
  obtain rfl := Option.some.inj (deb_named.symm.trans hg)
  obtain rfl := Option.some.inj ((show (Tryd.prog.globals[5]?).map (·.type) = some 145 by kernel_rfl).symm.trans hty)
  have htab : Lib.TabIs Tryd.prog W "math/bits.deBruijn64tab" .u8 debTab := by
    unfold TabIs
    rw [hvar, ← cells_of_tab Tryd.underlying145 Tryd.underlying5 (by kernel_rfl) (by kernel_rfl) hd]
  have hc := htab.cell deb_named 15 (by decide)
  unfold Deb
  rw [hc]
  rw [deb_15]
theorem tabs_many {W : World} (h : Tabs W) : 6 ≤ W.heap.size := lt_of_cell h.1

/-- The cells that a table's data tells. -/
def litCells : DataW Unit → List Value
  | .agg l => l.filterMap fun | .lit (.int k z) => some (.int k z) | _ => none
  | _ => []
/-- A world for the witness: the settled one, the listed variables holding what their initialisers lay. -/
noncomputable def laidWorld (os : Os) : World :=
  let w0 := World.holding Tryd.prog os ⟨#[], #[], []⟩
  let put (h : Array Obj) (g : Nat) (cs : Array Value) : Array Obj := h.modify g fun
    | .cells _ t frozen => .cells cs t frozen
    | o => o
  let h1 := put w0.heap 1 (Lib.firstTab.map fun z => Value.int .u8 z).toArray
  let h2 := put h1 2 ((List.range 16).flatMap fun i => [Value.int .u8 (Lib.accLo i), Value.int .u8 (Lib.accHi i)]).toArray
  let h3 := put h2 3 (litCells Rows.laid_internal_strconv_uint64pow10).toArray
  let h4 := put h3 4 (litCells Rows.laid_math_bits_deBruijn32tab).toArray
  let h5 := put h4 5 (litCells Rows.laid_math_bits_deBruijn64tab).toArray
  { w0 with heap := h5 }
set_option maxRecDepth 100000 in
theorem laid_met (os : Os) (args : Array Value) : laidMetH Tryd.prog laidAll ((laidWorld os).forCall (fun _ _ => 0) ⟨#[], args, []⟩).memory :=
  (laidMet_of_run' 8 (by kernel_rfl) (by kernel_rfl) : laidMet Tryd.prog laidAll ((laidWorld os).forCall (fun _ _ => 0) ⟨#[], args, []⟩).memory)
end Go.Proofs.YtpehddbpingobaaDoor

namespace Go.Proofs.YtpehddbpingobaaDoor.canonOnce
open Go.ChangeMaps Go.ChangeShapes Go.WideShapes Go.ChangeAt Go.RowKit Go.Lib
set_option linter.unusedVariables false
set_option linter.unusedSimpArgs false

theorem laidOut : laidOutB Tryd.prog = true := by kernel_rfl

set_option maxRecDepth 100000 in
/-- What the walk gives, for every argument of that bulk and every world that holds the variables. -/
theorem contract (H : Type) (enc : TypeId × Value → H) (W : World) (base : Nat) (args : Array Value) (ds gs : List (DataW H)) (before : List MemPlace)
    (hval : ∀ (j : Nat) t v, Tryd.f3.params[j]? = some t → args[j]? = some v → Value.okWide Tryd.prog W .any base t v)
    (hW : DataW.Whole enc Tryd.prog Tryd.f3.params.toList Rows.canonOnceSpec.vars false W args.toList ds gs before) (hL : laidMetH Tryd.prog Rows.canonOnceRow.laid W) (hk : Rows.uptoBulkAll (ds ++ gs) ≤ 1048576) :
    Calls Tryd.prog 3 args W fun e W' => ∃ v, e = .returned v ∧ Rows.canonOnceSpec.post enc Tryd.prog Tryd.f3 false true false false W args v W' := by
  have hG : Glob W := glob_of_laid hL
  have hW' := hW
  obtain ⟨p, q, hA0, hV, rfl, hfz, hnd⟩ := hW
  have hA : DataW.TrodAll enc Tryd.prog W 0 (fun _ => true) true Tryd.f3.params.toList args.toList ds p := hA0
  rw [Tryd.params3] at hA hval
  obtain ⟨v0, v1, d0, d1, p0, p1, rfl, rfl, rfl, h0, h1⟩ := trodAll_two hA
  obtain ⟨rfl, rfl⟩ := trodVars_none hV
  obtain ⟨cs, rfl, hcs⟩ := okWide_struct Tryd.underlying25 (hval 0 25 v0 rfl rfl)
  obtain ⟨cs', rfl, hcs'⟩ := okWide_struct Tryd.underlying25 (hval 1 25 v1 rfl rfl)
  have h0k := h0
  have h1k := h1
  obtain ⟨fuel, hf⟩ := h0
  obtain ⟨fuel', hf'⟩ := h1
  clear hA0
  simp only [List.append_nil] at hW' hk
  have hk1 : Rows.uptoBulk d0 ≤ 1048576 ∧ Rows.uptoBulk d1 ≤ 1048576 := by
    simp [Rows.uptoBulkAll] at hk
    omega
  obtain ⟨v, c, hc, hv, hw⟩ := open_V (M := 1048576) 1048576 fuel _ _ hf hk1.1 (Nat.le_refl _)
  obtain ⟨v', c', hc', hv', hw'⟩ := open_V (M := 1048576) 1048576 fuel' _ _ hf' hk1.2 (Nat.le_refl _)
  obtain rfl : cs = c.arr := by
    have h1 : cs.toList = c.arr.toList := hc
    exact Array.toList_inj.1 h1
  obtain rfl : cs' = c'.arr := by
    have h1 : cs'.toList = c'.arr.toList := hc'
    exact Array.toList_inj.1 h1
  have hlt : ∀ x ∈ p0, x.block < W.heap.size := fun x hx => hW'.lt x (List.mem_append_left _ hx)
  have hlt' : ∀ x ∈ p1, x.block < W.heap.size := fun x hx => hW'.lt x (List.mem_append_right _ hx)
  have e1 : Rows.canonOnceSpec.fn H ([d0, d1] ++ []) = { results := [.lit (.bool true)], args := [d0, d1] } := rfl
  have fin : ∀ (W' : World), Below W.heap.size W W' → Rows.canonOnceSpec.post enc Tryd.prog Tryd.f3 false true false false W #[.agg c.arr, .agg c'.arr] (.bool true) W' := by
    intro W' hnx
    refine ⟨_, _, _, [], p0 ++ p1, [], hW', ?_, ?_, by rw [e1]; rfl, hnx.frame _, fun h => by cases h⟩
    · rw [e1]; exact trodAll_mk1 (shut_bool Tryd.underlying4 true)
    · rw [e1]; exact trodAll_mk2 (Below.trod laidOut (by kernel_rfl) (of_decide_eq_true (by kernel_rfl)) h0k hnx hlt) (Below.trod laidOut (by kernel_rfl) (of_decide_eq_true (by kernel_rfl)) h1k hnx hlt')
  refine (lawOnce_any v v' c c' W.heap.size 1048576 W (by omega) (by have : Rows.uptoBulk (d0, p0).1 = Rows.uptoBulk d0 := rfl; omega) (by have : Rows.uptoBulk (d1, p1).1 = Rows.uptoBulk d1 := rfl; omega) hv hv' (Nat.le_refl _) hG (tabs_of_laid hL) (tabs_many (tabs_of_laid hL))).mono fun e W' ⟨he, hb⟩ => ?_
  subst he
  exact ⟨_, rfl, fin W' hb⟩

theorem reads (os : Os) {H : Type} (enc : TypeId × Value → H) : ∃ places, DataW.whole enc Tryd.prog ((laidWorld os).forCall (fun _ _ => 0) ⟨#[], #[.agg zero6, .agg zero6], []⟩).memory Tryd.f3.params.toList Rows.canonOnceSpec.vars false #[Value.agg zero6, Value.agg zero6].toList 8 = some ([.agg [.lit (.int .i64 0), .lit (.bool false), .lit (.int .i64 0), .lit (.string []), .nil, .nil], .agg [.lit (.int .i64 0), .lit (.bool false), .lit (.int .i64 0), .lit (.string []), .nil, .nil]], [], places) :=
  ⟨[], by kernel_rfl⟩

set_option maxRecDepth 100000 in
theorem lifted (os : Os) (started : os.Started) (H : Type) (enc : TypeId × Value → H) (F : Stop.Interp) :
    ReturnsInHanded {} Tryd.checked os 3 .any ((Rows.OpenSpec.upto Rows.canonOnceSpec).preRow enc Tryd.prog Tryd.f3 Rows.canonOnceUptoRow.domain false Rows.canonOnceUptoRow.laid) (((Rows.OpenSpec.upto Rows.canonOnceSpec).at F).post enc Tryd.prog Tryd.f3 false true false false) := by
  obtain ⟨places, hx⟩ := reads os enc
  refine returnsInHanded_of_row (C := Tryd.checked) (s := Rows.OpenSpec.upto Rows.canonOnceSpec) own started (by kernel_rfl) Tryd.func3
    (witness_row_at (enc := enc) (C := Tryd.checked) false (laidWorld os) #[.agg zero6, .agg zero6] rfl (by kernel_rfl) (by kernel_rfl) (by kernel_rfl)
      (OpenSpec.preRow_of_cond 8 hx (by kernel_rfl) (fun k hk => by cases hk; kernel_rfl) (by kernel_rfl) (laid_met os _))) ?_
  intro W base args ds gs before hval hW _ hcond _ hL _ _
  refine contract H enc W base args ds gs before hval hW hL ?_
  have h := of_decide_eq_true (hcond _ rfl)
  exact h

theorem said : Rows.CanonOnceUptoSaid :=
  OpenClaim.holds_of_cond 3 Tryd.f3 rfl rfl rfl rfl rfl rfl rfl ⟨rfl, rfl, rfl, rfl, rfl⟩ rfl rfl rfl rfl rfl (by kernel_rfl) Tryd.func3 (by kernel_rfl)
    (of_decide_eq_true (by kernel_rfl)) (by unfold Func.isWrapper; first | (rw [if_pos (by decide +kernel)]; kernel_rfl) | (rw [if_neg (by decide +kernel)]; exact ⟨rfl, rfl⟩))
    (fun os started H enc _ F => by rw [OpenClaim.pre_eq_preRow]; exact lifted os started H enc F)

theorem plain (f : FuncId) (fn : Func) (hf : Tryd.pinned.checked.prog.funcNamed "enfilade/enfiladelaw03.CanonOnce" = some f) (hfn : Tryd.pinned.checked.prog.funcs[f]? = some fn) :
    false = Tryd.pinned.checked.prog.looks [] ∧ ∀ (j : Nat) t, fn.params[j]? = some t → Tryd.pinned.checked.prog.wantsStandIn t = false := by
  obtain rfl : f = 3 := Option.some.inj ((show Tryd.prog.funcNamed "enfilade/enfiladelaw03.CanonOnce" = some 3 by kernel_rfl).symm.trans hf) |>.symm
  obtain rfl : fn = Tryd.f3 := (Option.some.inj (Tryd.func3.symm.trans hfn)).symm
  refine ⟨by kernel_rfl, fun j t ht => ?_⟩
  rw [Tryd.params3] at ht
  obtain rfl : t = 25 := by simpa using Array.mem_of_getElem? ht
  exact (show Tryd.prog.wantsStandIn 25 = false by kernel_rfl)

theorem card : Rows.CanonOnceUptoCardSaid :=
  Claim7.holds_tied_plain_at .later [] _ _ _ _ said (fun _ h => by cases h) (by kernel_rfl) (fun _ h => by cases h) canonOnceUpto_row_tie rfl ⟨rfl, rfl⟩ (by kernel_rfl) rfl plain (by kernel_rfl)
end Go.Proofs.YtpehddbpingobaaDoor.canonOnce
namespace Go.Proofs.YtpehddbpingobaaDoor
theorem canonOnce_card : Rows.CanonOnceUptoCardSaid := canonOnce.card
end Go.Proofs.YtpehddbpingobaaDoor
