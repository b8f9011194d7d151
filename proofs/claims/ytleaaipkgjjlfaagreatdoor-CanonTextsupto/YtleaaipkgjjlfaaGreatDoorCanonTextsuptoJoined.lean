/-
  Proved: the statement of the law CanonTexts (the canonical text of any value, or what is wrong with it, is the document's), in its second form. Conditions: those of the given row alone (the arguments are of bulk at most 1048576; the listed package variables hold what their initialisers lay).
-/
import Derived.Test.YtleaaipkgjjlfaaGreatDoorCn6
import Derived.Test.YtleaaipkgjjlfaaGreatDoorHex1
import Derived.Laws.Bits64
import Derived.Test.YtleaaipkgjjlfaaGreatDoorHex2
import Derived.Test.YtleaaipkgjjlfaaGreatDoorMem2
import Derived.Test.YtleaaipkgjjlfaaGreatDoorLet0
import Derived.Test.YtleaaipkgjjlfaaGreatDoorProg
import Derived.Below
import Derived.IntWalk
import Derived.Deep.LoopGhost
import Derived.Deep.QuietTactic
import Derived.BigQuiet
import Derived.Test.YtleaaipkgjjlfaaGreatDoorCanT1
import Derived.Test.YtleaaipkgjjlfaaGreatDoorFew
import Derived.Test.YtleaaipkgjjlfaaGreatDoorDigits
import Derived.Test.YtleaaipkgjjlfaaGreatDoorCanP
import Derived.Deep.RegionHeld3
import Derived.Deep.DeepMust
import Derived.Test.YtleaaipkgjjlfaaGreatDoorSort2
import Derived.Test.YtleaaipkgjjlfaaGreatDoorVals
import Derived.Lib.ItoaLen
import Derived.Deep.CutRange
import Derived.Test.YtleaaipkgjjlfaaGreatDoorReal3
import Derived.Test.YtleaaipkgjjlfaaGreatDoorCn3
import Derived.Test.YtleaaipkgjjlfaaGreatDoorCards
import Derived.Test.YtleaaipkgjjlfaaGreatDoorTie
import Derived.WalkKit
import Derived.ProofKit
import Derived.OpenShut
import Derived.Deep.DeepHandedRow
import Derived.Lib.LaidTab
import Derived.Lib.LaidIn
import Derived.Lib.LaidU8T
import Derived.LaidHandle
import Derived.Test.YtleaaipkgjjlfaaGreatDoorOpen1
import Derived.Carry
import Derived.Deep.DeepWitnessRowRef
import Derived.SizedLaws
namespace Go.Proofs.YtleaaipkgjjlfaaGreatDoor
open Go.RowKit Go.Lib
set_option linter.unusedVariables false
set_option linter.unusedSimpArgs false

theorem put_any : ∀ d, PutC d
  | 0 => fun v c B b x w hk hv hT hB h hx => by
    cases v with
    | mk k y n t l m =>
    obtain ⟨-, -, -, h4, h5⟩ := chkHead_none hk
    exact put_head 0 _ _ k y n t l m c B b x w hk hv hT hB h hx (fun e => absurd (h4 e) (by simp)) (fun e => absurd (h5 e) (by simp))
  | d + 1 => fun v c B b x w hk hv hT hB h hx => by
    cases v with
    | mk k y n t l m =>
    obtain ⟨-, -, -, h4, h5⟩ := chkHead_none hk
    refine put_head d _ _ k y n t l m c B b x w hk hv hT hB h hx (fun e A ca W hF hvl hca hl ht => ?_) (fun e A ca W hF hvm hca hl ht => ?_)
    · have hx' : x.length + (canL 0 l).length + 2 ≤ 400000000 := by
        rw [canT, if_neg (by omega), if_neg (by omega), if_neg (by omega), if_pos e, List.length_cons, List.length_append, List.length_singleton] at hx
        omega
      exact list_any d (put_any d) l A ca B b x W (chkL_none (h4 e)) (hvl.keep (fun p hp => hF.1.cell hp) (fun _ h => h)) hl hca (hT.below hF.1 (Nat.lt_of_lt_of_le (by decide) hB) (Nat.lt_of_lt_of_le (by decide) hB)) hB ht hx'
    · have hx' : x.length + (canM 0 m).length + 2 ≤ 400000000 := by
        rw [canT, if_neg (by omega), if_neg (by omega), if_neg (by omega), if_neg (by omega), if_pos e, List.length_cons, List.length_append, List.length_singleton] at hx
        omega
      exact members_any d (put_any d) m A ca B b x W (chkM_none (h5 e)) (hvm.keep (fun p hp => hF.1.cell hp) (fun _ h => h)) hl hca (hT.below hF.1 (Nat.lt_of_lt_of_le (by decide) hB) (Nat.lt_of_lt_of_le (by decide) hB)) hB ht hx'
theorem canT_ne (v : V) (d : Nat) (hk : chk d v = none) : canT v ≠ [] := by
  cases v with
  | mk k y n t l m =>
  have hh : ∃ fl fm, chkHead fl fm (.mk k y n t l m) = none := by
    cases d with
    | zero => exact ⟨_, _, hk⟩
    | succ d => exact ⟨_, _, hk⟩
  obtain ⟨fl, fm, hh⟩ := hh
  obtain ⟨hk0, -⟩ := chkHead_none hh
  rw [canT]
  rcases hk0 with rfl | rfl | rfl | rfl | rfl | rfl
  · rw [if_neg (by decide), if_neg (by decide), if_neg (by decide), if_neg (by decide), if_neg (by decide)]; simp
  · rw [if_pos rfl]; cases y <;> simp
  · rw [if_neg (by decide), if_pos rfl]
    intro h
    unfold Lib.itoa at h
    split at h
    · exact absurd h (by simp)
    · rw [decDigits] at h
      split at h <;> simp at h
  · rw [if_neg (by decide), if_neg (by decide), if_pos rfl, quoL]; simp
  · rw [if_neg (by decide), if_neg (by decide), if_neg (by decide), if_pos rfl]; simp
  · rw [if_neg (by decide), if_neg (by decide), if_neg (by decide), if_neg (by decide), if_pos rfl]; simp

/-- What the program's Text answers. -/
def TextAns (v : V) (w : World) (e : Ending) (w' : World) : Prop :=
  Below w.heap.size w w' ∧ ((chk 20 v = none ∧ e = .returned (.tuple #[.string ⟨(canT v).toArray⟩, .nilIface])) ∨
    ∃ p cd x, chk 20 v = some (p, cd) ∧ e = .returned (.tuple #[.string ⟨#[]⟩, x]) ∧ Chain w' (p.map fun s => ((-1 : Int), s)) cd x)
set_option maxHeartbeats 4000000 in
set_option maxRecDepth 100000 in
theorem text_any (v : V) (c : C6) (B : Nat) (w : World) (hv : Val w (· < B) 1000000 v c.arr) (hB : B ≤ w.heap.size) (hG : Glob w) (hT : Tabs w) (hN : 7 ≤ w.heap.size) (hlen : chk 20 v = none → (canT v).length ≤ 400000000) :
    Calls Tryz.prog 6 #[.agg c.arr] w (TextAns v w) := by
  obtain ⟨jk, jy, jn, jt, ja, jla, jca, jb, jlb, jcb⟩ := c
  obtain ⟨W0, hW0⟩ : ∃ W0, w.alloc (.cells #[.int .i64 jk, .bool jy, .int .i64 jn, .string jt, .slice ja jla jca, .slice jb jlb jcb] 36) = W0 := ⟨_, rfl⟩
  have hb0 : Below w.heap.size w W0 := hW0 ▸ (Below.refl _ _).alloc (Nat.le_refl _) _
  have hwh : Whole W0 w.heap.size 36 #[.int .i64 jk, .bool jy, .int .i64 jn, .string jt, .slice ja jla jca, .slice jb jlb jcb] := hW0 ▸ Whole.made _ _ _
  have hz0 : w.heap.size < W0.heap.size := hwh.lt
  have HC := Lib.hid (Check_any v _ B W0 (hv.keep (fun p hp => hb0.cell (Nat.lt_of_lt_of_le hp hB)) (fun _ h => h)) (Nat.le_trans hB hb0.size) (hG.below hb0))
  unfold Ans at HC
  have H0 := Lib.hid (And.intro hW0 (And.intro hb0 (And.intro hwh (And.intro hv (And.intro hT hlen)))))
  clear hW0 hb0 hwh hv hT hlen hG
  dsimp only [C6.arr] at *
  go_enter Tryz.func6, Tryz.ntmps6
  go_wp2_with fail
  rw [H0.out.1]
  refine HC.out.mono ?_
  rintro e W1 ⟨hb1, ⟨hr, rfl⟩ | ⟨p, cd, x, hr, rfl, hch⟩⟩
  · have hw1 := H0.out.2.2.1.below hb1 hz0
    obtain ⟨x0, x1, x2, x3, x4, x5⟩ := hw1.six
    have hbw1 : Below w.heap.size w W1 := H0.out.2.1.trans (hb1.mono H0.out.2.1.size)
    have hz1 : w.heap.size < W1.heap.size := Nat.lt_of_lt_of_le hz0 hb1.size
    have HX := Lib.hid (And.intro hr (And.intro hbw1 hw1))
    clear hr hb1 hbw1 hw1
    obtain ⟨W2, hW2⟩ : ∃ W2, W1.alloc (.cells #[.pointer none, .slice none 0 0] 59) = W2 := ⟨_, rfl⟩
    have hb2 : Below W1.heap.size W1 W2 := hW2 ▸ (Below.refl _ _).alloc (Nat.le_refl _) _
    have ht2 : Txt W1.heap.size W1.heap.size [] W2 := hW2 ▸ Txt.new W1
    have hv2 : Val W2 (· < W1.heap.size) 1000000 v #[.int .i64 jk, .bool jy, .int .i64 jn, .string jt, .slice ja jla jca, .slice jb jlb jcb] := by
      refine H0.out.2.2.2.1.keep (fun p hp => ?_) (fun b hb => ?_)
      · have hp' : p.block < w.heap.size := Nat.lt_of_lt_of_le hp hB
        exact (hb2.cell (by omega)).trans (HX.out.2.1.cell hp')
      · have hb' : b < w.heap.size := Nat.lt_of_lt_of_le hb hB
        show b < W1.heap.size
        omega
    have HP := Lib.hid (put_any 20 v (C6.mk jk jy jn jt ja jla jca jb jlb jcb) W1.heap.size W1.heap.size [] W2 HX.out.1
      hv2
      ((H0.out.2.2.2.2.1.below HX.out.2.1 (Nat.lt_of_lt_of_le (by decide) hN) (Nat.lt_of_lt_of_le (by decide) hN)).below hb2 (Nat.lt_of_lt_of_le (by decide) (Nat.le_trans hN (Nat.le_of_lt hz1))) (Nat.lt_of_lt_of_le (by decide) (Nat.le_trans hN (Nat.le_of_lt hz1))))
      (Nat.le_trans hN (Nat.le_of_lt hz1)) ht2 (by simpa using H0.out.2.2.2.2.2 HX.out.1))
    unfold Laid at HP
    rw [List.nil_append] at HP
    have HS := Lib.hid (fun W (ht : Txt W1.heap.size W1.heap.size (canT v) W) => string_any W1.heap.size W1.heap.size (canT v) W ht (canT_ne v 20 HX.out.1))
    have HY := Lib.hid (And.intro hW2 hb2)
    clear hW2 hb2 ht2 hv2
    dsimp only [C6.arr] at HP
    go_wp2_with fail
    rw [HY.out.1]
    refine HP.out.mono ?_
    rintro e W3 ⟨rfl, ht3, hf3⟩
    have HT3 := Lib.hid (And.intro ht3 hf3.1)
    clear ht3 hf3 x0 x1 x2 x3 x4 x5
    go_wp2_with fail
    refine (HS.out W3 HT3.out.1).mono ?_
    rintro e W4 ⟨rfl, hb4⟩
    have HB4 := Lib.hid hb4
    clear hb4
    go_wp2_with fail
    refine bodyPost_ret (v := .tuple #[.string ⟨(canT v).toArray⟩, .nilIface]) (by simp [results, Tryz.results6, go_sem]) rfl ?_
    refine ⟨?_, .inl ⟨HX.out.1, rfl⟩⟩
    have h14 : Below W1.heap.size W1 W4 := HY.out.2.trans (HT3.out.2.trans HB4.out)
    exact HX.out.2.1.trans (h14.mono (Nat.le_of_lt hz1))
  · obtain ⟨T, y, rfl⟩ := hch.held
    have HX := Lib.hid (And.intro hr (And.intro (H0.out.2.1.trans (hb1.mono H0.out.2.1.size)) hch))
    clear hr hb1 hch
    go_wp2_with fail
    refine bodyPost_ret (v := .tuple #[.string ⟨#[]⟩, .iface T y]) (by simp [results, Tryz.results6, go_sem]) rfl ?_
    exact ⟨HX.out.2.1, .inr ⟨p, cd, _, HX.out.1, rfl, HX.out.2.2⟩⟩
set_option maxHeartbeats 2000000 in
set_option maxRecDepth 100000 in
theorem quoteT_any (s : ByteArray) (w : World) (hT : Tabs w) (hN : 7 ≤ w.heap.size) (hs : s.size ≤ 1000000) :
    Calls Tryz.prog 14 #[.string s] w fun e w' => e = .returned (.string ⟨(quoL s.data.toList).toArray⟩) ∧ Below w.heap.size w w' := by
  obtain ⟨W2, hW2⟩ : ∃ W2, w.alloc (.cells #[.pointer none, .slice none 0 0] 59) = W2 := ⟨_, rfl⟩
  have hb2 : Below w.heap.size w W2 := hW2 ▸ (Below.refl _ _).alloc (Nat.le_refl _) _
  have ht2 : Txt w.heap.size w.heap.size [] W2 := hW2 ▸ Txt.new w
  have HP := Lib.hid (quote_any w.heap.size w.heap.size [] s W2 (hT.1.below hb2 (Nat.lt_of_lt_of_le (by decide) hN)) (Nat.lt_of_lt_of_le (by decide) hN) ht2 (by simp) (by omega))
  unfold Laid at HP
  rw [List.nil_append] at HP
  have HS := Lib.hid (fun W (ht : Txt w.heap.size w.heap.size (quoL s.data.toList) W) => string_any w.heap.size w.heap.size (quoL s.data.toList) W ht (by simp [quoL]))
  obtain ⟨Q, hQ⟩ : ∃ Q, quoL s.data.toList = Q := ⟨_, rfl⟩
  rw [hQ] at HP HS ⊢
  have HY := Lib.hid (And.intro hW2 hb2)
  clear hW2 hb2 ht2 hQ hT
  go_enter Tryz.func14, Tryz.ntmps14
  go_wp2_with fail
  rw [HY.out.1]
  refine HP.out.mono ?_
  rintro e W3 ⟨rfl, ht3, hf3⟩
  have HT3 := Lib.hid (And.intro ht3 hf3.1)
  clear ht3 hf3
  go_wp2_with fail
  refine (HS.out W3 HT3.out.1).mono ?_
  rintro e W4 ⟨rfl, hb4⟩
  have HB4 := Lib.hid hb4
  clear hb4
  go_wp2_with fail
  go_ret
  exact ⟨rfl, HY.out.2.trans (HT3.out.2.trans HB4.out)⟩
end Go.Proofs.YtleaaipkgjjlfaaGreatDoor

namespace Go.Proofs.YtleaaipkgjjlfaaGreatDoor
open Go.RowKit Go.Lib
set_option linter.unusedVariables false
set_option linter.unusedSimpArgs false

theorem take_snocS (s : ByteArray) (k : Nat) (h : k < s.size) : s.data.toList.take (k + 1) = s.data.toList.take k ++ [s[k]] := by
  rw [List.take_succ_eq_append_getElem (by simpa using h)]; rfl
theorem fnv_step (s : ByteArray) (k : Nat) (h : k < s.size) : fnv (s.data.toList.take (k + 1)) = fnvStep (fnv (s.data.toList.take k)) s[k] := by
  rw [take_snocS s k h, fnv_snoc]
def SumRel (w : World) (s : ByteArray) (kk : Nat) (u i : Value) (wr : World) : Prop :=
  ∃ k : Nat, k + kk = s.size ∧ i = .int .i64 k ∧ u = .int .u64 (fnv (s.data.toList.take k) : Nat) ∧ w = wr
set_option maxHeartbeats 1000000 in
set_option maxRecDepth 100000 in
theorem sum_of (s : ByteArray) (w : World) (hs : s.size ≤ 1000000)
    (hH : ∀ n : Nat, n < 18446744073709551616 → Calls Tryz.prog 29 #[.int .u64 n, .int .i64 16] w fun e w' => e = .returned (.string ⟨(hx 16 n).toArray⟩) ∧ Below w.heap.size w w') :
    Calls Tryz.prog 13 #[.string s] w fun e w' => e = .returned (.string (sumB s)) ∧ Below w.heap.size w w' := by
  have HH := Lib.hid hH
  clear hH
  go_enter Tryz.func13, Tryz.ntmps13
  go_wp2_with fail
  go_loopg [3, 7] s.size (SumRel w s)
  case atStart => exact ⟨0, by simp, rfl, rfl, rfl⟩
  case round =>
    obtain ⟨k, hk, rfl, rfl, rfl⟩ := hrel
    have hf := fnv_lt (s.data.toList.take k)
    by_cases hlt : k < s.size
    · have hst := fnv_step s k hlt
      obtain ⟨f, hfe⟩ : ∃ f, fnv (s.data.toList.take k) = f := ⟨_, rfl⟩
      rw [hfe] at hst hf ⊢
      have hc : s[k].toNat < 18446744073709551616 := by have := s[k].toNat_lt; omega
      have hxor := bits_xor_u64_nat f s[k].toNat hf hc
      obtain ⟨x, hx⟩ : ∃ x, f ^^^ s[k].toNat = x := ⟨_, rfl⟩
      rw [hx] at hxor
      have hmul : IntKind.u64.wrap ((x : Int) * 1099511628211) = ((x * 1099511628211 % 18446744073709551616 : Nat) : Int) := by rw [IntKind.wrap_u64]; omega
      have HX := Lib.hid (And.intro hst (And.intro hx hk))
      clear hst hx hk hfe
      go_wp2_with fail
      go_roundg (s.size - (k + 1))
      case rel =>
        obtain ⟨hst, hx, hk⟩ := HX.out
        refine ⟨k + 1, by omega, by go_num, ?_, rfl⟩
        rw [hst, fnvStep, hx]
        exact congrArg (Value.int .u64) (by omega)
      case measure => have := HX.out.2.2; omega
    · obtain rfl : k = s.size := by omega
      have HX := Lib.hid (show fnv (s.data.toList.take s.size) = fnv s.data.toList by rw [List.take_of_length_le (by simp)])
      rw [HX.out] at hf ⊢
      obtain ⟨f, hfe⟩ : ∃ f, fnv s.data.toList = f := ⟨_, rfl⟩
      rw [hfe] at hf ⊢
      have HF := Lib.hid hfe
      clear hfe HX hk
      go_wp2_with fail
      refine (HH.out f hf).mono ?_
      rintro e w' ⟨rfl, hb⟩
      have HB := Lib.hid hb
      clear hb
      go_wp2_with fail
      go_ret
      exact ⟨by rw [sumB, HF.out]; rfl, HB.out⟩
end Go.Proofs.YtleaaipkgjjlfaaGreatDoor

namespace Go.Proofs.YtleaaipkgjjlfaaGreatDoor
open Go.RowKit Go.Lib

theorem sum_any (s : ByteArray) (w : World) (hw : Deb w) (hs : s.size ≤ 1000000) : Calls Tryz.prog 13 #[.string s] w fun e w' => e = .returned (.string (sumB s)) ∧ Below w.heap.size w w' :=
  sum_of s w hs fun n hn => hex_any n 16 w hw (by decide) (by decide) (by have : (16 : Nat) ^ 16 = 18446744073709551616 := by decide
                                                                          omega) hn
end Go.Proofs.YtleaaipkgjjlfaaGreatDoor

namespace Go.Proofs.YtleaaipkgjjlfaaGreatDoor
open Go.RowKit Go.Lib
set_option linter.unusedVariables false
set_option linter.unusedSimpArgs false

def textV (s : ByteArray) : V := .mk 3 false 0 s [] []
def listV (ss : List ByteArray) : V := .mk 4 false 0 ⟨#[]⟩ (ss.map textV) []
/-- Of the first j texts: none is wrong; or number i is the first that is. -/
def FirstBad (ss : List ByteArray) (j : Nat) : Option Nat → Prop
  | none => ∀ i (h : i < ss.length), i < j → validB ss[i] = true
  | some b => b < j ∧ (∃ h : b < ss.length, validB ss[b] = false) ∧ ∀ i (h : i < ss.length), i < b → validB ss[i] = true
def badCode : Option Nat → Int
  | none => 0
  | some _ => 5
def badPath : Option Nat → ByteArray
  | none => ⟨#[]⟩
  | some i => inPath (itoaB i) 5 ⟨#[]⟩
theorem chk_text (d : Nat) (s : ByteArray) : chk (d + 1) (textV s) = if validB s then none else some ([], 5) := by
  unfold chk chkHead textV
  simp
theorem chkL_texts (d : Nat) : ∀ (ss : List ByteArray) (k : Nat) (b : Option Nat), FirstBad ss ss.length b → chkL (chk (d + 1)) k (ss.map textV) = b.map fun i => ([itoaB (k + i)], 5)
  | [], k, none, h => by simp [chkL]
  | [], k, some b, h => by have := h.2.1.1; simp at this
  | s :: r, k, none, h => by
    have h0 := h 0 (by simp) (by simp)
    simp only [List.getElem_cons_zero] at h0
    have hr := chkL_texts d r (k + 1) none (fun i hi hj => by have := h (i + 1) (by simpa using hi) (by simpa using hj); simpa using this)
    simp only [List.map_cons, chkL, chk_text, h0, if_pos]
    rw [hr]; rfl
  | s :: r, k, some 0, h => by
    have h0 := h.2.1.2
    simp only [List.getElem_cons_zero] at h0
    simp [List.map_cons, chkL, chk_text, h0]
  | s :: r, k, some (b + 1), h => by
    obtain ⟨h1, ⟨h2, h3⟩, h4⟩ := h
    have h0 := h4 0 (by simp) (by omega)
    simp only [List.getElem_cons_zero] at h0
    have hr := chkL_texts d r (k + 1) (some b) ⟨by simpa using h1, ⟨by simpa using h2, by simpa using h3⟩, fun i hi hj => by have := h4 (i + 1) (by simpa using hi) (by omega); simpa using this⟩
    simp only [List.map_cons, chkL, chk_text, h0, if_pos]
    rw [hr]
    simp [Nat.add_assoc, Nat.add_comm 1 b]
theorem chk_list (ss : List ByteArray) (b : Option Nat) (h : FirstBad ss ss.length b) : chk 20 (listV ss) = b.map fun i => ([itoaB i], 5) := by
  have := chkL_texts 18 ss 0 b h
  unfold chk chkHead listV
  simp only [Nat.zero_add] at this
  simpa using this
theorem tell_list (i : Nat) : tellGo (-1) ⟨#[]⟩ ([itoaB i].map fun s => ((-1 : Int), s)) = (-1, badPath (some i)) := by
  unfold badPath inPath
  simp [tellGo]
  apply ByteArray.ext
  simp

/-- The row that Texts made is a list of texts. -/
theorem own_list {W : World} {base : Nat} {v : Value} {ss : List ByteArray} (h : W.ownsRow base 36 6 v ss.length (ss.flatMap textCells)) (hl : ss.length ≤ 1000000) (hs : ∀ i (h : i < ss.length), ss[i].size ≤ 1000000) :
    Val W (· < W.heap.size) 1000000 (listV ss) #[.int .i64 4, .bool false, .int .i64 0, .string ⟨#[]⟩, v, .slice none 0 0] := by
  unfold listV
  rw [Val]
  rcases Go.Joins.ownsRow_forms h with ⟨rfl, h0⟩ | ⟨g, cap, rfl⟩
  · obtain rfl : ss = [] := List.length_eq_zero_iff.1 h0
    exact ⟨none, 0, none, 0, by simp, ⟨by simp, by simp, by simp [ByteArray.size], by simp, by simp, fun _ => rfl, fun _ => rfl⟩, by simp [ValL], by rw [ValM]; trivial⟩
  · have hgl : g < W.heap.size ∧ ss.length ≤ cap := by
      rcases h.2 with ⟨e, _⟩ | ⟨g', cap', cur, e, _, hg, hnc, _⟩
      · cases e
      · injection e with e1 e2 e3
        injection e1 with e1
        injection e1 with e1
        subst e1 e3
        exact ⟨Whole.lt hg, hnc⟩
    refine ⟨some ⟨g, 0, none⟩, cap, none, 0, by simp, ⟨by simpa using hgl.2, by simp, by simp [ByteArray.size], by simpa using hl, by simp, (fun e => by cases e), fun _ => rfl⟩, ?_, by rw [ValM]; trivial⟩
    refine ValL.mk_ fun j hj => ?_
    have hj' : j < ss.length := by simpa using hj
    refine ⟨g, 0, #[.int .i64 3, .bool false, .int .i64 0, .string ss[j], .slice none 0 0, .slice none 0 0], rfl, hgl.1, fun q hq => ?_, ?_⟩
    · have := h.cellAt (j * 6 + q) (by omega)
      rw [flat_get textCells 6 (fun _ => rfl) _ _ _ hj' hq] at this
      rw [show 0 + (0 + j) * 6 + q = j * 6 + q by omega, this]
      simp [textCells]
    · rw [List.getElem_map, textV, Val]
      exact ⟨none, 0, none, 0, by simp, ⟨by simp, by simp, hs j hj', by simp, by simp, fun _ => rfl, fun _ => rfl⟩, by rw [ValL]; trivial, by rw [ValM]; trivial⟩
end Go.Proofs.YtleaaipkgjjlfaaGreatDoor

namespace Go.Proofs.YtleaaipkgjjlfaaGreatDoor
open Go.RowKit Go.Lib
set_option linter.unusedVariables false
set_option linter.unusedSimpArgs false

def exT : ByteArray := ⟨#[195, 169, 10]⟩
def exV : V := .mk 4 false 0 ⟨#[]⟩ [textV exT] []
def exM : List (ByteArray × V) := [(⟨#[97]⟩, exV)]
theorem ex_canon : canonM exM = exM := by kernel_rfl
theorem ex_size : vsizeM exM = 2 := by kernel_rfl
theorem ex_chk : chk 20 (.mk 5 false 0 ⟨#[]⟩ [] exM) = none := by kernel_rfl
theorem ex_text : canT (.mk 5 false 0 ⟨#[]⟩ [] exM) = [123, 34, 97, 34, 58, 91, 34, 195, 169, 92, 110, 34, 93, 125] := by kernel_rfl
theorem ex_sum : sumB ⟨#[]⟩ = ⟨#[99, 98, 102, 50, 57, 99, 101, 52, 56, 52, 50, 50, 50, 51, 50, 53]⟩ := by kernel_rfl
theorem ex_quote : quoL [1] = [34, 92, 117, 48, 48, 48, 49, 34] := by kernel_rfl
theorem ex_small : ∀ i (h : i < [exT].length), [exT][i].size ≤ 1000000 := by
  intro i h
  have hi : i = 0 := by simpa using h
  subst hi
  show exT.size ≤ 1000000
  decide
/-- The example's member in memory. -/
theorem ex_val {w : World} {B g : Nat} {a : Option Addr} {l c : Nat} (hg : g < B) (hc : ∀ q, q < 7 → w.cell? ⟨g, q, none⟩ = (mem7 ⟨#[97]⟩ (C6.mk 4 false 0 ⟨#[]⟩ a l c none 0 0))[q]?)
    (hv : Val w (· < B) 1000000 exV (C6.mk 4 false 0 ⟨#[]⟩ a l c none 0 0).arr) : ValM w (· < B) 1000000 exM (some ⟨g, 0, none⟩) 0 := by
  rw [exM, ValM]
  refine ⟨⟨g, 0, _, rfl, hg, by decide, hc 0 (by omega), fun j hj => ?_, hv⟩, by rw [ValM]; trivial⟩
  have := hc (1 + j) (by omega)
  rw [show 0 + 0 * 7 + (1 + j) = 1 + j by omega, this, C6.arr_get]
  simp [mem7, Nat.add_comm 1 j]
theorem ex_perm {ms : List (ByteArray × V)} (hp : ms.Perm (canonM exM)) : ms = exM := by
  rw [ex_canon] at hp
  exact List.perm_singleton.1 hp
set_option maxRecDepth 100000 in
set_option maxHeartbeats 4000000 in
theorem awake3_any (w : World) (hG : Glob w) (hT : Tabs w) (hN : 7 ≤ w.heap.size) :
    Calls Tryz.prog 4 #[] w fun e w' => e = .returned (.bool true) ∧ Below w.heap.size w w' := by
  have HG := Lib.hid (And.intro hG hT)
  clear hG hT
  go_enter Tryz.func4, Tryz.ntmps4
  go_wp2_with fail
  obtain ⟨W0, hW0⟩ : ∃ W0, w.alloc (.cells #[.string ⟨#[195, 169, 10]⟩] 9) = W0 := ⟨_, rfl⟩
  rw [hW0]
  have hb0 : Below w.heap.size w W0 := hW0 ▸ (Below.refl _ _).alloc (Nat.le_refl _) _
  have hc0 : W0.cell? ⟨w.heap.size, 0, none⟩ = some (.string ⟨#[195, 169, 10]⟩) := by rw [← hW0]; simp
  have hz0 : w.heap.size < W0.heap.size := lt_of_cell hc0
  have hst : Strs W0 [exT] (some ⟨w.heap.size, 0, none⟩) := fun _ => ⟨w.heap.size, 0, rfl, hz0, fun j hj => by
    obtain rfl : j = 0 := by simpa using hj
    exact hc0⟩
  refine (texts_any [exT] (some ⟨w.heap.size, 0, none⟩) 1 W0 hst (by decide)).mono ?_
  clear hW0 hc0 hst
  rintro e W1 ⟨⟨v, rfl, hown⟩, hb1⟩
  have hbw1 : Below w.heap.size w W1 := hb0.trans (hb1.mono (Nat.le_of_lt hz0))
  have hv1 : Val W1 (· < W1.heap.size) 1000000 exV #[.int .i64 4, .bool false, .int .i64 0, .string ⟨#[]⟩, v, .slice none 0 0] := own_list (ss := [exT]) hown (by decide) ex_small
  obtain ⟨ao, lo, co, rfl⟩ : ∃ ao lo co, v = .slice ao lo co := by
    rcases hown.2 with ⟨hv, _⟩ | ⟨g, cap, cur, hv, _⟩
    · exact ⟨_, _, _, hv⟩
    · exact ⟨_, _, _, hv⟩
  have HX := Lib.hid (And.intro hbw1 hv1)
  clear hown hb0 hb1 hbw1 hv1
  go_wp2_with fail
  obtain ⟨W2, hW2⟩ : ∃ W2, W1.alloc (.cells #[.string ⟨#[97]⟩, .int .i64 4, .bool false, .int .i64 0, .string ⟨#[]⟩, .slice ao lo co, .slice none 0 0] 48) = W2 := ⟨_, rfl⟩
  rw [hW2]
  have hb2 : Below W1.heap.size W1 W2 := hW2 ▸ (Below.refl _ _).alloc (Nat.le_refl _) _
  have hm2 : Whole W2 W1.heap.size 48 #[.string ⟨#[97]⟩, .int .i64 4, .bool false, .int .i64 0, .string ⟨#[]⟩, .slice ao lo co, .slice none 0 0] := hW2 ▸ Whole.made _ _ _
  have hz2 : W1.heap.size < W2.heap.size := hm2.lt
  have hz1 : w.heap.size ≤ W1.heap.size := HX.out.1.size
  have hv2 : ValM W2 (· < W2.heap.size) 1000000 exM (some ⟨W1.heap.size, 0, none⟩) 0 :=
    ex_val (a := ao) (l := lo) (c := co) hz2 (fun q _ => by rw [hm2.cell q]; simp [mem7, C6.cells]) (HX.out.2.keep (fun p hp => hb2.cell hp) (fun b hb => Nat.lt_trans hb hz2))
  refine (Members_some exM (some ⟨W1.heap.size, 0, none⟩) 1 W2.heap.size W2 hv2 (Nat.le_refl _) (by decide) (by decide) (fun e => by cases e) (by rw [ex_size]; decide) (by decide)).mono ?_
  rintro e W3 ⟨⟨ms', hp, hs, hmem⟩, hb3⟩
  obtain rfl := ex_perm hp
  obtain ⟨o, rfl, hv⟩ : ∃ o : C6, e = .returned (.tuple #[.agg o.arr, .nilIface]) ∧ Val W3 (fun b => W2.heap.size ≤ b ∧ b < W3.heap.size) 1000000 (.mk 5 false 0 ⟨#[]⟩ [] exM) o.arr := by
    rcases hmem with ⟨o, he, -, hv⟩ | ⟨i, v, hi, -⟩
    · exact ⟨o, he, hv⟩
    · exact absurd hi (by simp [exM])
  have hbw3 : Below w.heap.size w W3 := HX.out.1.trans ((hb2.trans (hb3.mono (Nat.le_of_lt hz2))).mono hz1)
  have hv3 : Val W3 (· < W3.heap.size) 1000000 (.mk 5 false 0 ⟨#[]⟩ [] exM) o.arr := hv.keep (fun _ _ => rfl) (fun b hb => hb.2)
  have HY := Lib.hid (And.intro hbw3 hv3)
  clear hmem hp hs hv hb3 hb2 hm2 hv2 hW2 hbw3 hv3 HX
  obtain ⟨ok, oy, on_, ot, oa, ola, oca, ob, olb, ocb⟩ := o
  simp only [C6.arr] at *
  go_wp2_with fail
  obtain ⟨W4, hW4⟩ : ∃ W4, W3.alloc (.cells #[.int .i64 ok, .bool oy, .int .i64 on_, .string ot, .slice oa ola oca, .slice ob olb ocb] 36) = W4 := ⟨_, rfl⟩
  rw [hW4]
  have hb4 : Below W3.heap.size W3 W4 := hW4 ▸ (Below.refl _ _).alloc (Nat.le_refl _) _
  have hz3 : w.heap.size ≤ W3.heap.size := HY.out.1.size
  have hbw4 : Below w.heap.size w W4 := HY.out.1.trans (hb4.mono hz3)
  have hNT : ∀ W, Below w.heap.size w W → Glob W ∧ Tabs W ∧ 7 ≤ W.heap.size := fun W hW => ⟨HG.out.1.below hW, HG.out.2.below hW (Nat.lt_of_lt_of_le (by decide) hN) (Nat.lt_of_lt_of_le (by decide) hN), Nat.le_trans hN hW.size⟩
  have HN := Lib.hid hNT
  refine (text_any (.mk 5 false 0 ⟨#[]⟩ [] exM) (C6.mk ok oy on_ ot oa ola oca ob olb ocb) W3.heap.size W4 (HY.out.2.keep (fun p hp => hb4.cell hp) (fun _ h => h)) hb4.size (HN.out W4 hbw4).1 (HN.out W4 hbw4).2.1 (HN.out W4 hbw4).2.2 (fun _ => by rw [ex_text]; decide)).mono ?_
  rintro e W5 ⟨hb5, hans⟩
  obtain rfl : e = .returned (.tuple #[.string ⟨#[123, 34, 97, 34, 58, 91, 34, 195, 169, 92, 110, 34, 93, 125]⟩, .nilIface]) := by
    rcases hans with ⟨-, he⟩ | ⟨p, cd, x, hr, -⟩
    · rw [he, ex_text]
    · rw [ex_chk] at hr
      cases hr
  have HZ := Lib.hid (hbw4.trans (hb5.mono hbw4.size))
  clear hans hb5 hb4 hbw4 hW4 hNT HY
  go_wp2_with fail
  have HS := sum_any ⟨#[]⟩ W5 (HN.out W5 HZ.out).2.1.1 (by decide)
  rw [ex_sum] at HS
  refine HS.mono ?_
  rintro e W6 ⟨rfl, hb6⟩
  have H6 := Lib.hid (HZ.out.trans (hb6.mono HZ.out.size))
  clear hb6 HS
  go_wp2_with fail
  have HQ := quoteT_any ⟨#[1]⟩ W6 (HN.out W6 H6.out).2.1 (HN.out W6 H6.out).2.2 (by decide)
  simp only [ex_quote] at HQ
  refine HQ.mono ?_
  rintro e W7 ⟨rfl, hb7⟩
  have H7 := Lib.hid (H6.out.trans (hb7.mono H6.out.size))
  clear hb7 HQ
  go_wp2_with fail
  go_ret
  exact ⟨rfl, H7.out⟩
end Go.Proofs.YtleaaipkgjjlfaaGreatDoor

namespace Go.Proofs.YtleaaipkgjjlfaaGreatDoor
open Go.RowKit Go.Lib
set_option linter.unusedVariables false
set_option linter.unusedSimpArgs false

theorem u8_beqI (a b : UInt8) : (((a.toNat : Int)) == ((b.toNat : Int))) = (a == b) := by
  rw [Bool.eq_iff_iff]
  simp only [beq_iff_eq]
  constructor
  · intro h
    exact UInt8.toNat.inj (by omega)
  · intro h
    rw [h]
theorem dataApp (a b : ByteArray) : (a ++ b).data.toList = a.data.toList ++ b.data.toList := by rw [ByteArray.data_append]; simp
theorem take_snocBy (s : ByteArray) (k : Nat) (h : k < s.size) : s.data.toList.take (k + 1) = s.data.toList.take k ++ [s[k]] := by
  rw [List.take_succ_eq_append_getElem (by simpa using h)]; rfl
theorem one_cut (s : ByteArray) (k : Nat) (h : k < s.size) : (s.extract k (k + 1)).data.toList = [s[k]] := by
  rw [ByteArray.data_extract, Array.toList_extract, List.extract_eq_take_drop, Nat.add_sub_cancel_left]
  have hk : k < s.data.toList.length := by rw [Array.length_toList]; exact h
  rw [List.drop_eq_getElem_cons hk, List.take_succ_cons, List.take_zero]
  rfl
/-- The two digits of a small byte, as the document cuts them. -/
theorem two_cut : ∀ c : Fin 32, 92 :: 117 :: hx 4 c.val = [92, 117, 48, 48] ++ ((ByteArray.mk #[48, 49]).extract (c.val / 16) (c.val / 16 + 1)).data.toList ++ ((ByteArray.mk #[48, 49, 50, 51, 52, 53, 54, 55, 56, 57, 97, 98, 99, 100, 101, 102]).extract (c.val % 16) (c.val % 16 + 1)).data.toList := by decide
theorem run_01 (w : World) (a b : Int) (d : Nat) (hd : d < 2) (ha : a = d) (hb : b = d + 1) :
    (Instr.slice 9 (.string ⟨#[48, 49]⟩) (some (.int .u8 a)) (some (.int .u8 b)) none).run Tryz.prog w = .ok (.string ((ByteArray.mk #[48, 49]).extract d (d + 1))) w := by
  subst ha; subst hb
  have hz : (ByteArray.mk #[48, 49]).size = 2 := rfl
  rw [run_slice_string (h := Tryz.underlying9) (h0 := by omega) (h1 := by omega) (h2 := by rw [hz]; omega)]
  have e1 : ((d : Int)).toNat = d := by omega
  have e2 : ((d : Int) + 1).toNat = d + 1 := by omega
  rw [e1, e2]
theorem run_16 (w : World) (a b : Int) (d : Nat) (hd : d < 16) (ha : a = d) (hb : b = d + 1) :
    (Instr.slice 9 (.string ⟨#[48, 49, 50, 51, 52, 53, 54, 55, 56, 57, 97, 98, 99, 100, 101, 102]⟩) (some (.int .u8 a)) (some (.int .u8 b)) none).run Tryz.prog w = .ok (.string ((ByteArray.mk #[48, 49, 50, 51, 52, 53, 54, 55, 56, 57, 97, 98, 99, 100, 101, 102]).extract d (d + 1))) w := by
  subst ha; subst hb
  have hz : (ByteArray.mk #[48, 49, 50, 51, 52, 53, 54, 55, 56, 57, 97, 98, 99, 100, 101, 102]).size = 16 := rfl
  rw [run_slice_string (h := Tryz.underlying9) (h0 := by omega) (h1 := by omega) (h2 := by rw [hz]; omega)]
  have e1 : ((d : Int)).toNat = d := by omega
  have e2 : ((d : Int) + 1).toNat = d + 1 := by omega
  rw [e1, e2]
def quoB (s : ByteArray) : ByteArray := ⟨(quoL s.data.toList).toArray⟩

def RfqRel (w : World) (s : ByteArray) (kk : Nat) (o i : Value) (wr : World) : Prop :=
  ∃ (k : Nat) (O : ByteArray), k + kk = s.size ∧ i = .int .i64 k ∧ o = .string O ∧ O.data.toList = 34 :: (s.data.toList.take k).flatMap letL ∧ Below w.heap.size w wr
theorem bytes_size (O : ByteArray) : O.data.toList.length = O.size := by rw [Array.length_toList]; rfl
set_option maxHeartbeats 4000000 in
set_option maxRecDepth 100000 in
theorem refquote_any (s : ByteArray) (w : World) (hs : s.size ≤ 50000000) :
    Calls Tryz.prog 23 #[.string s] w fun e w' => e = .returned (.string (quoB s)) ∧ Below w.heap.size w w' := by
  go_enter Tryz.func23, Tryz.ntmps23
  go_wp2_with fail
  go_loopg [3, 8] s.size (RfqRel w s)
  case atStart => exact ⟨0, ⟨#[34]⟩, by simp, rfl, rfl, by simp, Below.refl _ _⟩
  case round =>
    obtain ⟨k, O, hk, rfl, rfl, hO, hb⟩ := hrel
    have hOz : O.size ≤ 400000000 := by
      have h1 := bytes_size O
      have h2 := flat_len6 (s.data.toList.take k)
      have h3 : (s.data.toList.take k).length ≤ k := by rw [List.length_take]; exact Nat.min_le_left _ _
      rw [hO, List.length_cons] at h1
      omega
    by_cases hlt : k < s.size
    · have hsn := take_snocBy s k hlt
      have hone := one_cut s k hlt
      obtain ⟨c, hc⟩ : ∃ c, s[k] = c := ⟨_, rfl⟩
      rw [hc] at hsn hone
      have HX := Lib.hid (And.intro hsn (And.intro hO (And.intro hb hk)))
      have HC := Lib.hid hone
      have hcn : s[k].toNat = c.toNat := by rw [hc]
      clear hsn hO hb hk hone hc
      by_cases h34 : c = 34
      · subst h34
        have hz : (ByteArray.mk #[92, 34]).size = 2 := rfl
        go_wp2_with fail
        go_roundg (s.size - (k + 1))
        case rel =>
          obtain ⟨hsn, hO, hb, hk⟩ := HX.out
          refine ⟨k + 1, O ++ ⟨#[92, 34]⟩, by omega, by go_num, rfl, ?_, hb⟩
          rw [dataApp, hO, hsn, List.flatMap_append]
          simp [letL]
        case measure => have := HX.out.2.2.2; omega
      by_cases h92 : c = 92
      · subst h92
        have hz : (ByteArray.mk #[92, 92]).size = 2 := rfl
        go_wp2_with fail
        go_roundg (s.size - (k + 1))
        case rel =>
          obtain ⟨hsn, hO, hb, hk⟩ := HX.out
          refine ⟨k + 1, O ++ ⟨#[92, 92]⟩, by omega, by go_num, rfl, ?_, hb⟩
          rw [dataApp, hO, hsn, List.flatMap_append]
          simp [letL]
        case measure => have := HX.out.2.2.2; omega
      by_cases h8 : c = 8
      · subst h8
        have hz : (ByteArray.mk #[92, 98]).size = 2 := rfl
        go_wp2_with fail
        go_roundg (s.size - (k + 1))
        case rel =>
          obtain ⟨hsn, hO, hb, hk⟩ := HX.out
          refine ⟨k + 1, O ++ ⟨#[92, 98]⟩, by omega, by go_num, rfl, ?_, hb⟩
          rw [dataApp, hO, hsn, List.flatMap_append]
          simp [letL]
        case measure => have := HX.out.2.2.2; omega
      by_cases h12 : c = 12
      · subst h12
        have hz : (ByteArray.mk #[92, 102]).size = 2 := rfl
        go_wp2_with fail
        go_roundg (s.size - (k + 1))
        case rel =>
          obtain ⟨hsn, hO, hb, hk⟩ := HX.out
          refine ⟨k + 1, O ++ ⟨#[92, 102]⟩, by omega, by go_num, rfl, ?_, hb⟩
          rw [dataApp, hO, hsn, List.flatMap_append]
          simp [letL]
        case measure => have := HX.out.2.2.2; omega
      by_cases h10 : c = 10
      · subst h10
        have hz : (ByteArray.mk #[92, 110]).size = 2 := rfl
        go_wp2_with fail
        go_roundg (s.size - (k + 1))
        case rel =>
          obtain ⟨hsn, hO, hb, hk⟩ := HX.out
          refine ⟨k + 1, O ++ ⟨#[92, 110]⟩, by omega, by go_num, rfl, ?_, hb⟩
          rw [dataApp, hO, hsn, List.flatMap_append]
          simp [letL]
        case measure => have := HX.out.2.2.2; omega
      by_cases h13 : c = 13
      · subst h13
        have hz : (ByteArray.mk #[92, 114]).size = 2 := rfl
        go_wp2_with fail
        go_roundg (s.size - (k + 1))
        case rel =>
          obtain ⟨hsn, hO, hb, hk⟩ := HX.out
          refine ⟨k + 1, O ++ ⟨#[92, 114]⟩, by omega, by go_num, rfl, ?_, hb⟩
          rw [dataApp, hO, hsn, List.flatMap_append]
          simp [letL]
        case measure => have := HX.out.2.2.2; omega
      by_cases h9 : c = 9
      · subst h9
        have hz : (ByteArray.mk #[92, 116]).size = 2 := rfl
        go_wp2_with fail
        go_roundg (s.size - (k + 1))
        case rel =>
          obtain ⟨hsn, hO, hb, hk⟩ := HX.out
          refine ⟨k + 1, O ++ ⟨#[92, 116]⟩, by omega, by go_num, rfl, ?_, hb⟩
          rw [dataApp, hO, hsn, List.flatMap_append]
          simp [letL]
        case measure => have := HX.out.2.2.2; omega
      have e34 : (((c.toNat : Int)) == 34) = false := (u8_beqI c 34).trans (by simpa using h34)
      have e92 : (((c.toNat : Int)) == 92) = false := (u8_beqI c 92).trans (by simpa using h92)
      have e8 : (((c.toNat : Int)) == 8) = false := (u8_beqI c 8).trans (by simpa using h8)
      have e12 : (((c.toNat : Int)) == 12) = false := (u8_beqI c 12).trans (by simpa using h12)
      have e10 : (((c.toNat : Int)) == 10) = false := (u8_beqI c 10).trans (by simpa using h10)
      have e13 : (((c.toNat : Int)) == 13) = false := (u8_beqI c 13).trans (by simpa using h13)
      have e9 : (((c.toNat : Int)) == 9) = false := (u8_beqI c 9).trans (by simpa using h9)
      by_cases h32 : c.toNat < 32
      · have HL : Hid (letL c = 92 :: 117 :: hx 4 c.toNat) := by show _ = _; rw [letL, if_neg h34, if_neg h92, if_neg h8, if_neg h12, if_neg h10, if_neg h13, if_neg h9, if_pos h32]
        have d1 : decide ((c.toNat : Int) < 32) = true := decide_eq_true (by omega)
        have d2 : decide (c.toNat < 32) = true := decide_eq_true h32
        have hz4 : (ByteArray.mk #[92, 117, 48, 48]).size = 4 := rfl
        have r1 := fun W => run_01 W ((c.toNat : Int) / 16) ((c.toNat : Int) / 16 + 1) (c.toNat / 16) (by omega) (by omega) (by omega)
        have r2 := fun W => run_16 W ((c.toNat : Int) % 16) ((c.toNat : Int) % 16 + 1) (c.toNat % 16) (by omega) (by omega) (by omega)
        obtain ⟨P1, hP1⟩ : ∃ P1, (ByteArray.mk #[48, 49]).extract (c.toNat / 16) (c.toNat / 16 + 1) = P1 := ⟨_, rfl⟩
        obtain ⟨P2, hP2⟩ : ∃ P2, (ByteArray.mk #[48, 49, 50, 51, 52, 53, 54, 55, 56, 57, 97, 98, 99, 100, 101, 102]).extract (c.toNat % 16) (c.toNat % 16 + 1) = P2 := ⟨_, rfl⟩
        have htc := two_cut ⟨c.toNat, h32⟩
        simp only at htc
        rw [hP1, hP2] at htc
        simp only [hP1] at r1
        simp only [hP2] at r2
        have s1 : P1.size ≤ 2 := by rw [← hP1, ByteArray.size_extract]; have : (ByteArray.mk #[48, 49]).size = 2 := rfl; omega
        have s2 : P2.size ≤ 16 := by rw [← hP2, ByteArray.size_extract]; have : (ByteArray.mk #[48, 49, 50, 51, 52, 53, 54, 55, 56, 57, 97, 98, 99, 100, 101, 102]).size = 16 := rfl; omega
        have HT := Lib.hid htc
        clear hP1 hP2 htc h34 h92 h8 h12 h10 h13 h9
        have w1 : IntKind.u8.wrap ((c.toNat : Int) / 16 + 1) = (c.toNat : Int) / 16 + 1 := by rw [IntKind.wrap_u8]; omega
        have w2 : IntKind.u8.wrap ((c.toNat : Int) % 16 + 1) = (c.toNat : Int) % 16 + 1 := by rw [IntKind.wrap_u8]; omega
        have w3 : IntKind.u8.wrap ((c.toNat : Int) / 16) = (c.toNat : Int) / 16 := by rw [IntKind.wrap_u8]; omega
        have w4 : IntKind.u8.wrap ((c.toNat : Int) % 16) = (c.toNat : Int) % 16 := by rw [IntKind.wrap_u8]; omega
        go_wp2_with fail
        go_quiet (fail)
        go_wp2_with fail
        go_roundg (s.size - (k + 1))
        case rel =>
          obtain ⟨hsn, hO, hb, hk⟩ := HX.out
          refine ⟨k + 1, O ++ ⟨#[92, 117, 48, 48]⟩ ++ P1 ++ P2, by omega, by go_num, rfl, ?_, hb.trans (⟨rfl, rfl, rfl, Nat.le_refl _, fun _ _ => rfl⟩)⟩
          rw [dataApp, dataApp, dataApp, hO, hsn, List.flatMap_append, List.flatMap_singleton, HL.out, HT.out]
          simp
        case measure => have := HX.out.2.2.2; omega
      · have HL : Hid (letL c = [c]) := by show _ = _; rw [letL, if_neg h34, if_neg h92, if_neg h8, if_neg h12, if_neg h10, if_neg h13, if_neg h9, if_neg h32]
        have d1 : decide ((c.toNat : Int) < 32) = false := decide_eq_false (by omega)
        have d2 : decide (c.toNat < 32) = false := decide_eq_false h32
        have q0 : (0 : Int) ≤ (k : Int) := by omega
        have q2 : (k : Int) + 1 ≤ (s.size : Int) := by omega
        have q3 : IntKind.i64.wrap ((k : Int) + 1) = (k : Int) + 1 := IntWalk.i64_in _ (by omega)
        have q5 : ((k : Int) + 1).toNat = k + 1 := by omega
        have q6 : (k : Int) ≤ (k : Int) + 1 := by omega
        have hez : (s.extract k (k + 1)).size ≤ 1 := by rw [ByteArray.size_extract]; omega
        clear h34 h92 h8 h12 h10 h13 h9
        go_wp2_with fail
        go_roundg (s.size - (k + 1))
        case rel =>
          obtain ⟨hsn, hO, hb, hk⟩ := HX.out
          refine ⟨k + 1, O ++ s.extract k (k + 1), by omega, by go_num, rfl, ?_, hb⟩
          rw [dataApp, hO, HC.out, hsn, List.flatMap_append, List.flatMap_singleton, HL.out]
          simp
        case measure => have := HX.out.2.2.2; omega
    · obtain rfl : k = s.size := by omega
      have HX := Lib.hid (And.intro hO hb)
      have hz : (ByteArray.mk #[34]).size = 1 := rfl
      clear hO hb hk
      go_wp2_with fail
      go_ret
      obtain ⟨hO, hb⟩ := HX.out
      refine ⟨congrArg (fun x => Ending.returned (Value.string x)) (ByteArray.ext (Array.ext' ?_)), hb⟩
      rw [dataApp, hO, List.take_of_length_le (by simp)]
      show _ = quoL s.data.toList
      rw [quoL]
      rfl
end Go.Proofs.YtleaaipkgjjlfaaGreatDoor

namespace Go.Proofs.YtleaaipkgjjlfaaGreatDoor
open Go.RowKit Go.Lib
set_option linter.unusedVariables false
set_option linter.unusedSimpArgs false

def RfC (d : Nat) : Prop := ∀ (v : V) (c : C6) (B : Nat) (w : World), chk d v = none → Val w (· < B) 1000000 v c.arr → B ≤ w.heap.size → (canT v).length ≤ 400000000 →
  Calls Tryz.prog 10 #[.agg c.arr] w fun e w' => e = .returned (.string ⟨(canT v).toArray⟩) ∧ Below w.heap.size w w'
def RfL (w : World) (x : List V) (kk : Nat) (o i : Value) (wr : World) : Prop :=
  ∃ (j : Nat) (O : ByteArray), j + kk = x.length ∧ i = .int .i64 j ∧ o = .string O ∧ O.data.toList = 91 :: canL 0 (x.take j) ∧ Below w.heap.size w wr
set_option maxHeartbeats 4000000 in
set_option maxRecDepth 100000 in
theorem rf_plain (fl : List V → Res) (fm : List (ByteArray × V) → Res) (k : Int) (y : Bool) (n : Int) (t : ByteArray) (l : List V) (m : List (ByteArray × V)) (c : C6) (B : Nat) (w : World) (hk : chkHead fl fm (.mk k y n t l m) = none) (hv : Val w (· < B) 1000000 (.mk k y n t l m) c.arr) (hB : B ≤ w.heap.size) (h4 : k ≠ 4) (h5 : k ≠ 5) :
    Calls Tryz.prog 10 #[.agg c.arr] w fun e w' => e = .returned (.string ⟨(canT (.mk k y n t l m)).toArray⟩) ∧ Below w.heap.size w w' := by
  obtain ⟨hk0, h2, h3, -, -⟩ := chkHead_none hk
  rw [Val] at hv
  obtain ⟨A, ca, A', ca', e, ⟨-, -, hts, -, -, -, -⟩, -, -⟩ := hv
  rw [e, canT]
  clear e hk
  have HB0 := Lib.hid (fun o => (Below.refl w.heap.size w).alloc (Nat.le_refl _) o)
  have hk0 : k = 0 ∨ k = 1 ∨ k = 2 ∨ k = 3 := by omega
  rcases hk0 with rfl | rfl | rfl | rfl
  · rw [if_neg (by decide), if_neg (by decide), if_neg (by decide), if_neg (by decide), if_neg (by decide)]
    go_enter Tryz.func10, Tryz.ntmps10
    go_wp2_with fail
    go_ret
    exact ⟨rfl, HB0.out _⟩
  · rw [if_pos rfl]
    cases y with
    | true =>
      go_enter Tryz.func10, Tryz.ntmps10
      go_wp2_with fail
      go_ret
      exact ⟨rfl, HB0.out _⟩
    | false =>
      go_enter Tryz.func10, Tryz.ntmps10
      go_wp2_with fail
      go_ret
      exact ⟨rfl, HB0.out _⟩
  · rw [if_neg (by decide), if_pos rfl]
    obtain ⟨hn1, hn2⟩ := h2 rfl
    by_cases hneg : n < 0
    · obtain ⟨u, rfl⟩ : ∃ u : Nat, n = -(u : Int) := ⟨n.natAbs, by omega⟩
      have d1 : decide (-(u : Int) < 0) = true := decide_eq_true hneg
      have d2 : decide (0 < u) = true := decide_eq_true (by omega)
      have HD := Lib.hid (fun W => digits_any u W (by omega))
      have hit : Hid (Lib.itoa (-(u : Int)) = 45 :: Lib.itoa (u : Int)) := by show _ = _; rw [itoa_neg u (by omega), itoa_nonneg]
      have hz : (itoaB u).size ≤ 21 := by
        have := itoa_length_le (u : Int) (by omega) (by omega)
        have h2 : (itoaB u).size = (Lib.itoa (u : Int)).length := List.size_toArray
        omega
      have hz1 : (ByteArray.mk #[45]).size = 1 := rfl
      have wn : IntKind.i64.wrap (-(-(u : Int))) = (u : Int) := by rw [Int.neg_neg]; exact IntWalk.i64_in _ (by omega)
      have wn2 : IntKind.i64.wrap (u : Int) = (u : Int) := IntWalk.i64_in _ (by omega)
      clear hneg h2 h3
      go_enter Tryz.func10, Tryz.ntmps10
      go_wp2_with fail
      refine (HD.out _).mono ?_
      rintro e w1 ⟨rfl, rfl⟩
      go_wp2_with fail
      go_ret
      refine ⟨congrArg (fun x => Ending.returned (Value.string x)) (ByteArray.ext (Array.ext' ?_)), HB0.out _⟩
      rw [dataApp, hit.out]
      rfl
    · obtain ⟨u, rfl⟩ : ∃ u : Nat, n = (u : Int) := ⟨n.natAbs, by omega⟩
      have d1 : decide ((u : Int) < 0) = false := decide_eq_false (by omega)
      have HD := Lib.hid (fun W => digits_any u W (by omega))
      clear hneg h2 h3
      go_enter Tryz.func10, Tryz.ntmps10
      go_wp2_with fail
      refine (HD.out _).mono ?_
      rintro e w1 ⟨rfl, rfl⟩
      go_wp2_with fail
      go_ret
      exact ⟨rfl, HB0.out _⟩
  · rw [if_neg (by decide), if_neg (by decide), if_pos rfl]
    have HQ := Lib.hid (fun W => refquote_any t W (by omega))
    clear h2 h3
    go_enter Tryz.func10, Tryz.ntmps10
    go_wp2_with fail
    refine (HQ.out _).mono ?_
    rintro e w1 ⟨rfl, hb⟩
    have HB1 := Lib.hid hb
    clear hb
    go_wp2_with fail
    go_ret
    exact ⟨rfl, (HB0.out _).trans (HB1.out.mono (by simp))⟩
end Go.Proofs.YtleaaipkgjjlfaaGreatDoor

namespace Go.Proofs.YtleaaipkgjjlfaaGreatDoor
open Go.RowKit Go.Lib
set_option linter.unusedVariables false
set_option linter.unusedSimpArgs false

set_option maxHeartbeats 4000000 in
set_option maxRecDepth 100000 in
theorem rf_list (d : Nat) (hP : RfC d) (y : Bool) (n : Int) (t : ByteArray) (l : List V) (m : List (ByteArray × V)) (c : C6) (B : Nat) (w : World) (hk : ∀ v ∈ l, chk d v = none) (hv : Val w (· < B) 1000000 (.mk 4 y n t l m) c.arr) (hB : B ≤ w.heap.size) (hlen : (canL 0 l).length + 2 ≤ 400000000) :
    Calls Tryz.prog 10 #[.agg c.arr] w fun e w' => e = .returned (.string ⟨(canT (.mk 4 y n t l m)).toArray⟩) ∧ Below w.heap.size w w' := by
  rw [Val] at hv
  obtain ⟨A, ca, A', ca', e, ⟨hlc, hmc, hts, hlM, hmM, -, -⟩, hvl, hvm⟩ := hv
  rw [e, canT, if_neg (by decide), if_neg (by decide), if_neg (by decide), if_pos rfl]
  obtain ⟨W0, hW0⟩ : ∃ W0, w.alloc (.cells #[.int .i64 4, .bool y, .int .i64 n, .string t, .slice A l.length ca, .slice A' m.length ca'] 25) = W0 := ⟨_, rfl⟩
  have hb0 : Below w.heap.size w W0 := hW0 ▸ (Below.refl _ _).alloc (Nat.le_refl _) _
  have hwh : Whole W0 w.heap.size 25 #[.int .i64 4, .bool y, .int .i64 n, .string t, .slice A l.length ca, .slice A' m.length ca'] := hW0 ▸ Whole.made _ _ _
  have hz0 : w.heap.size < W0.heap.size := hwh.lt
  have HV := Lib.hid (And.intro hvl (And.intro hk hP))
  have H0 := Lib.hid (And.intro hW0 (And.intro hb0 hwh))
  clear e hvl hvm hk hP hW0 hb0 hwh
  go_enter Tryz.func10, Tryz.ntmps10
  go_wp2_with fail
  rw [H0.out.1]
  go_loopg [3, 36] l.length (RfL W0 l)
  case atStart => exact ⟨0, ⟨#[91]⟩, by simp, rfl, rfl, by simp [canL], Below.refl _ _⟩
  case round =>
    obtain ⟨j, O, hkk, rfl, rfl, hO, hb⟩ := hrel
    have hOz : O.size ≤ 400000000 := by
      have h1 := bytes_size O
      have h2 := canL_part l 0 j
      rw [hO, List.length_cons] at h1
      omega
    have hz1 : (ByteArray.mk #[44]).size = 1 := rfl
    have hz2 : (ByteArray.mk #[93]).size = 1 := rfl
    obtain ⟨-, -, -, -, d4, -⟩ := (H0.out.2.2.below hb hz0).six
    by_cases hlj : j < l.length
    · obtain ⟨g, off, cs, rfl, hgB, hc6, hx6⟩ := HV.out.1.get j hlj
      obtain ⟨cj, rfl⟩ := hx6.c6
      have hbw : Below w.heap.size w wr := H0.out.2.1.trans (hb.mono H0.out.2.1.size)
      have hcj : ∀ q, q < 6 → wr.cell? ⟨g, off + j * 6 + q, none⟩ = cj.arr[q]? := fun q hq => by
        rw [hbw.cell (p := ⟨g, off + j * 6 + q, none⟩) (show g < w.heap.size from Nat.lt_of_lt_of_le hgB hB)]
        simpa using hc6 q hq
      obtain ⟨x0, x1, x2, x3, x4, x5⟩ := cells6 hcj rfl
      have hcl := canL_take l j hlj
      have hlen2 : (canT l[j]).length ≤ 400000000 := by
        have h1 := canL_part l 0 (j + 1)
        rw [hcl, List.length_append, List.length_append] at h1
        omega
      have hvj : ∀ W, Below W0.heap.size W0 W → Val W (· < B) 1000000 l[j] cj.arr := fun W hW => by
        refine hx6.keep (fun p hp => ?_) (fun _ h => h)
        have hp' : p.block < w.heap.size := Nat.lt_of_lt_of_le hp hB
        exact (hW.cell (by omega)).trans (H0.out.2.1.cell hp')
      have HN := Lib.hid (fun W (hW : Below W0.heap.size W0 W) => HV.out.2.2 l[j] cj B W (HV.out.2.1 _ (List.getElem_mem hlj)) (hvj W hW) (Nat.le_trans hB (Nat.le_trans (Nat.le_of_lt hz0) hW.size)) hlen2)
      obtain ⟨D, hD⟩ : ∃ D : ByteArray, (⟨(canT l[j]).toArray⟩ : ByteArray) = D := ⟨_, rfl⟩
      have hDl : D.data.toList = canT l[j] := by rw [← hD]
      have hDz : D.size ≤ 400000000 := by
        have h1 := bytes_size D
        rw [hDl] at h1
        omega
      simp only [hD] at HN
      have HD := Lib.hid hDl
      have HX := Lib.hid (And.intro hb (And.intro hO (And.intro hcl hkk)))
      have hjc : (j : Int) < (l.length : Int) := by omega
      clear hb hO hcl hkk hD hDl hbw hcj hc6 hx6 hvj
      obtain ⟨jk, jy, jn, jt, ja, jla, jca, jb, jlb, jcb⟩ := cj
      dsimp only [C6.arr] at x0 x1 x2 x3 x4 x5 HN
      by_cases hj0 : j = 0
      · subst hj0
        simp only [Nat.zero_mul, Nat.add_zero] at x0 x1 x2 x3 x4 x5
        go_wp2_with fail
        refine (HN.out _ HX.out.1).mono ?_
        rintro e W2 ⟨rfl, hb2⟩
        have HB2 := Lib.hid hb2
        clear hb2
        go_wp2_with fail
        go_roundg (l.length - (0 + 1))
        case rel =>
          obtain ⟨hb, hO, hcl, hkk⟩ := HX.out
          refine ⟨0 + 1, O ++ D, by omega, by go_num, rfl, ?_, hb.trans (HB2.out.mono hb.size)⟩
          rw [dataApp, hO, hcl, HD.out]
          simp [commaL]
        case measure => have := HX.out.2.2.2; omega
      · have d1 : decide ((0 : Int) < (j : Int)) = true := decide_eq_true (by omega)
        have d2 : decide (0 < j) = true := decide_eq_true (by omega)
        go_wp2_with fail
        refine (HN.out _ HX.out.1).mono ?_
        rintro e W2 ⟨rfl, hb2⟩
        have HB2 := Lib.hid hb2
        clear hb2
        go_wp2_with fail
        go_roundg (l.length - (j + 1))
        case rel =>
          obtain ⟨hb, hO, hcl, hkk⟩ := HX.out
          refine ⟨j + 1, O ++ ⟨#[44]⟩ ++ D, by omega, by go_num, rfl, ?_, hb.trans (HB2.out.mono hb.size)⟩
          rw [dataApp, dataApp, hO, hcl, HD.out]
          simp [commaL, hj0]
        case measure => have := HX.out.2.2.2; omega
    · obtain rfl : j = l.length := by omega
      have HX := Lib.hid (And.intro hb hO)
      clear hb hO hkk
      go_wp2_with fail
      go_ret
      obtain ⟨hb, hO⟩ := HX.out
      refine ⟨congrArg (fun x => Ending.returned (Value.string x)) (ByteArray.ext (Array.ext' ?_)), H0.out.2.1.trans (hb.mono H0.out.2.1.size)⟩
      rw [dataApp, hO, List.take_length]
      simp
end Go.Proofs.YtleaaipkgjjlfaaGreatDoor

namespace Go.Proofs.YtleaaipkgjjlfaaGreatDoor
open Go.RowKit Go.Lib
set_option linter.unusedVariables false
set_option linter.unusedSimpArgs false

def RfM (w : World) (x : List (ByteArray × V)) (kk : Nat) (o i : Value) (wr : World) : Prop :=
  ∃ (j : Nat) (O : ByteArray), j + kk = x.length ∧ i = .int .i64 j ∧ o = .string O ∧ O.data.toList = 123 :: canM 0 (x.take j) ∧ Below w.heap.size w wr
set_option maxHeartbeats 8000000 in
set_option maxRecDepth 100000 in
theorem rf_map (d : Nat) (hP : RfC d) (y : Bool) (n : Int) (t : ByteArray) (l : List V) (m : List (ByteArray × V)) (c : C6) (B : Nat) (w : World) (hk : ∀ v ∈ m, chk d v.2 = none) (hv : Val w (· < B) 1000000 (.mk 5 y n t l m) c.arr) (hB : B ≤ w.heap.size) (hlen : (canM 0 m).length + 2 ≤ 400000000) :
    Calls Tryz.prog 10 #[.agg c.arr] w fun e w' => e = .returned (.string ⟨(canT (.mk 5 y n t l m)).toArray⟩) ∧ Below w.heap.size w w' := by
  rw [Val] at hv
  obtain ⟨A, ca, A', ca', e, ⟨hlc, hmc, hts, hlM, hmM, -, -⟩, hvl, hvm⟩ := hv
  rw [e, canT, if_neg (by decide), if_neg (by decide), if_neg (by decide), if_neg (by decide), if_pos rfl]
  obtain ⟨W0, hW0⟩ : ∃ W0, w.alloc (.cells #[.int .i64 5, .bool y, .int .i64 n, .string t, .slice A l.length ca, .slice A' m.length ca'] 25) = W0 := ⟨_, rfl⟩
  have hb0 : Below w.heap.size w W0 := hW0 ▸ (Below.refl _ _).alloc (Nat.le_refl _) _
  have hwh : Whole W0 w.heap.size 25 #[.int .i64 5, .bool y, .int .i64 n, .string t, .slice A l.length ca, .slice A' m.length ca'] := hW0 ▸ Whole.made _ _ _
  have hz0 : w.heap.size < W0.heap.size := hwh.lt
  have HV := Lib.hid (And.intro hvm (And.intro hk hP))
  have H0 := Lib.hid (And.intro hW0 (And.intro hb0 hwh))
  clear e hvl hvm hk hP hW0 hb0 hwh
  go_enter Tryz.func10, Tryz.ntmps10
  go_wp2_with fail
  rw [H0.out.1]

  go_loopg [5, 59] m.length (RfM W0 m)
  case atStart => exact ⟨0, ⟨#[123]⟩, by simp, rfl, rfl, by simp [canM], Below.refl _ _⟩
  case round =>
    obtain ⟨j, O, hkk, rfl, rfl, hO, hb⟩ := hrel
    have hOz : O.size ≤ 400000000 := by
      have h1 := bytes_size O
      have h2 := canM_part m 0 j
      rw [hO, List.length_cons] at h1
      omega
    have hz1 : (ByteArray.mk #[44]).size = 1 := rfl
    have hz2 : (ByteArray.mk #[125]).size = 1 := rfl
    have hz3 : (ByteArray.mk #[58]).size = 1 := rfl
    obtain ⟨-, -, -, -, -, d5⟩ := (H0.out.2.2.below hb hz0).six
    by_cases hlj : j < m.length
    · obtain ⟨g, off, cs, rfl, hgB, hsM, hkc, hc6, hx6⟩ := HV.out.1.get j hlj
      obtain ⟨cj, rfl⟩ := hx6.c6
      obtain ⟨ks, hks⟩ : ∃ ks, m[j].1 = ks := ⟨_, rfl⟩
      rw [hks] at hkc hsM
      have hbw : Below w.heap.size w wr := H0.out.2.1.trans (hb.mono H0.out.2.1.size)
      have hgw : g < w.heap.size := Nat.lt_of_lt_of_le hgB hB
      have hck : wr.cell? ⟨g, off + j * 7, none⟩ = some (.string ks) := by
        rw [hbw.cell (p := ⟨g, off + j * 7, none⟩) hgw]
        simpa using hkc
      have hcj : ∀ q, q < 6 → wr.cell? ⟨g, off + j * 7 + (1 + q), none⟩ = cj.arr[q]? := fun q hq => by
        rw [hbw.cell (p := ⟨g, off + j * 7 + (1 + q), none⟩) hgw]
        simpa using hc6 q hq
      obtain ⟨xk, x0, x1, x2, x3, x4, x5⟩ := cells7 hck hcj rfl
      have hcl := canM_take m j hlj
      rw [hks] at hcl
      have hlen2 : (quoL ks.data.toList).length ≤ 400000000 ∧ (canT m[j].2).length ≤ 400000000 := by
        have h1 := canM_part m 0 (j + 1)
        rw [hcl] at h1
        simp only [List.length_append] at h1
        omega
      have hvj : ∀ W, Below W0.heap.size W0 W → Val W (· < B) 1000000 m[j].2 cj.arr := fun W hW => by
        refine hx6.keep (fun p hp => ?_) (fun _ h => h)
        have hp' : p.block < w.heap.size := Nat.lt_of_lt_of_le hp hB
        exact (hW.cell (by omega)).trans (H0.out.2.1.cell hp')
      have hzr : W0.heap.size ≤ wr.heap.size := hb.size
      have HN := Lib.hid (fun W (hW : Below wr.heap.size wr W) => HV.out.2.2 m[j].2 cj B W (HV.out.2.1 _ (List.getElem_mem hlj)) (hvj W (hb.trans (hW.mono hzr))) (Nat.le_trans hB (Nat.le_trans (Nat.le_of_lt hz0) (Nat.le_trans hzr hW.size))) hlen2.2)
      have HQ := Lib.hid (fun W => refquote_any ks W (by omega))
      obtain ⟨D, hD⟩ : ∃ D : ByteArray, (⟨(canT m[j].2).toArray⟩ : ByteArray) = D := ⟨_, rfl⟩
      have hDl : D.data.toList = canT m[j].2 := by rw [← hD]
      obtain ⟨QB, hQ⟩ : ∃ QB : ByteArray, quoB ks = QB := ⟨_, rfl⟩
      have hQl : QB.data.toList = quoL ks.data.toList := by rw [← hQ]; rfl
      have hDz : D.size ≤ 400000000 := by
        have h1 := bytes_size D
        rw [hDl] at h1
        omega
      have hQz : QB.size ≤ 400000000 := by
        have h1 := bytes_size QB
        rw [hQl] at h1
        omega
      simp only [hD] at HN
      simp only [hQ] at HQ
      have HD := Lib.hid (And.intro hDl hQl)
      have HX := Lib.hid (And.intro hb (And.intro hO (And.intro hcl hkk)))
      have hjc : (j : Int) < (m.length : Int) := by omega
      obtain ⟨jk, jy, jn, jt, ja, jla, jca, jb, jlb, jcb⟩ := cj
      dsimp only [C6.arr] at x0 x1 x2 x3 x4 x5 HN
      have HSS := Lib.hid (show ∀ W, Below wr.heap.size wr W → (fun w' => w'.cell? ⟨w.heap.size, 5, none⟩ = some (.slice (some ⟨g, off, none⟩) m.length ca') ∧ w'.cell? ⟨g, off + j * 7, none⟩ = some (.string ks) ∧ w'.cell? ⟨g, off + j * 7 + 1, none⟩ = some (.int .i64 jk) ∧ w'.cell? ⟨g, off + j * 7 + 2, none⟩ = some (.bool jy) ∧ w'.cell? ⟨g, off + j * 7 + 3, none⟩ = some (.int .i64 jn) ∧ w'.cell? ⟨g, off + j * 7 + 4, none⟩ = some (.string jt) ∧ w'.cell? ⟨g, off + j * 7 + 5, none⟩ = some (.slice ja jla jca) ∧ w'.cell? ⟨g, off + j * 7 + 6, none⟩ = some (.slice jb jlb jcb)) W from fun W hW => ⟨(hW.cell (p := ⟨w.heap.size, 5, none⟩) (by show w.heap.size < _; omega)).trans d5, (hW.cell (p := ⟨g, off + j * 7, none⟩) (by show g < _; omega)).trans xk, (hW.cell (p := ⟨g, off + j * 7 + 1, none⟩) (by show g < _; omega)).trans x0, (hW.cell (p := ⟨g, off + j * 7 + 2, none⟩) (by show g < _; omega)).trans x1, (hW.cell (p := ⟨g, off + j * 7 + 3, none⟩) (by show g < _; omega)).trans x2, (hW.cell (p := ⟨g, off + j * 7 + 4, none⟩) (by show g < _; omega)).trans x3, (hW.cell (p := ⟨g, off + j * 7 + 5, none⟩) (by show g < _; omega)).trans x4, (hW.cell (p := ⟨g, off + j * 7 + 6, none⟩) (by show g < _; omega)).trans x5⟩)
      have a1 : ¬ (9223372036854775807 < O.size + QB.size) := by omega
      have a2 : ¬ (9223372036854775807 < O.size + QB.size + 1) := by omega
      have a3 : ¬ (9223372036854775807 < O.size + QB.size + 1 + D.size) := by omega
      have a4 : ¬ (9223372036854775807 < O.size + 1 + QB.size) := by omega
      have a5 : ¬ (9223372036854775807 < O.size + 1 + QB.size + 1) := by omega
      have a6 : ¬ (9223372036854775807 < O.size + 1 + QB.size + 1 + D.size) := by omega
      have b1 : (O ++ QB).size = O.size + QB.size := ByteArray.size_append
      have b2 : (O ++ QB ++ ⟨#[58]⟩).size = O.size + QB.size + 1 := by rw [ByteArray.size_append, b1]; rfl
      have b3 : (O ++ ⟨#[44]⟩).size = O.size + 1 := by rw [ByteArray.size_append]; rfl
      have b4 : (O ++ ⟨#[44]⟩ ++ QB).size = O.size + 1 + QB.size := by rw [ByteArray.size_append, b3]
      have b5 : (O ++ ⟨#[44]⟩ ++ QB ++ ⟨#[58]⟩).size = O.size + 1 + QB.size + 1 := by rw [ByteArray.size_append, b4]; rfl
      clear hb hO hcl hkk hD hDl hQ hQl hbw hcj hc6 hx6 hvj hck hkc
      by_cases hj0 : j = 0
      · subst hj0
        simp only [Nat.zero_mul, Nat.add_zero] at xk x0 x1 x2 x3 x4 x5 HSS
        go_wp2_with fail
        go_region_held3 (fun w' => w'.cell? ⟨w.heap.size, 5, none⟩ = some (.slice (some ⟨g, off, none⟩) m.length ca') ∧ w'.cell? ⟨g, off, none⟩ = some (.string ks) ∧ w'.cell? ⟨g, off + 1, none⟩ = some (.int .i64 jk) ∧ w'.cell? ⟨g, off + 2, none⟩ = some (.bool jy) ∧ w'.cell? ⟨g, off + 3, none⟩ = some (.int .i64 jn) ∧ w'.cell? ⟨g, off + 4, none⟩ = some (.string jt) ∧ w'.cell? ⟨g, off + 5, none⟩ = some (.slice ja jla jca) ∧ w'.cell? ⟨g, off + 6, none⟩ = some (.slice jb jlb jcb))
          (first | (with_reducible exact HSS.out _ K2.out) | (with_reducible exact HSS.out _ K2.out.drew) | (with_reducible exact HSS.out _ K1.out) | (with_reducible exact HSS.out _ K1.out.drew) | (with_reducible exact HSS.out _ (Below.refl _ _)) | (with_reducible exact HSS.out _ (Below.refl _ _).drew) | (go_keep; done))
          (first
            | (go_at_call 23; go_must (with_reducible refine (HQ.out _).mono ?_); rintro e W1 ⟨rfl, hb1⟩
               have k1 : Below wr.heap.size wr W1 := by first | exact hb1 | exact ((Below.refl wr.heap.size wr).drew).trans hb1
               have K1 := Lib.hid k1
               clear hb1 k1)
            | (go_at_call 10; go_must (with_reducible refine (HN.out _ ?_).mono ?_); (first | with_reducible exact K1.out | with_reducible exact K1.out.drew); rintro e W2 ⟨rfl, hb2⟩
               have K2 := Lib.hid (K1.out.trans (hb2.mono K1.out.size))
               clear hb2))
        go_wp2_with fail
        go_roundg (m.length - (0 + 1))
        case rel =>
          obtain ⟨hb, hO, hcl, hkk⟩ := HX.out
          refine ⟨0 + 1, O ++ QB ++ ⟨#[58]⟩ ++ D, by omega, by go_num, rfl, ?_, hb.trans (K2.out.mono hb.size)⟩
          rw [dataApp, dataApp, dataApp, hO, hcl, HD.out.1, HD.out.2]
          simp [commaL]
        case measure => have := HX.out.2.2.2; omega
      · have d1 : decide ((0 : Int) < (j : Int)) = true := decide_eq_true (by omega)
        have d2 : decide (0 < j) = true := decide_eq_true (by omega)
        go_wp2_with fail
        go_region_held3 (fun w' => w'.cell? ⟨w.heap.size, 5, none⟩ = some (.slice (some ⟨g, off, none⟩) m.length ca') ∧ w'.cell? ⟨g, off + j * 7, none⟩ = some (.string ks) ∧ w'.cell? ⟨g, off + j * 7 + 1, none⟩ = some (.int .i64 jk) ∧ w'.cell? ⟨g, off + j * 7 + 2, none⟩ = some (.bool jy) ∧ w'.cell? ⟨g, off + j * 7 + 3, none⟩ = some (.int .i64 jn) ∧ w'.cell? ⟨g, off + j * 7 + 4, none⟩ = some (.string jt) ∧ w'.cell? ⟨g, off + j * 7 + 5, none⟩ = some (.slice ja jla jca) ∧ w'.cell? ⟨g, off + j * 7 + 6, none⟩ = some (.slice jb jlb jcb))
          (first | (with_reducible exact HSS.out _ K2.out) | (with_reducible exact HSS.out _ K2.out.drew) | (with_reducible exact HSS.out _ K1.out) | (with_reducible exact HSS.out _ K1.out.drew) | (with_reducible exact HSS.out _ (Below.refl _ _)) | (with_reducible exact HSS.out _ (Below.refl _ _).drew) | (go_keep; done))
          (first
            | (go_at_call 23; go_must (with_reducible refine (HQ.out _).mono ?_); rintro e W1 ⟨rfl, hb1⟩
               have k1 : Below wr.heap.size wr W1 := by first | exact hb1 | exact ((Below.refl wr.heap.size wr).drew).trans hb1
               have K1 := Lib.hid k1
               clear hb1 k1)
            | (go_at_call 10; go_must (with_reducible refine (HN.out _ ?_).mono ?_); (first | with_reducible exact K1.out | with_reducible exact K1.out.drew); rintro e W2 ⟨rfl, hb2⟩
               have K2 := Lib.hid (K1.out.trans (hb2.mono K1.out.size))
               clear hb2))
        go_wp2_with fail
        go_roundg (m.length - (j + 1))
        case rel =>
          obtain ⟨hb, hO, hcl, hkk⟩ := HX.out
          refine ⟨j + 1, O ++ ⟨#[44]⟩ ++ QB ++ ⟨#[58]⟩ ++ D, by omega, by go_num, rfl, ?_, hb.trans (K2.out.mono hb.size)⟩
          rw [dataApp, dataApp, dataApp, dataApp, hO, hcl, HD.out.1, HD.out.2]
          simp [commaL, hj0]
        case measure => have := HX.out.2.2.2; omega
    · obtain rfl : j = m.length := by omega
      have HX := Lib.hid (And.intro hb hO)
      clear hb hO hkk
      go_wp2_with fail
      go_ret
      obtain ⟨hb, hO⟩ := HX.out
      refine ⟨congrArg (fun x => Ending.returned (Value.string x)) (ByteArray.ext (Array.ext' ?_)), H0.out.2.1.trans (hb.mono H0.out.2.1.size)⟩
      rw [dataApp, hO, List.take_length]
      simp
end Go.Proofs.YtleaaipkgjjlfaaGreatDoor

namespace Go.Proofs.YtleaaipkgjjlfaaGreatDoor
open Go.RowKit Go.Lib
set_option linter.unusedVariables false
set_option linter.unusedSimpArgs false

theorem reftext_any : ∀ d, RfC d
  | 0 => fun v c B w hk hv hB hx => by
    cases v with
    | mk k y n t l m =>
    obtain ⟨-, -, -, h4, h5⟩ := chkHead_none hk
    exact rf_plain _ _ k y n t l m c B w hk hv hB (fun e => absurd (h4 e) (by simp)) (fun e => absurd (h5 e) (by simp))
  | d + 1 => fun v c B w hk hv hB hx => by
    cases v with
    | mk k y n t l m =>
    obtain ⟨-, -, -, h4, h5⟩ := chkHead_none hk
    by_cases k4 : k = 4
    · subst k4
      rw [canT, if_neg (by decide), if_neg (by decide), if_neg (by decide), if_pos rfl, List.length_cons, List.length_append, List.length_singleton] at hx
      exact rf_list d (reftext_any d) y n t l m c B w (chkL_none (h4 rfl)) hv hB (by omega)
    by_cases k5 : k = 5
    · subst k5
      rw [canT, if_neg (by decide), if_neg (by decide), if_neg (by decide), if_neg (by decide), if_pos rfl, List.length_cons, List.length_append, List.length_singleton] at hx
      exact rf_map d (reftext_any d) y n t l m c B w (chkM_none (h5 rfl)) hv hB (by omega)
    exact rf_plain _ _ k y n t l m c B w hk hv hB k4 k5
end Go.Proofs.YtleaaipkgjjlfaaGreatDoor

namespace Go.Proofs.YtleaaipkgjjlfaaGreatDoor
open Go.RowKit Go.Lib
set_option linter.unusedVariables false
set_option linter.unusedSimpArgs false

theorem Only.refl (g : Nat) (w : World) : Only g w w := ⟨Nat.le_refl _, fun _ _ _ => rfl, fun _ _ h _ _ => h⟩
theorem Only.step {g : Nat} {w w' w2 : World} (h : Only g w w') (hb : Below w'.heap.size w' w2) : Only g w w2 :=
  ⟨Nat.le_trans h.1 hb.size, fun k hk hg => (hb.block k (Nat.lt_of_lt_of_le hk h.1)).trans (h.2.1 k hk hg), fun B W h1 h2 h3 => (h.2.2 B W h1 h2 h3).trans (hb.mono (Nat.le_trans h3 h.1))⟩
theorem Only.put {g : Nat} {w w' : World} (h : Only g w w') (q : Nat) (v : Value) : Only g w (w'.setCell ⟨g, q, none⟩ v) :=
  ⟨by simpa [World.setCell] using h.1, fun k hk hg => (Below.heap_setCell w' ⟨g, q, none⟩ v k (by simpa using hg)).trans (h.2.1 k hk hg), fun B W h1 h2 h3 => (h.2.2 B W h1 h2 h3).setCell (by simpa using h2) _⟩
theorem Only.cell {g : Nat} {w w' : World} (h : Only g w w') {p : Addr} (hp : p.block < w.heap.size) (hg : p.block ≠ g) : w'.cell? p = w.cell? p := World.cell?_of_block (h.2.1 _ hp hg)

end Go.Proofs.YtleaaipkgjjlfaaGreatDoor

namespace Go.Proofs.YtleaaipkgjjlfaaGreatDoor
open Go.RowKit Go.Lib

theorem itoaB_small (n : Nat) (h : n ≤ 1000000000) : (itoaB n).size ≤ 1000 := by
  have := Lib.itoa_length_le (n : Int) (by omega) (by omega)
  unfold itoaB
  simp only [ByteArray.size, List.size_toArray]
  omega
end Go.Proofs.YtleaaipkgjjlfaaGreatDoor

namespace Go.Proofs.YtleaaipkgjjlfaaGreatDoor
open Go.RowKit Go.Lib
set_option linter.unusedVariables false
set_option linter.unusedSimpArgs false

/-- The path of an error, each part with / ahead. -/
def pth : List ByteArray → ByteArray
  | [] => ⟨#[]⟩
  | s :: r => (⟨#[47]⟩ ++ s) ++ pth r
def refCode : Option (List ByteArray × Int) → Int
  | none => 0
  | some (_, c) => c
def refPath : Option (List ByteArray × Int) → ByteArray
  | none => ⟨#[]⟩
  | some (p, _) => pth p
def RefAns (r : Option (List ByteArray × Int)) (w : World) (e : Ending) (w' : World) : Prop := e = .returned (.agg #[.int .i64 (refCode r), .int .i64 (-1), .string (refPath r)]) ∧ Below w.heap.size w w'

def GoodR (d : Nat) (r : Option (List ByteArray × Int)) : Prop := ∀ p c, r = some (p, c) → c ≠ 0 ∧ (pth p).size ≤ d * 1000050
theorem chkL_good {d : Nat} {f : V → Option (List ByteArray × Int)} : ∀ (l : List V) (i : Nat), (∀ v ∈ l, GoodR d (f v)) → i + l.length ≤ 1000000 → GoodR (d + 1) (chkL f i l)
  | [], i, _, _ => fun p c h => by simp [chkL] at h
  | v :: r, i, hf, hi => fun p c h => by
    rw [chkL] at h
    cases hv : f v with
    | none => rw [hv] at h; exact chkL_good r (i + 1) (fun x hx => hf x (List.mem_cons_of_mem _ hx)) (by simp only [List.length_cons] at hi; omega) p c h
    | some pc =>
      obtain ⟨p', c'⟩ := pc
      rw [hv] at h
      simp only [Option.some.injEq, Prod.mk.injEq] at h
      obtain ⟨rfl, rfl⟩ := h
      have := hf v (List.mem_cons_self ..) p' c' hv
      have h1 := itoaB_small i (by simp only [List.length_cons] at hi; omega)
      refine ⟨this.1, ?_⟩
      have h47 : (ByteArray.mk #[47]).size = 1 := rfl
      rw [pth, ByteArray.size_append, ByteArray.size_append, h47, Nat.succ_mul]
      omega
theorem chkKey_ne {s : ByteArray} {q : Option ByteArray} {c : Int} (h : chkKey s q = some c) : c ≠ 0 := by
  unfold chkKey at h
  split at h
  · injection h with h; omega
  · split at h
    · cases h
    · split at h
      · injection h with h; omega
      · split at h
        · injection h with h; omega
        · cases h
theorem chkM_good {d : Nat} {f : V → Option (List ByteArray × Int)} : ∀ (l : List (ByteArray × V)) (q : Option ByteArray), (∀ x ∈ l, x.1.size ≤ 1000000 ∧ GoodR d (f x.2)) → GoodR (d + 1) (chkM f q l)
  | [], q, _ => fun p c h => by simp [chkM] at h
  | (s, v) :: r, q, hf => fun p c h => by
    have h47 : (ByteArray.mk #[47]).size = 1 := rfl
    have h0 : (ByteArray.mk #[]).size = 0 := rfl
    have hs := hf (s, v) (List.mem_cons_self ..)
    rw [chkM] at h
    cases hk : chkKey s q with
    | some c' =>
      rw [hk] at h
      simp only [Option.some.injEq, Prod.mk.injEq] at h
      obtain ⟨rfl, rfl⟩ := h
      refine ⟨chkKey_ne hk, ?_⟩
      rw [pth, pth, ByteArray.size_append, ByteArray.size_append, h47, h0, Nat.succ_mul]
      have := hs.1
      dsimp only at this
      omega
    | none =>
      rw [hk] at h
      cases hv : f v with
      | none => rw [hv] at h; exact chkM_good r (some s) (fun x hx => hf x (List.mem_cons_of_mem _ hx)) p c h
      | some pc =>
        obtain ⟨p', c'⟩ := pc
        rw [hv] at h
        simp only [Option.some.injEq, Prod.mk.injEq] at h
        obtain ⟨rfl, rfl⟩ := h
        have := hs.2 p' c' hv
        refine ⟨this.1, ?_⟩
        rw [pth, ByteArray.size_append, ByteArray.size_append, h47, Nat.succ_mul]
        have := hs.1
        dsimp only at this
        omega
theorem VOkL.mem {M : Nat} : ∀ {l : List V}, VOkL M l → ∀ v ∈ l, VOk M v
  | v :: r, h, x, hx => by
    rcases List.mem_cons.1 hx with rfl | hx
    · exact h.1
    · exact VOkL.mem h.2 x hx
theorem VOkM.mem {M : Nat} : ∀ {l : List (ByteArray × V)}, VOkM M l → ∀ x ∈ l, x.1.size ≤ M ∧ VOk M x.2
  | (s, v) :: r, h, x, hx => by
    rcases List.mem_cons.1 hx with rfl | hx
    · exact ⟨h.1, h.2.1⟩
    · exact VOkM.mem h.2.2 x hx
theorem chkHead_good {D : Nat} {fl : List V → Option (List ByteArray × Int)} {fm : List (ByteArray × V) → Option (List ByteArray × Int)} : ∀ v, (∀ k y n t l m, v = .mk k y n t l m → GoodR D (fl l) ∧ GoodR D (fm m)) → GoodR D (chkHead fl fm v)
  | .mk k y n t l m, h => fun p c hh => by
    have h0 : (pth []).size = 0 := rfl
    obtain ⟨h1, h2⟩ := h k y n t l m rfl
    have hz : ∀ c', some (([] : List ByteArray), c') = some (p, c) → c' ≠ 0 → c ≠ 0 ∧ (pth p).size ≤ D * 1000050 := fun c' e hc => by
      injection e with e; injection e with e1 e2; subst e1 e2; exact ⟨hc, by omega⟩
    rw [chkHead] at hh
    by_cases k0 : k = 0 ∨ k = 1
    · rw [if_pos k0] at hh; cases hh
    rw [if_neg k0] at hh
    by_cases k2 : k = 2
    · rw [if_pos k2] at hh
      by_cases hn : n < -9007199254740991 ∨ 9007199254740991 < n
      · rw [if_pos hn] at hh; exact hz 4 hh (by omega)
      · rw [if_neg hn] at hh; cases hh
    rw [if_neg k2] at hh
    by_cases k3 : k = 3
    · rw [if_pos k3] at hh
      by_cases hn : validB t = true
      · rw [if_pos hn] at hh; cases hh
      · rw [if_neg hn] at hh; exact hz 5 hh (by omega)
    rw [if_neg k3] at hh
    by_cases k4 : k = 4
    · rw [if_pos k4] at hh; exact h1 p c hh
    rw [if_neg k4] at hh
    by_cases k5 : k = 5
    · rw [if_pos k5] at hh; exact h2 p c hh
    rw [if_neg k5] at hh
    exact hz 9 hh (by omega)
theorem chk_good : ∀ (d : Nat) (v : V), VOk 1000000 v → GoodR d (chk d v)
  | 0, v, h => by
    rw [chk]
    exact chkHead_good v fun k y n t l m e => ⟨fun p c h => by injection h with h; injection h with e1 e2; subst e1 e2; exact ⟨by omega, by show (pth []).size ≤ _; exact Nat.zero_le _⟩, fun p c h => by injection h with h; injection h with e1 e2; subst e1 e2; exact ⟨by omega, by show (pth []).size ≤ _; exact Nat.zero_le _⟩⟩
  | d + 1, v, h => by
    rw [chk]
    refine chkHead_good v fun k y n t l m e => ?_
    subst e
    obtain ⟨ht, hl, hm, hvl, hvm⟩ := h
    exact ⟨chkL_good l 0 (fun x hx => chk_good d x (hvl.mem x hx)) (by omega), chkM_good m none (fun x hx => ⟨(hvm.mem x hx).1, chk_good d x.2 (hvm.mem x hx).2⟩)⟩

set_option maxRecDepth 100000 in
set_option maxHeartbeats 4000000 in
/-- The kinds without parts, at whatever depth; and those that are too deep. -/
theorem refcheck_plain (fl : List V → Option (List ByteArray × Int)) (fm : List (ByteArray × V) → Option (List ByteArray × Int)) (k : Int) (y : Bool) (n : Int) (t : ByteArray) (l : List V) (m : List (ByteArray × V)) (a a' : Value) (dp : Int) (w : World) (ht : t.size ≤ 1000000)
    (hk : (k ≠ 4 ∧ k ≠ 5) ∨ (dp = 20 ∧ fl l = some ([], 3) ∧ fm m = some ([], 3))) :
    Calls Tryz.prog 19 #[.agg #[.int .i64 k, .bool y, .int .i64 n, .string t, a, a'], .int .i64 dp] w (RefAns (chkHead fl fm (.mk k y n t l m)) w) := by
  have hb0 : Below w.heap.size w ((w.alloc (.cells #[.int .i64 k, .bool y, .int .i64 n, .string t, a, a'] 25)).alloc (.cells #[.int .i64 0, .int .i64 0, .string ⟨#[]⟩] 39)) := ((Below.refl _ _).alloc (Nat.le_refl _) _).alloc (by simp) _
  have hE0 : EBlk ((w.alloc (.cells #[.int .i64 k, .bool y, .int .i64 n, .string t, a, a'] 25)).alloc (.cells #[.int .i64 0, .int .i64 0, .string ⟨#[]⟩] 39)) (w.heap.size + 1) 0 0 ⟨#[]⟩ := by
    have := EBlk.new (w.alloc (.cells #[.int .i64 k, .bool y, .int .i64 n, .string t, a, a'] 25)) 0 0 ⟨#[]⟩
    simpa using this
  have fin : ∀ (W : World) (r : Option (List ByteArray × Int)), Below w.heap.size w W → chkHead fl fm (.mk k y n t l m) = r → RefAns (chkHead fl fm (.mk k y n t l m)) w (.returned (.agg #[.int .i64 (refCode r), .int .i64 (-1), .string (refPath r)])) W := fun W r hW hr => by rw [hr]; exact ⟨rfl, hW⟩
  obtain ⟨R, hR⟩ : ∃ R, chkHead fl fm (.mk k y n t l m) = R := ⟨_, rfl⟩
  rw [hR] at fin ⊢
  have FIN := Lib.hid fin
  have HR := Lib.hid hR
  have H0 := Lib.hid (And.intro hb0 hE0)
  clear fin hR hb0 hE0
  by_cases e0 : k = 0
  · subst e0
    go_enter Tryz.func19, Tryz.ntmps19
    go_wp2_with fail
    refine (none_any _).mono ?_
    rintro e W ⟨rfl, hb⟩
    obtain ⟨⟨x0, x1, x2⟩, y0, y1, y2⟩ := H0.out.2.below hb (by simp)
    have hz : w.heap.size + 1 < W.heap.size := lt_of_cell x0
    have HB := Lib.hid (H0.out.1.trans (hb.mono (by simp; omega)))
    clear hb
    go_wp2_with fail
    exact bodyPost_ret (v := .agg #[.int .i64 0, .int .i64 (-1), .string ⟨#[]⟩]) (by simp [results, Tryz.results19, go_sem, x0, x1, x2, y0, y1, y2]) rfl (FIN.out _ none (((HB.out.setCell (by simp) _).setCell (by simp) _).setCell (by simp) _) (by rw [← HR.out]; simp [chkHead]))
  by_cases e1 : k = 1
  · subst e1
    go_enter Tryz.func19, Tryz.ntmps19
    go_wp2_with fail
    refine (none_any _).mono ?_
    rintro e W ⟨rfl, hb⟩
    obtain ⟨⟨x0, x1, x2⟩, y0, y1, y2⟩ := H0.out.2.below hb (by simp)
    have hz : w.heap.size + 1 < W.heap.size := lt_of_cell x0
    have HB := Lib.hid (H0.out.1.trans (hb.mono (by simp; omega)))
    clear hb
    go_wp2_with fail
    exact bodyPost_ret (v := .agg #[.int .i64 0, .int .i64 (-1), .string ⟨#[]⟩]) (by simp [results, Tryz.results19, go_sem, x0, x1, x2, y0, y1, y2]) rfl (FIN.out _ none (((HB.out.setCell (by simp) _).setCell (by simp) _).setCell (by simp) _) (by rw [← HR.out]; simp [chkHead]))
  by_cases e2 : k = 2
  · subst e2
    by_cases g2 : 9007199254740991 < n
    · go_enter Tryz.func19, Tryz.ntmps19
      go_wp2_with fail
      refine (err_any 4 _).mono ?_
      rintro e W ⟨rfl, hb⟩
      obtain ⟨⟨x0, x1, x2⟩, y0, y1, y2⟩ := H0.out.2.below hb (by simp)
      have hz : w.heap.size + 1 < W.heap.size := lt_of_cell x0
      have HB := Lib.hid (H0.out.1.trans (hb.mono (by simp; omega)))
      clear hb
      go_wp2_with fail
      exact bodyPost_ret (v := .agg #[.int .i64 4, .int .i64 (-1), .string ⟨#[]⟩]) (by simp [results, Tryz.results19, go_sem, x0, x1, x2, y0, y1, y2]) rfl (FIN.out _ (some ([], 4)) (((HB.out.setCell (by simp) _).setCell (by simp) _).setCell (by simp) _) (by rw [← HR.out]; simp [chkHead, g2]))
    have g2' : decide (9007199254740991 < n) = false := decide_eq_false g2
    by_cases g1 : n < -9007199254740991
    · go_enter Tryz.func19, Tryz.ntmps19
      go_wp2_with fail
      refine (err_any 4 _).mono ?_
      rintro e W ⟨rfl, hb⟩
      obtain ⟨⟨x0, x1, x2⟩, y0, y1, y2⟩ := H0.out.2.below hb (by simp)
      have hz : w.heap.size + 1 < W.heap.size := lt_of_cell x0
      have HB := Lib.hid (H0.out.1.trans (hb.mono (by simp; omega)))
      clear hb
      go_wp2_with fail
      exact bodyPost_ret (v := .agg #[.int .i64 4, .int .i64 (-1), .string ⟨#[]⟩]) (by simp [results, Tryz.results19, go_sem, x0, x1, x2, y0, y1, y2]) rfl (FIN.out _ (some ([], 4)) (((HB.out.setCell (by simp) _).setCell (by simp) _).setCell (by simp) _) (by rw [← HR.out]; simp [chkHead, g1]))
    · go_enter Tryz.func19, Tryz.ntmps19
      go_wp2_with fail
      refine (none_any _).mono ?_
      rintro e W ⟨rfl, hb⟩
      obtain ⟨⟨x0, x1, x2⟩, y0, y1, y2⟩ := H0.out.2.below hb (by simp)
      have hz : w.heap.size + 1 < W.heap.size := lt_of_cell x0
      have HB := Lib.hid (H0.out.1.trans (hb.mono (by simp; omega)))
      clear hb
      go_wp2_with fail
      exact bodyPost_ret (v := .agg #[.int .i64 0, .int .i64 (-1), .string ⟨#[]⟩]) (by simp [results, Tryz.results19, go_sem, x0, x1, x2, y0, y1, y2]) rfl (FIN.out _ none (((HB.out.setCell (by simp) _).setCell (by simp) _).setCell (by simp) _) (by rw [← HR.out, chkHead, if_neg (by omega), if_pos rfl, if_neg (by omega)]))
  by_cases e3 : k = 3
  · subst e3
    have HU := Lib.hid (fun W => utf8_any t W (by omega))
    cases hB' : validB t
    · rw [hB'] at HU
      have HV := Lib.hid hB'
      clear hB'
      go_enter Tryz.func19, Tryz.ntmps19
      go_wp2_with fail
      refine (HU.out _).mono ?_
      rintro e W0 ⟨rfl, rfl⟩
      go_wp2_with fail
      refine (err_any 5 _).mono ?_
      rintro e W ⟨rfl, hb⟩
      obtain ⟨⟨x0, x1, x2⟩, y0, y1, y2⟩ := H0.out.2.below hb (by simp)
      have hz : w.heap.size + 1 < W.heap.size := lt_of_cell x0
      have HB := Lib.hid (H0.out.1.trans (hb.mono (by simp; omega)))
      clear hb
      go_wp2_with fail
      exact bodyPost_ret (v := .agg #[.int .i64 5, .int .i64 (-1), .string ⟨#[]⟩]) (by simp [results, Tryz.results19, go_sem, x0, x1, x2, y0, y1, y2]) rfl (FIN.out _ (some ([], 5)) (((HB.out.setCell (by simp) _).setCell (by simp) _).setCell (by simp) _) (by rw [← HR.out]; simp [chkHead, HV.out]))
    · rw [hB'] at HU
      have HV := Lib.hid hB'
      clear hB'
      go_enter Tryz.func19, Tryz.ntmps19
      go_wp2_with fail
      refine (HU.out _).mono ?_
      rintro e W0 ⟨rfl, rfl⟩
      go_wp2_with fail
      refine (none_any _).mono ?_
      rintro e W ⟨rfl, hb⟩
      obtain ⟨⟨x0, x1, x2⟩, y0, y1, y2⟩ := H0.out.2.below hb (by simp)
      have hz : w.heap.size + 1 < W.heap.size := lt_of_cell x0
      have HB := Lib.hid (H0.out.1.trans (hb.mono (by simp; omega)))
      clear hb
      go_wp2_with fail
      exact bodyPost_ret (v := .agg #[.int .i64 0, .int .i64 (-1), .string ⟨#[]⟩]) (by simp [results, Tryz.results19, go_sem, x0, x1, x2, y0, y1, y2]) rfl (FIN.out _ none (((HB.out.setCell (by simp) _).setCell (by simp) _).setCell (by simp) _) (by rw [← HR.out]; simp [chkHead, HV.out]))
  by_cases e4 : k = 4
  · subst e4
    obtain ⟨rfl, hfl, hfm⟩ : dp = 20 ∧ fl l = some ([], 3) ∧ fm m = some ([], 3) := by
      rcases hk with h | h
      · exact absurd rfl h.1
      · exact h
    have HF := Lib.hid hfl
    clear hfl hfm hk
    go_enter Tryz.func19, Tryz.ntmps19
    go_wp2_with fail
    refine (err_any 3 _).mono ?_
    rintro e W ⟨rfl, hb⟩
    obtain ⟨⟨x0, x1, x2⟩, y0, y1, y2⟩ := H0.out.2.below hb (by simp)
    have hz : w.heap.size + 1 < W.heap.size := lt_of_cell x0
    have HB := Lib.hid (H0.out.1.trans (hb.mono (by simp; omega)))
    clear hb
    go_wp2_with fail
    exact bodyPost_ret (v := .agg #[.int .i64 3, .int .i64 (-1), .string ⟨#[]⟩]) (by simp [results, Tryz.results19, go_sem, x0, x1, x2, y0, y1, y2]) rfl (FIN.out _ (some ([], 3)) (((HB.out.setCell (by simp) _).setCell (by simp) _).setCell (by simp) _) (by rw [← HR.out]; simp [chkHead, HF.out]))
  by_cases e5 : k = 5
  · subst e5
    obtain ⟨rfl, hfl, hfm⟩ : dp = 20 ∧ fl l = some ([], 3) ∧ fm m = some ([], 3) := by
      rcases hk with h | h
      · exact absurd rfl h.2
      · exact h
    have HF := Lib.hid hfm
    clear hfl hfm hk
    go_enter Tryz.func19, Tryz.ntmps19
    go_wp2_with fail
    refine (err_any 3 _).mono ?_
    rintro e W ⟨rfl, hb⟩
    obtain ⟨⟨x0, x1, x2⟩, y0, y1, y2⟩ := H0.out.2.below hb (by simp)
    have hz : w.heap.size + 1 < W.heap.size := lt_of_cell x0
    have HB := Lib.hid (H0.out.1.trans (hb.mono (by simp; omega)))
    clear hb
    go_wp2_with fail
    exact bodyPost_ret (v := .agg #[.int .i64 3, .int .i64 (-1), .string ⟨#[]⟩]) (by simp [results, Tryz.results19, go_sem, x0, x1, x2, y0, y1, y2]) rfl (FIN.out _ (some ([], 3)) (((HB.out.setCell (by simp) _).setCell (by simp) _).setCell (by simp) _) (by rw [← HR.out]; simp [chkHead, HF.out]))
  · have k0 : (k == 0) = false := beq_eq_false_iff_ne.2 e0
    have k1 : (k == 1) = false := beq_eq_false_iff_ne.2 e1
    have k2 : (k == 2) = false := beq_eq_false_iff_ne.2 e2
    have k3 : (k == 3) = false := beq_eq_false_iff_ne.2 e3
    have k4 : (k == 4) = false := beq_eq_false_iff_ne.2 e4
    have k5 : (k == 5) = false := beq_eq_false_iff_ne.2 e5
    have HK : Hid (chkHead fl fm (.mk k y n t l m) = some ([], 9)) := by
      show _ = _
      rw [chkHead, if_neg (by omega), if_neg e2, if_neg e3, if_neg e4, if_neg e5]
    clear hk e0 e1 e2 e3 e4 e5
    go_enter Tryz.func19, Tryz.ntmps19
    go_wp2_with fail
    refine (err_any 9 _).mono ?_
    rintro e W ⟨rfl, hb⟩
    obtain ⟨⟨x0, x1, x2⟩, y0, y1, y2⟩ := H0.out.2.below hb (by simp)
    have hz : w.heap.size + 1 < W.heap.size := lt_of_cell x0
    have HB := Lib.hid (H0.out.1.trans (hb.mono (by simp; omega)))
    clear hb
    go_wp2_with fail
    exact bodyPost_ret (v := .agg #[.int .i64 9, .int .i64 (-1), .string ⟨#[]⟩]) (by simp [results, Tryz.results19, go_sem, x0, x1, x2, y0, y1, y2]) rfl (FIN.out _ (some ([], 9)) (((HB.out.setCell (by simp) _).setCell (by simp) _).setCell (by simp) _) (by rw [← HR.out]; exact HK.out))
end Go.Proofs.YtleaaipkgjjlfaaGreatDoor

namespace Go.Proofs.YtleaaipkgjjlfaaGreatDoor
open Go.RowKit Go.Lib
set_option linter.unusedVariables false
set_option linter.unusedSimpArgs false

def RefSaid (d : Nat) : Prop := ∀ (v : V) (cs : Array Value) (B : Nat) (w : World), Val w (· < B) 1000000 v cs → B ≤ w.heap.size → Calls Tryz.prog 19 #[.agg cs, .int .i64 (20 - (d : Int))] w (RefAns (chk d v) w)
def RefRelL (w : World) (f : V → Option (List ByteArray × Int)) (l : List V) (box : Array Value) (k : Nat) (i : Value) (wr : World) : Prop :=
  ∃ j : Nat, j + k = l.length ∧ i = .int .i64 j ∧ Whole wr w.heap.size 25 box ∧ EBlk wr (w.heap.size + 1) 0 0 ⟨#[]⟩ ∧ chkL f j (l.drop j) = chkL f 0 l ∧ Below w.heap.size w wr
theorem inPath_pth (s : ByteArray) (c : Int) (p : List ByteArray) (h : c ≠ 0) : inPath s c (pth p) = pth (s :: p) := by rw [inPath, if_neg h, pth]

set_option maxRecDepth 100000 in
set_option maxHeartbeats 4000000 in
theorem refcheck_list (d : Nat) (hd : d + 1 ≤ 20) (ih : RefSaid d) (y : Bool) (n : Int) (t : ByteArray) (l : List V) (m : List (ByteArray × V)) (A A' : Option Addr) (c c' B : Nat) (w : World) (hv : ValL w (· < B) 1000000 l A 0) (hlen : l.length ≤ 1000000) (hcap : l.length ≤ c) (hB : B ≤ w.heap.size) :
    Calls Tryz.prog 19 #[.agg #[.int .i64 4, .bool y, .int .i64 n, .string t, .slice A l.length c, .slice A' m.length c'], .int .i64 (20 - ((d + 1 : Nat) : Int))] w (RefAns (chkL (chk d) 0 l) w) := by
  obtain ⟨dp, hdp⟩ : ∃ dp : Int, dp = 20 - ((d + 1 : Nat) : Int) := ⟨_, rfl⟩
  rw [← hdp]
  have hdp1 : dp + 1 = 20 - (d : Int) := by omega
  have hne : (dp == 20) = false := beq_eq_false_iff_ne.2 (by omega)
  have hd0 : 0 ≤ dp := by omega
  have hd20 : dp < 20 := by omega
  obtain ⟨R, hR⟩ : ∃ R, chkL (chk d) 0 l = R := ⟨_, rfl⟩
  rw [hR]
  have HR := Lib.hid (And.intro hR hdp1)
  have HV := Lib.hid hv
  clear hR hv hdp hdp1
  go_enter Tryz.func19, Tryz.ntmps19
  go_wp2_with fail
  go_loopg [43] l.length (RefRelL w (chk d) l #[.int .i64 4, .bool y, .int .i64 n, .string t, .slice A l.length c, .slice A' m.length c'])
  case atStart =>
    refine ⟨0, by simp, rfl, (Whole.made w _ _).alloc _, ?_, rfl, ((Below.refl _ _).alloc (Nat.le_refl _) _).alloc (by simp) _⟩
    have := EBlk.new (w.alloc (.cells #[.int .i64 4, .bool y, .int .i64 n, .string t, .slice A l.length c, .slice A' m.length c'] 25)) 0 0 ⟨#[]⟩
    simpa using this
  case round =>
    obtain ⟨j, hk, rfl, hbox, hE, hrest, hb⟩ := hrel
    have b4 := hbox.cell 4
    simp at b4
    have hz : w.heap.size + 1 < wr.heap.size := hE.lt
    by_cases hlt : j < l.length
    · obtain ⟨b, off, cs, rfl, hbl, hcell, hval⟩ := HV.out.get j hlt
      have hcell' : ∀ q, q < 6 → wr.cell? ⟨b, off + j * 6 + q, none⟩ = cs[q]? := fun q hq => (hb.cell (by simp; omega)).trans (by simpa using hcell q hq)
      obtain ⟨cj, rfl⟩ := hval.c6
      obtain ⟨x0, x1, x2, x3, x4, x5⟩ := cells6 hcell' rfl
      have hcall := ih l[j] cj.arr B wr (hval.keep (fun p hp => hb.cell (Nat.lt_of_lt_of_le hp hB)) (fun _ h => h)) (Nat.le_trans hB hb.size)
      rw [← HR.out.2] at hcall
      have hgood := chk_good d l[j] hval.ok
      have hj1 : (j : Int) < (l.length : Int) := by omega
      have HC := Lib.hid hcall
      have HX := Lib.hid (And.intro hk (And.intro hbox (And.intro hE (And.intro hrest hb))))
      clear hcall hval hcell hcell' hk hbox hE hrest hb
      obtain ⟨jk, jy, jn, jt, ja, jla, jca, jb, jlb, jcb⟩ := cj
      dsimp only [C6.arr] at x0 x1 x2 x3 x4 x5 HC
      cases hcj : chk d l[j] with
      | none =>
        rw [hcj] at HC
        have HJ := Lib.hid hcj
        clear hcj hgood
        go_wp2_with fail
        refine HC.out.mono ?_
        rintro e W ⟨rfl, hb2⟩
        have HB := Lib.hid hb2
        clear hb2 x0 x1 x2 x3 x4 x5 HC
        simp only [refCode, refPath]
        go_wp2_with fail
        go_roundg (l.length - (j + 1))
        case rel =>
          obtain ⟨hk, hbox, hE, hrest, hb⟩ := HX.out
          have hb3 := HB.out.alloc HB.out.size (.cells #[.int .i64 0, .int .i64 (-1), .string ⟨#[]⟩] 39)
          refine ⟨j + 1, by omega, by go_num, hbox.below hb3 hbox.lt, hE.below hb3 hE.lt, ?_, hb.trans (hb3.mono hb.size)⟩
          rw [← hrest, List.drop_eq_getElem_cons hlt, chkL, HJ.out]
        case measure => have := HX.out.1; omega
      | some pc =>
        obtain ⟨p, ec⟩ := pc
        rw [hcj] at HC
        have hg := hgood p ec hcj
        have hec : (ec != 0) = true := by simpa using hg.1
        have hps : (pth p).size ≤ 1000000000 := by have := hg.2; have : d * 1000050 ≤ 20 * 1000050 := Nat.mul_le_mul_right _ (by omega); omega
        have HJ := Lib.hid (And.intro hcj hg.1)
        clear hcj hgood hg
        obtain ⟨pp, hpp⟩ : ∃ pp, pth p = pp := ⟨_, rfl⟩
        unfold RefAns at HC
        simp only [refCode, refPath] at HC
        rw [hpp] at HC hps
        have HP := Lib.hid hpp
        clear hpp
        go_wp2_with fail
        refine HC.out.mono ?_
        rintro e W ⟨rfl, hb2⟩
        obtain ⟨r0, r1, r2⟩ := (HX.out.2.2.1.below hb2 HX.out.2.2.1.lt).1
        obtain ⟨s0, s1, s2⟩ := (HX.out.2.2.1.below hb2 HX.out.2.2.1.lt).2
        have hzW : w.heap.size + 1 < W.heap.size := lt_of_cell r0
        have HB := Lib.hid hb2
        clear hb2 x0 x1 x2 x3 x4 x5 HC
        go_wp2_with fail
        obtain ⟨W2, hW2⟩ : ∃ W2, W.alloc (.cells #[.int .i64 ec, .int .i64 (-1), .string pp] 39) = W2 := ⟨_, rfl⟩
        rw [hW2]
        have hbW2 : Below W.heap.size W W2 := hW2 ▸ (Below.refl _ _).alloc (Nat.le_refl _) _
        have hE2 : EBlk W2 W.heap.size ec (-1) pp := hW2 ▸ EBlk.new W ec (-1) pp
        obtain ⟨e0, e1, e2⟩ := hE2.1
        have q0 := (hbW2.cell (p := ⟨w.heap.size + 1, 0, none⟩) hzW).trans r0
        have q1 := (hbW2.cell (p := ⟨w.heap.size + 1, 1, none⟩) hzW).trans r1
        have q2 := (hbW2.cell (p := ⟨w.heap.size + 1, 2, none⟩) hzW).trans r2
        have u0 := (hbW2.frozen (p := ⟨w.heap.size + 1, 0, none⟩) hzW).trans s0
        have u1 := (hbW2.frozen (p := ⟨w.heap.size + 1, 1, none⟩) hzW).trans s1
        have u2 := (hbW2.frozen (p := ⟨w.heap.size + 1, 2, none⟩) hzW).trans s2
        have hz2 : W.heap.size < W2.heap.size := hE2.lt
        have hzr2 : w.heap.size + 1 < W2.heap.size := by omega
        have HW2 := Lib.hid hbW2
        clear hbW2 hE2 hW2 r0 r1 r2 s0 s1 s2
        go_region_held3 (fun w' => w'.cell? ⟨W.heap.size, 0, none⟩ = some (.int .i64 ec) ∧ w'.cell? ⟨W.heap.size, 1, none⟩ = some (.int .i64 (-1)) ∧ w'.cell? ⟨W.heap.size, 2, none⟩ = some (.string pp)) (go_keep)
          (first
            | (go_at_call 22; refine (digits_any j _ (by omega)).mono ?_; rintro e W5 ⟨rfl, rfl⟩)
            | (go_at_call 39; refine (in_any (itoaB j) pp ec (-1) _ (Nat.le_trans (itoaB_small j (by omega)) (by omega)) hps).mono ?_; rintro e W6 ⟨rfl, hb6⟩
               have e0' := (hb6.cell (p := ⟨W.heap.size, 0, none⟩) hz2).trans e0
               have e1' := (hb6.cell (p := ⟨W.heap.size, 1, none⟩) hz2).trans e1
               have e2' := (hb6.cell (p := ⟨W.heap.size, 2, none⟩) hz2).trans e2
               have q0' := (hb6.cell (p := ⟨w.heap.size + 1, 0, none⟩) hzr2).trans q0
               have q1' := (hb6.cell (p := ⟨w.heap.size + 1, 1, none⟩) hzr2).trans q1
               have q2' := (hb6.cell (p := ⟨w.heap.size + 1, 2, none⟩) hzr2).trans q2
               have u0' := (hb6.frozen (p := ⟨w.heap.size + 1, 0, none⟩) hzr2).trans u0
               have u1' := (hb6.frozen (p := ⟨w.heap.size + 1, 1, none⟩) hzr2).trans u1
               have u2' := (hb6.frozen (p := ⟨w.heap.size + 1, 2, none⟩) hzr2).trans u2
               have hz6 : w.heap.size + 1 < W6.heap.size := lt_of_cell q0'
               have hne6 : ¬ w.heap.size + 1 = W.heap.size := by omega
               have H6 := Lib.hid (((Below.refl W2.heap.size W2).drew).trans hb6)
               clear hb6))
        go_wp2_with fail
        refine bodyPost_ret (v := .agg #[.int .i64 ec, .int .i64 (-1), .string (inPath (itoaB j) ec pp)]) (by simp [results, Tryz.results19, go_sem, q0', q1', q2', u0', u1', u2']) rfl ?_
        obtain ⟨hk, hbox, hE, hrest, hb⟩ := HX.out
        have hRR : R = some (itoaB j :: p, ec) := by rw [← HR.out.1, ← hrest, List.drop_eq_getElem_cons hlt, chkL, HJ.out.1]
        refine ⟨?_, ?_⟩
        · rw [hRR, ← HP.out, inPath_pth _ _ _ HJ.out.2]; rfl
        · exact (((hb.trans ((HB.out.trans ((HW2.out.trans (H6.out.mono HW2.out.size)).mono HB.out.size)).mono hb.size)).setCell (by simp) _).setCell (by simp) _).setCell (by simp) _
    · obtain ⟨r0, r1, r2⟩ := hE.1
      have HX := Lib.hid (And.intro hk (And.intro hE (And.intro hrest hb)))
      clear hk hbox hE hrest hb
      go_wp2_with fail
      refine (none_any _).mono ?_
      rintro e W ⟨rfl, hb2⟩
      obtain ⟨⟨x0, x1, x2⟩, y0, y1, y2⟩ := HX.out.2.1.below hb2 HX.out.2.1.lt
      have hzW : w.heap.size + 1 < W.heap.size := lt_of_cell x0
      have HB := Lib.hid hb2
      clear hb2 r0 r1 r2
      go_wp2_with fail
      refine bodyPost_ret (v := .agg #[.int .i64 0, .int .i64 (-1), .string ⟨#[]⟩]) (by simp [results, Tryz.results19, go_sem, x0, x1, x2, y0, y1, y2]) rfl ?_
      obtain ⟨hk, hE, hrest, hb⟩ := HX.out
      have hRR : R = none := by rw [← HR.out.1, ← hrest, List.drop_of_length_le (by omega), chkL]
      refine ⟨by rw [hRR]; rfl, ?_⟩
      exact (((hb.trans (HB.out.mono hb.size)).setCell (by simp) _).setCell (by simp) _).setCell (by simp) _
end Go.Proofs.YtleaaipkgjjlfaaGreatDoor

namespace Go.Proofs.YtleaaipkgjjlfaaGreatDoor
open Go.RowKit Go.Lib
set_option linter.unusedVariables false
set_option linter.unusedSimpArgs false

def RefRelM (w : World) (f : V → Option (List ByteArray × Int)) (l : List (ByteArray × V)) (box : Array Value) (k : Nat) (i : Value) (wr : World) : Prop :=
  ∃ j : Nat, j + k = l.length ∧ i = .int .i64 j ∧ Whole wr w.heap.size 25 box ∧ EBlk wr (w.heap.size + 1) 0 0 ⟨#[]⟩ ∧ chkM f (prevAt l j) (l.drop j) = chkM f none l ∧ Below w.heap.size w wr

theorem Only.drewN {g : Nat} {w w' : World} (h : Only g w w') (n : Nat) : Only g w (w'.drewN n) := ⟨h.1, h.2.1, fun B W hW h1 h2 => below_drewN (h.2.2 B W hW h1 h2) n⟩
theorem EBlk.drewN {w : World} {g : Nat} {a b : Int} {s : ByteArray} (h : EBlk w g a b s) (n : Nat) : EBlk (w.drewN n) g a b s := h
def lessB (s : ByteArray) : Option ByteArray → Bool
  | none => false
  | some q => Op.bytesLess s.toList q.toList
def sameB (s : ByteArray) : Option ByteArray → Bool
  | none => false
  | some q => s.toList == q.toList

theorem sameB_some {s q : ByteArray} : sameB s (some q) = decide (s.toList = q.toList) := by
  unfold sameB
  by_cases h : s.toList = q.toList <;> simp [h]
theorem map_step {f : V → Option (List ByteArray × Int)} {m : List (ByteArray × V)} {j : Nat} {s : ByteArray} {ro : Option (List ByteArray × Int)} {d : Nat} (hlt : j < m.length) (hs : m[j].1 = s) (hro : f m[j].2 = ro) (hg : GoodR d ro) :
    (validB s = false → chkM f (prevAt m j) (m.drop j) = some ([s], 5)) ∧
    (validB s = true → ∀ (ec2 : Int) (ep2 : ByteArray), (if sameB s (prevAt m j) then 6 else if lessB s (prevAt m j) then 1 else refCode ro) = ec2 → (if sameB s (prevAt m j) then ⟨#[]⟩ else if lessB s (prevAt m j) then ⟨#[]⟩ else refPath ro) = ep2 →
      (ec2 = 0 → chkM f (prevAt m (j + 1)) (m.drop (j + 1)) = chkM f (prevAt m j) (m.drop j)) ∧ (ec2 ≠ 0 → ∃ p, chkM f (prevAt m j) (m.drop j) = some (p, ec2) ∧ pth p = inPath s ec2 ep2)) := by
  have hdrop : m.drop j = (s, m[j].2) :: m.drop (j + 1) := by
    rw [List.drop_eq_getElem_cons hlt]
    congr 1
    exact Prod.ext hs rfl
  have hprev : prevAt m (j + 1) = some s := by simp [prevAt, List.getElem?_eq_getElem hlt, hs]
  have hone : ∀ c : Int, c ≠ 0 → pth [s] = inPath s c ⟨#[]⟩ := fun c hc => by rw [inPath, if_neg hc, pth, pth]
  refine ⟨fun h => ?_, fun h ec2 ep2 hec hep => ?_⟩
  · rw [hdrop, chkM, chkKey.eq_def, if_pos h]
  · have hkey : chkKey s (prevAt m j) = if sameB s (prevAt m j) then some 6 else if lessB s (prevAt m j) then some 1 else none := by
      rw [chkKey.eq_def, if_neg (by simp [h])]
      cases hp : prevAt m j with
      | none => rfl
      | some q =>
        simp only [sameB_some, lessB, bytesLt]
        by_cases h1 : s.toList = q.toList
        · simp [h1]
        · rw [if_neg h1, if_neg (by simp [h1])]
          rfl
    rw [hdrop, chkM, hkey, hprev]
    by_cases b2 : sameB s (prevAt m j) = true
    · rw [if_pos b2] at hec hep ⊢
      subst hec hep
      exact ⟨fun h0 => absurd h0 (by omega), fun _ => ⟨[s], rfl, hone 6 (by omega)⟩⟩
    · rw [if_neg b2] at hec hep ⊢
      by_cases b1 : lessB s (prevAt m j) = true
      · rw [if_pos b1] at hec hep ⊢
        subst hec hep
        exact ⟨fun h0 => absurd h0 (by omega), fun _ => ⟨[s], rfl, hone 1 (by omega)⟩⟩
      · rw [if_neg b1] at hec hep ⊢
        dsimp only
        rw [hro]
        cases ro with
        | none =>
          subst hec hep
          exact ⟨fun _ => rfl, fun h0 => absurd rfl h0⟩
        | some pc =>
          obtain ⟨p, c⟩ := pc
          subst hec hep
          have hc := (hg p c rfl).1
          exact ⟨fun h0 => absurd h0 hc, fun _ => ⟨s :: p, rfl, (inPath_pth s c p hc).symm⟩⟩

set_option maxRecDepth 100000 in
set_option maxHeartbeats 8000000 in
theorem refcheck_map (d : Nat) (hd : d + 1 ≤ 20) (ih : RefSaid d) (y : Bool) (n : Int) (t : ByteArray) (l : List V) (m : List (ByteArray × V)) (A A' : Option Addr) (c c' B : Nat) (w : World) (hv : ValM w (· < B) 1000000 m A' 0) (hlen : m.length ≤ 1000000) (hcap : m.length ≤ c') (hB : B ≤ w.heap.size) :
    Calls Tryz.prog 19 #[.agg #[.int .i64 5, .bool y, .int .i64 n, .string t, .slice A l.length c, .slice A' m.length c'], .int .i64 (20 - ((d + 1 : Nat) : Int))] w (RefAns (chkM (chk d) none m) w) := by
  obtain ⟨dp, hdp⟩ : ∃ dp : Int, dp = 20 - ((d + 1 : Nat) : Int) := ⟨_, rfl⟩
  rw [← hdp]
  have hdp1 : dp + 1 = 20 - (d : Int) := by omega
  have hne : (dp == 20) = false := beq_eq_false_iff_ne.2 (by omega)
  have hd0 : 0 ≤ dp := by omega
  have hd20 : dp < 20 := by omega
  obtain ⟨R, hR⟩ : ∃ R, chkM (chk d) none m = R := ⟨_, rfl⟩
  rw [hR]
  have HR := Lib.hid (And.intro hR hdp1)
  have HV := Lib.hid hv
  clear hR hv hdp hdp1
  go_enter Tryz.func19, Tryz.ntmps19
  go_wp2_with fail
  go_loopg [71] m.length (RefRelM w (chk d) m #[.int .i64 5, .bool y, .int .i64 n, .string t, .slice A l.length c, .slice A' m.length c'])
  case atStart =>
    refine ⟨0, by simp, rfl, (Whole.made w _ _).alloc _, ?_, rfl, ((Below.refl _ _).alloc (Nat.le_refl _) _).alloc (by simp) _⟩
    have := EBlk.new (w.alloc (.cells #[.int .i64 5, .bool y, .int .i64 n, .string t, .slice A l.length c, .slice A' m.length c'] 25)) 0 0 ⟨#[]⟩
    simpa using this
  case round =>
    obtain ⟨j, hk, rfl, hbox, hE, hrest, hb⟩ := hrel
    have b5 := hbox.cell 5
    simp at b5
    have hz : w.heap.size + 1 < wr.heap.size := hE.lt
    by_cases hlt : j < m.length
    · obtain ⟨b, off, cs, rfl, hbl, hsM, hkc, hcell, hval⟩ := HV.out.get j hlt
      obtain ⟨cj, rfl⟩ := hval.c6
      obtain ⟨s, hs⟩ : ∃ s, m[j].1 = s := ⟨_, rfl⟩
      rw [hs] at hkc hsM
      have hck : wr.cell? ⟨b, off + j * 7, none⟩ = some (.string s) := (hb.cell (p := ⟨b, off + j * 7, none⟩) (by simp; omega)).trans (by simpa using hkc)
      have hcj : ∀ q, q < 6 → wr.cell? ⟨b, off + j * 7 + (1 + q), none⟩ = cj.arr[q]? := fun q hq => (hb.cell (p := ⟨b, off + j * 7 + (1 + q), none⟩) (by simp; omega)).trans (by simpa using hcell q hq)
      obtain ⟨xk, x0, x1, x2, x3, x4, x5⟩ := cells7 hck hcj rfl
      have hcall := ih m[j].2 cj.arr B wr (hval.keep (fun p hp => hb.cell (Nat.lt_of_lt_of_le hp hB)) (fun _ h => h)) (Nat.le_trans hB hb.size)
      rw [← HR.out.2] at hcall
      have hgood := chk_good d m[j].2 hval.ok
      have hj1 : (j : Int) < (m.length : Int) := by omega
      have hbr : b < wr.heap.size := by have := hb.size; omega
      obtain ⟨ro, hro⟩ : ∃ ro, chk d m[j].2 = ro := ⟨_, rfl⟩
      rw [hro] at hcall hgood
      unfold RefAns at hcall
      obtain ⟨ec, hec⟩ : ∃ ec, refCode ro = ec := ⟨_, rfl⟩
      obtain ⟨ep, hep⟩ : ∃ ep, refPath ro = ep := ⟨_, rfl⟩
      rw [hec, hep] at hcall
      have hps : ep.size ≤ 1000000000 := by
        rw [← hep]
        cases ro with
        | none => simp [refPath, ByteArray.size]
        | some pc =>
          obtain ⟨p, c2⟩ := pc
          have := (hgood p c2 rfl).2
          have : d * 1000050 ≤ 20 * 1000050 := Nat.mul_le_mul_right _ (by omega)
          simp only [refPath]; omega
      have HC := Lib.hid hcall
      have HX := Lib.hid (And.intro hk (And.intro hbox (And.intro hE (And.intro hrest hb))))
      have HY := Lib.hid (And.intro hs (And.intro hro (And.intro hec (And.intro hep hgood))))
      clear hcall hval hcell hcj hk hbox hE hrest hb hs hro hec hep hgood hkc hck
      obtain ⟨jk, jy, jn, jt, ja, jla, jca, jb, jlb, jcb⟩ := cj
      dsimp only [C6.arr] at x0 x1 x2 x3 x4 x5 HC
      have hprev : ∀ i, j = i + 1 → ∃ q, prevAt m j = some q ∧ wr.cell? ⟨b, off + i * 7, none⟩ = some (.string q) := fun i e => by
        subst e
        obtain ⟨b', off', cs', e', -, -, hkc', -, -⟩ := HV.out.get i (by omega)
        obtain ⟨rfl, rfl⟩ : b = b' ∧ off = off' := by simpa using e'
        refine ⟨m[i].1, by simp [prevAt, List.getElem?_eq_getElem (show i < m.length by omega)], ?_⟩
        exact (HX.out.2.2.2.2.cell (p := ⟨b, off + i * 7, none⟩) (by simp; omega)).trans (by simpa using hkc')
      have HP := Lib.hid hprev
      clear hprev
      go_wp2_with fail
      refine HC.out.mono ?_
      rintro e W ⟨rfl, hb2⟩
      have HB := Lib.hid hb2
      have zk0 := (hb2.cell (p := ⟨b, off + j * 7, none⟩) hbr).trans xk
      have z50 := (hb2.cell (p := ⟨w.heap.size, 5, none⟩) (show w.heap.size < wr.heap.size by omega)).trans b5
      have hzW := hb2.size
      clear hb2 x0 x1 x2 x3 x4 x5 HC xk b5
      go_upto_region 31 with (fail)
      obtain ⟨W2, hW2⟩ : ∃ W2, W.alloc (.cells #[.int .i64 ec, .int .i64 (-1), .string ep] 39) = W2 := ⟨_, rfl⟩
      rw [hW2]
      have hbW2 : Below W.heap.size W W2 := hW2 ▸ (Below.refl _ _).alloc (Nat.le_refl _) _
      have hE2 : EBlk W2 W.heap.size ec (-1) ep := hW2 ▸ EBlk.new W ec (-1) ep
      have zk := (hbW2.cell (p := ⟨b, off + j * 7, none⟩) (show b < W.heap.size by omega)).trans zk0
      have z5 := (hbW2.cell (p := ⟨w.heap.size, 5, none⟩) (show w.heap.size < W.heap.size by omega)).trans z50
      have HK := Lib.hid (And.intro zk (And.intro z5 (And.intro hE2 hbW2)))
      have hz2 : W.heap.size < W2.heap.size := hE2.lt
      have hbW : b < W.heap.size := by omega
      clear hW2 hE2 hbW2 zk0 z50
      go_cut [71, 100] from 71 to 141 (fun i s100 wx => i = .int .i64 j ∧ s100 = .bool (lessB s (prevAt m j)) ∧ Only W.heap.size W2 wx ∧ EBlk wx W.heap.size ec (-1) ep)
      case first =>
        cases j with
        | zero =>
          have hg0 : decide ((0 : Int) < ((0 : Nat) : Int)) = false := rfl
          go_quiet (fail)
          go_wp2_with fail
          go_meet
          exact ⟨rfl, rfl, (Only.refl _ _).drewN _, HK.out.2.2.1.drewN _⟩
        | succ i =>
          obtain ⟨q, hq, hqc⟩ := HP.out i rfl
          have hqc2 : W2.cell? ⟨b, off + i * 7, none⟩ = some (.string q) := (HK.out.2.2.2.cell (p := ⟨b, off + i * 7, none⟩) hbW).trans ((HB.out.cell (p := ⟨b, off + i * 7, none⟩) hbr).trans hqc)
          have hi0 : (0 : Int) < ((i + 1 : Nat) : Int) := by omega
          have hil : (i : Int) < (m.length : Int) := by omega
          have HQ := Lib.hid hq
          clear hq hqc
          go_quiet (fail)
          go_wp2_with fail
          go_meet
          exact ⟨by go_num, by rw [HQ.out]; rfl, (Only.refl _ _).drewN _, HK.out.2.2.1.drewN _⟩
      case rest =>
        obtain ⟨rfl, rfl, ho, hE⟩ := hcut
        obtain ⟨B1, hB1⟩ : ∃ B1, lessB s (prevAt m j) = B1 := ⟨_, rfl⟩
        rw [hB1]
        have HB1 := Lib.hid hB1
        have HO := Lib.hid (And.intro ho hE)
        obtain ⟨⟨e0, e1, e2⟩, f0, f1, f2⟩ := hE
        have hzo : W2.heap.size ≤ wc.heap.size := ho.1
        clear hB1 ho
        go_upto_if 100 with (fail)
        go_cut [71] from 71 to 141 (fun i wx => i = .int .i64 j ∧ Only W.heap.size W2 wx ∧ EBlk wx W.heap.size (if B1 then 1 else ec) (-1) (if B1 then ⟨#[]⟩ else ep))
        case first =>
          cases B1 with
          | false =>
            go_wp2_with fail
            go_meet
            exact ⟨rfl, HO.out.1, HO.out.2⟩
          | true =>
            go_wp2_with fail
            refine (err_any 1 _).mono ?_
            rintro e W5 ⟨rfl, hb5⟩
            have hE5 := HO.out.2.below hb5 (show W.heap.size < wc.heap.size by omega)
            have HE := Lib.hid (And.intro hE5 hb5)
            obtain ⟨⟨c0, c1, c2⟩, g0, g1, g2⟩ := hE5
            have hz5 : W.heap.size < W5.heap.size := lt_of_cell c0
            clear hb5 e0 e1 e2 f0 f1 f2
            go_wp2_with fail
            go_meet
            refine ⟨rfl, (((HO.out.1.step HE.out.2).put 0 _).put 1 _).put 2 _, ?_⟩
            exact ((HE.out.1.set0 _).set1 _).set2 _
        case rest =>
          obtain ⟨rfl, ho, hE⟩ := hcut
          clear HO e0 e1 e2 f0 f1 f2 hzo
          obtain ⟨ec1, hec1⟩ : ∃ x, (if B1 then (1 : Int) else ec) = x := ⟨_, rfl⟩
          obtain ⟨ep1, hep1⟩ : ∃ x, (if B1 then (⟨#[]⟩ : ByteArray) else ep) = x := ⟨_, rfl⟩
          rw [hec1, hep1] at hE
          have hps1 : ep1.size ≤ 1000000000 := by
            rw [← hep1]
            split
            · simp [ByteArray.size]
            · exact hps
          have Hec1 := Lib.hid (And.intro hec1 hep1)
          clear hec1 hep1
          have HO := Lib.hid (And.intro ho hE)
          have zk' := (ho.cell (p := ⟨b, off + j * 7, none⟩) (show b < W2.heap.size by omega) (show b ≠ W.heap.size by omega)).trans zk
          have z5' := (ho.cell (p := ⟨w.heap.size, 5, none⟩) (show w.heap.size < W2.heap.size by omega) (show w.heap.size ≠ W.heap.size by omega)).trans z5
          clear ho hE
          go_upto_region 33 with (fail)
          go_cut [71, 119] from 71 to 141 (fun i s119 wx => i = .int .i64 j ∧ s119 = .bool (sameB s (prevAt m j)) ∧ Only W.heap.size W2 wx ∧ EBlk wx W.heap.size ec1 (-1) ep1)
          case first =>
            cases j with
            | zero =>
              have hg0 : decide ((0 : Int) < ((0 : Nat) : Int)) = false := rfl
              go_quiet (fail)
              go_wp2_with fail
              go_meet
              exact ⟨rfl, rfl, HO.out.1.drewN _, HO.out.2.drewN _⟩
            | succ i =>
              obtain ⟨q, hq, hqc⟩ := HP.out i rfl
              have hqc2 : wc.cell? ⟨b, off + i * 7, none⟩ = some (.string q) := (HO.out.1.cell (p := ⟨b, off + i * 7, none⟩) (show b < W2.heap.size by omega) (show b ≠ W.heap.size by omega)).trans ((HK.out.2.2.2.cell (p := ⟨b, off + i * 7, none⟩) hbW).trans ((HB.out.cell (p := ⟨b, off + i * 7, none⟩) hbr).trans hqc))
              have hi0 : (0 : Int) < ((i + 1 : Nat) : Int) := by omega
              have hil : (i : Int) < (m.length : Int) := by omega
              have HQ := Lib.hid hq
              clear hq hqc
              go_quiet (fail)
              go_wp2_with fail
              go_meet
              exact ⟨by go_num, by rw [HQ.out]; rfl, HO.out.1.drewN _, HO.out.2.drewN _⟩
          case rest =>
            clear HO zk' z5'
            obtain ⟨rfl, rfl, ho, hE⟩ := hcut
            obtain ⟨B2, hB2⟩ : ∃ B2, sameB s (prevAt m j) = B2 := ⟨_, rfl⟩
            rw [hB2]
            have HB2 := Lib.hid hB2
            have HO := Lib.hid (And.intro ho hE)
            obtain ⟨⟨e0, e1, e2⟩, f0, f1, f2⟩ := hE
            have hzo : W2.heap.size ≤ wc.heap.size := ho.1
            clear hB2 ho
            go_upto_if 119 with (fail)
            go_cut [71] from 71 to 141 (fun i wx => i = .int .i64 j ∧ Only W.heap.size W2 wx ∧ EBlk wx W.heap.size (if B2 then 6 else ec1) (-1) (if B2 then ⟨#[]⟩ else ep1))
            case first =>
              cases B2 with
              | false =>
                go_wp2_with fail
                go_meet
                exact ⟨rfl, HO.out.1, HO.out.2⟩
              | true =>
                go_wp2_with fail
                refine (err_any 6 _).mono ?_
                rintro e W5 ⟨rfl, hb5⟩
                have hE5 := HO.out.2.below hb5 (show W.heap.size < wc.heap.size by omega)
                have HE := Lib.hid (And.intro hE5 hb5)
                obtain ⟨⟨c0, c1, c2⟩, g0, g1, g2⟩ := hE5
                have hz5 : W.heap.size < W5.heap.size := lt_of_cell c0
                clear hb5 e0 e1 e2 f0 f1 f2
                go_wp2_with fail
                go_meet
                refine ⟨rfl, (((HO.out.1.step HE.out.2).put 0 _).put 1 _).put 2 _, ?_⟩
                exact ((HE.out.1.set0 _).set1 _).set2 _
            case rest =>
              obtain ⟨rfl, ho, hE⟩ := hcut
              clear HO e0 e1 e2 f0 f1 f2 hzo
              obtain ⟨ec2, hec2⟩ : ∃ x, (if B2 then (6 : Int) else ec1) = x := ⟨_, rfl⟩
              obtain ⟨ep2, hep2⟩ : ∃ x, (if B2 then (⟨#[]⟩ : ByteArray) else ep1) = x := ⟨_, rfl⟩
              rw [hec2, hep2] at hE
              have hps2 : ep2.size ≤ 1000000000 := by
                rw [← hep2]
                split
                · simp [ByteArray.size]
                · exact hps1
              have Hec2 := Lib.hid (And.intro hec2 hep2)
              clear hec2 hep2
              have hE1 : EBlk wc (w.heap.size + 1) 0 0 ⟨#[]⟩ := by
                have h1 := (HX.out.2.2.1.below HB.out HX.out.2.2.1.lt).below HK.out.2.2.2 (show w.heap.size + 1 < W.heap.size by omega)
                exact h1.keep (fun o => ho.cell (p := ⟨w.heap.size + 1, o, none⟩) (show w.heap.size + 1 < W2.heap.size by omega) (show w.heap.size + 1 ≠ W.heap.size by omega)) (fun o => World.frozen?_of_block (ho.2.1 (w.heap.size + 1) (show w.heap.size + 1 < W2.heap.size by omega) (show w.heap.size + 1 ≠ W.heap.size by omega)))
              have zk' := (ho.cell (p := ⟨b, off + j * 7, none⟩) (show b < W2.heap.size by omega) (show b ≠ W.heap.size by omega)).trans zk
              have z5' := (ho.cell (p := ⟨w.heap.size, 5, none⟩) (show w.heap.size < W2.heap.size by omega) (show w.heap.size ≠ W.heap.size by omega)).trans z5
              have hbw : Below w.heap.size w W2 := HX.out.2.2.2.2.trans ((HB.out.trans (HK.out.2.2.2.mono HB.out.size)).mono HX.out.2.2.2.2.size)
              have hbc : Below w.heap.size w wc := ho.2.2 _ _ hbw (by omega) (by omega)
              obtain ⟨⟨e0, e1, e2⟩, f0, f1, f2⟩ := hE
              obtain ⟨⟨r0, r1, r2⟩, s0, s1, s2⟩ := hE1
              have hzo : W2.heap.size ≤ wc.heap.size := ho.1
              have yb : b < wc.heap.size := by omega
              have yw : w.heap.size < wc.heap.size := by omega
              have yg : W.heap.size < wc.heap.size := by omega
              have yr : w.heap.size + 1 < wc.heap.size := by omega
              have HO := Lib.hid (And.intro hbc ho)
              have HU := Lib.hid (utf8_any s wc (by omega))
              clear ho hbw hbc zk z5
              cases hvs : validB s
              · rw [hvs] at HU
                have HVS := Lib.hid hvs
                clear hvs
                go_wp2_with fail
                refine HU.out.mono ?_
                rintro e W5 ⟨rfl, rfl⟩
                go_wp2_with fail
                refine (err_any 5 _).mono ?_
                rintro e W7 ⟨rfl, hb7⟩
                obtain ⟨W8, hW8⟩ : ∃ W8, ((W7.setCell ⟨W.heap.size, 0, none⟩ (.int .i64 5)).setCell ⟨W.heap.size, 1, none⟩ (.int .i64 (-1))).setCell ⟨W.heap.size, 2, none⟩ (.string ⟨#[]⟩) = W8 := ⟨_, rfl⟩
                have ho8 : Only W.heap.size W2 W8 := hW8 ▸ (((HO.out.2.step hb7).put 0 _).put 1 _).put 2 _
                have hE8 : EBlk W8 W.heap.size 5 (-1) ⟨#[]⟩ := hW8 ▸ ((((show EBlk wc W.heap.size ec2 (-1) ep2 from ⟨⟨e0, e1, e2⟩, f0, f1, f2⟩).below hb7 yg).set0 5).set1 (-1)).set2 ⟨#[]⟩
                have d0 := (hb7.cell (p := ⟨W.heap.size, 0, none⟩) yg).trans e0
                have d1 := (hb7.cell (p := ⟨W.heap.size, 1, none⟩) yg).trans e1
                have d2 := (hb7.cell (p := ⟨W.heap.size, 2, none⟩) yg).trans e2
                have g0 := (hb7.frozen (p := ⟨W.heap.size, 0, none⟩) yg).trans f0
                have g1 := (hb7.frozen (p := ⟨W.heap.size, 1, none⟩) yg).trans f1
                have g2 := (hb7.frozen (p := ⟨W.heap.size, 2, none⟩) yg).trans f2
                have hz7 : W.heap.size < W7.heap.size := lt_of_cell d0
                have hbw : Below w.heap.size w W2 := HX.out.2.2.2.2.trans ((HB.out.trans (HK.out.2.2.2.mono HB.out.size)).mono HX.out.2.2.2.2.size)
                have hbc : Below w.heap.size w W8 := ho8.2.2 _ _ hbw (by omega) (by omega)
                have hE1 : EBlk W8 (w.heap.size + 1) 0 0 ⟨#[]⟩ := by
                  have h1 := (HX.out.2.2.1.below HB.out HX.out.2.2.1.lt).below HK.out.2.2.2 (show w.heap.size + 1 < W.heap.size by omega)
                  exact h1.keep (fun o => ho8.cell (p := ⟨w.heap.size + 1, o, none⟩) (show w.heap.size + 1 < W2.heap.size by omega) (show w.heap.size + 1 ≠ W.heap.size by omega)) (fun o => World.frozen?_of_block (ho8.2.1 (w.heap.size + 1) (show w.heap.size + 1 < W2.heap.size by omega) (show w.heap.size + 1 ≠ W.heap.size by omega)))
                have zk8 := (ho8.cell (p := ⟨b, off + j * 7, none⟩) (show b < W2.heap.size by omega) (show b ≠ W.heap.size by omega)).trans HK.out.1
                have z58 := (ho8.cell (p := ⟨w.heap.size, 5, none⟩) (show w.heap.size < W2.heap.size by omega) (show w.heap.size ≠ W.heap.size by omega)).trans HK.out.2.1
                have hz8 : W2.heap.size ≤ W8.heap.size := ho8.1
                have HQ8 := Lib.hid hW8
                have HO8 := Lib.hid (And.intro hbc (And.intro hE8 (And.intro hE1 (And.intro zk8 z58))))
                clear hW8 ho8 hb7 hbw hbc hE8 hE1 zk8 z58 zk' z5' e0 e1 e2 f0 f1 f2 r0 r1 r2 s0 s1 s2 yb yw yg yr HU HO
                go_wp2_with fail
                rw [HQ8.out]
                obtain ⟨hbc, hE8, hE1, zk', z5'⟩ := HO8.out
                obtain ⟨⟨e0, e1, e2⟩, f0, f1, f2⟩ := hE8
                obtain ⟨⟨r0, r1, r2⟩, s0, s1, s2⟩ := hE1
                have yb : b < W8.heap.size := by omega
                have yw : w.heap.size < W8.heap.size := by omega
                have yg : W.heap.size < W8.heap.size := by omega
                have yr : w.heap.size + 1 < W8.heap.size := by omega
                clear d0 d1 d2 g0 g1 g2 hbc
                go_region_held3 (fun w' => w'.cell? ⟨b, off + j * 7, none⟩ = some (.string s) ∧ w'.cell? ⟨w.heap.size, 5, none⟩ = some (.slice (some ⟨b, off, none⟩) m.length c') ∧ w'.cell? ⟨W.heap.size, 0, none⟩ = some (.int .i64 5) ∧ w'.cell? ⟨W.heap.size, 1, none⟩ = some (.int .i64 (-1)) ∧ w'.cell? ⟨W.heap.size, 2, none⟩ = some (.string ⟨#[]⟩)) (go_keep)
                  (first
                    | (go_at_call 39; refine (in_any s ⟨#[]⟩ 5 (-1) _ (by omega) (by simp [ByteArray.size])).mono ?_; rintro e W6 ⟨rfl, hb6⟩
                       have k1 := (hb6.cell (p := ⟨b, off + j * 7, none⟩) yb).trans zk'
                       have k2 := (hb6.cell (p := ⟨w.heap.size, 5, none⟩) yw).trans z5'
                       have k3 := (hb6.cell (p := ⟨W.heap.size, 0, none⟩) yg).trans e0
                       have k4 := (hb6.cell (p := ⟨W.heap.size, 1, none⟩) yg).trans e1
                       have k5 := (hb6.cell (p := ⟨W.heap.size, 2, none⟩) yg).trans e2
                       have q0 := (hb6.cell (p := ⟨w.heap.size + 1, 0, none⟩) yr).trans r0
                       have q1 := (hb6.cell (p := ⟨w.heap.size + 1, 1, none⟩) yr).trans r1
                       have q2 := (hb6.cell (p := ⟨w.heap.size + 1, 2, none⟩) yr).trans r2
                       have u0 := (hb6.frozen (p := ⟨w.heap.size + 1, 0, none⟩) yr).trans s0
                       have u1 := (hb6.frozen (p := ⟨w.heap.size + 1, 1, none⟩) yr).trans s1
                       have u2 := (hb6.frozen (p := ⟨w.heap.size + 1, 2, none⟩) yr).trans s2
                       have hz6 : w.heap.size + 1 < W6.heap.size := lt_of_cell q0
                       have hn1 : ¬ w.heap.size + 1 = W.heap.size := by omega
                       have hn2 : ¬ w.heap.size + 1 = b := by omega
                       have H6 := Lib.hid (((Below.refl W8.heap.size W8).drew).trans hb6)
                       clear hb6))
                go_wp2_with fail
                refine bodyPost_ret (v := .agg #[.int .i64 5, .int .i64 (-1), .string (inPath s 5 ⟨#[]⟩)]) (by simp [results, Tryz.results19, go_sem, q0, q1, q2, u0, u1, u2]) rfl ?_
                obtain ⟨hs, hro, hec, hep, hgood⟩ := HY.out
                have hst := map_step hlt hs hro hgood
                have hRR : R = some ([s], 5) := by rw [← HR.out.1, ← HX.out.2.2.2.1, hst.1 HVS.out]
                refine ⟨by rw [hRR]; simp [refCode, refPath, pth, inPath], ?_⟩
                have hbc := HO8.out.1
                exact (((hbc.trans (H6.out.mono hbc.size)).setCell (by simp) _).setCell (by simp) _).setCell (by simp) _
              · rw [hvs] at HU
                have HVS := Lib.hid hvs
                clear hvs
                by_cases h20 : ec2 = 0
                · subst h20
                  go_wp2_with fail
                  refine HU.out.mono ?_
                  rintro e W5 ⟨rfl, rfl⟩
                  go_wp2_with fail
                  go_roundg (m.length - (j + 1))
                  case rel =>
                    obtain ⟨hs, hro, hec, hep, hgood⟩ := HY.out
                    obtain ⟨hk, hbox, hE, hrest, hb⟩ := HX.out
                    have hst := (map_step hlt hs hro hgood).2 HVS.out 0 ep2 (by rw [HB2.out, HB1.out, hec]; rw [← Hec1.out.1] at Hec2; exact Hec2.out.1) (by rw [HB2.out, HB1.out, hep]; rw [← Hec1.out.2] at Hec2; exact Hec2.out.2)
                    refine ⟨j + 1, by omega, by go_num, ?_, ⟨⟨r0, r1, r2⟩, s0, s1, s2⟩, (hst.1 rfl).trans hrest, HO.out.1⟩
                    have h1 := (hbox.below HB.out hbox.lt).below HK.out.2.2.2 (show w.heap.size < W.heap.size by omega)
                    exact (HO.out.2.2.1 w.heap.size (show w.heap.size < W2.heap.size by omega) (show w.heap.size ≠ W.heap.size by omega)).trans h1
                  case measure => have := HX.out.1; omega
                · have h20b : (ec2 != 0) = true := by simpa using h20
                  have H20 := Lib.hid h20
                  clear h20
                  go_wp2_with fail
                  refine HU.out.mono ?_
                  rintro e W5 ⟨rfl, rfl⟩
                  go_wp2_with fail
                  go_region_held3 (fun w' => w'.cell? ⟨b, off + j * 7, none⟩ = some (.string s) ∧ w'.cell? ⟨w.heap.size, 5, none⟩ = some (.slice (some ⟨b, off, none⟩) m.length c') ∧ w'.cell? ⟨W.heap.size, 0, none⟩ = some (.int .i64 ec2) ∧ w'.cell? ⟨W.heap.size, 1, none⟩ = some (.int .i64 (-1)) ∧ w'.cell? ⟨W.heap.size, 2, none⟩ = some (.string ep2)) (go_keep)
                    (first
                      | (go_at_call 39; refine (in_any s ep2 ec2 (-1) _ (by omega) hps2).mono ?_; rintro e W6 ⟨rfl, hb6⟩
                         have k1 := (hb6.cell (p := ⟨b, off + j * 7, none⟩) yb).trans zk'
                         have k2 := (hb6.cell (p := ⟨w.heap.size, 5, none⟩) yw).trans z5'
                         have k3 := (hb6.cell (p := ⟨W.heap.size, 0, none⟩) yg).trans e0
                         have k4 := (hb6.cell (p := ⟨W.heap.size, 1, none⟩) yg).trans e1
                         have k5 := (hb6.cell (p := ⟨W.heap.size, 2, none⟩) yg).trans e2
                         have q0 := (hb6.cell (p := ⟨w.heap.size + 1, 0, none⟩) yr).trans r0
                         have q1 := (hb6.cell (p := ⟨w.heap.size + 1, 1, none⟩) yr).trans r1
                         have q2 := (hb6.cell (p := ⟨w.heap.size + 1, 2, none⟩) yr).trans r2
                         have u0 := (hb6.frozen (p := ⟨w.heap.size + 1, 0, none⟩) yr).trans s0
                         have u1 := (hb6.frozen (p := ⟨w.heap.size + 1, 1, none⟩) yr).trans s1
                         have u2 := (hb6.frozen (p := ⟨w.heap.size + 1, 2, none⟩) yr).trans s2
                         have hz6 : w.heap.size + 1 < W6.heap.size := lt_of_cell q0
                         have hn1 : ¬ w.heap.size + 1 = W.heap.size := by omega
                         have hn2 : ¬ w.heap.size + 1 = b := by omega
                         have H6 := Lib.hid (((Below.refl wc.heap.size wc).drew).trans hb6)
                         clear hb6))
                  go_wp2_with fail
                  refine bodyPost_ret (v := .agg #[.int .i64 ec2, .int .i64 (-1), .string (inPath s ec2 ep2)]) (by simp [results, Tryz.results19, go_sem, q0, q1, q2, u0, u1, u2]) rfl ?_
                  obtain ⟨hs, hro, hec, hep, hgood⟩ := HY.out
                  have hst := map_step hlt hs hro hgood
                  have hst2 := hst.2 HVS.out ec2 ep2 (by rw [HB2.out, HB1.out, hec]; rw [← Hec1.out.1] at Hec2; exact Hec2.out.1) (by rw [HB2.out, HB1.out, hep]; rw [← Hec1.out.2] at Hec2; exact Hec2.out.2)
                  obtain ⟨p, hp1, hp2⟩ := hst2.2 H20.out
                  have hRR : R = some (p, ec2) := by rw [← HR.out.1, ← HX.out.2.2.2.1, hp1]
                  refine ⟨by rw [hRR]; simp only [refCode, refPath, hp2], ?_⟩
                  exact (((HO.out.1.trans (H6.out.mono HO.out.1.size)).setCell (by simp) _).setCell (by simp) _).setCell (by simp) _
    · obtain ⟨r0, r1, r2⟩ := hE.1
      have HX := Lib.hid (And.intro hk (And.intro hE (And.intro hrest hb)))
      clear hk hbox hE hrest hb
      go_wp2_with fail
      refine (none_any _).mono ?_
      rintro e W ⟨rfl, hb2⟩
      obtain ⟨⟨x0, x1, x2⟩, y0, y1, y2⟩ := HX.out.2.1.below hb2 HX.out.2.1.lt
      have hzW : w.heap.size + 1 < W.heap.size := lt_of_cell x0
      have HB := Lib.hid hb2
      clear hb2 r0 r1 r2
      go_wp2_with fail
      refine bodyPost_ret (v := .agg #[.int .i64 0, .int .i64 (-1), .string ⟨#[]⟩]) (by simp [results, Tryz.results19, go_sem, x0, x1, x2, y0, y1, y2]) rfl ?_
      obtain ⟨hk, hE, hrest, hb⟩ := HX.out
      have hRR : R = none := by rw [← HR.out.1, ← hrest, List.drop_of_length_le (by omega), chkM]
      refine ⟨by rw [hRR]; rfl, ?_⟩
      exact (((hb.trans (HB.out.mono hb.size)).setCell (by simp) _).setCell (by simp) _).setCell (by simp) _

theorem refcheck_any : ∀ d, d ≤ 20 → RefSaid d
  | 0, _ => fun v cs B w hv hB => by
    cases v with
    | mk k y n t l m =>
    rw [Val] at hv
    obtain ⟨A1, c1, A2, c2, rfl, ⟨h1c, h2c, ht, hl, hm, -, -⟩, hvl, hvm⟩ := hv
    rw [chk]
    exact refcheck_plain _ _ k y n t l m _ _ _ w ht (.inr ⟨by simp, rfl, rfl⟩)
  | d + 1, hd => fun v cs B w hv hB => by
    have ih := refcheck_any d (by omega)
    cases v with
    | mk k y n t l m =>
    rw [Val] at hv
    obtain ⟨A1, c1, A2, c2, rfl, ⟨h1c, h2c, ht, hl, hm, -, -⟩, hvl, hvm⟩ := hv
    rw [chk]
    by_cases k4 : k = 4
    · subst k4
      exact refcheck_list d hd ih y n t l m A1 A2 c1 c2 B w hvl hl h1c hB
    · by_cases k5 : k = 5
      · subst k5
        exact refcheck_map d hd ih y n t l m A1 A2 c1 c2 B w hvm hm h2c hB
      · exact refcheck_plain _ _ k y n t l m _ _ _ w ht (.inl ⟨k4, k5⟩)

end Go.Proofs.YtleaaipkgjjlfaaGreatDoor

namespace Go.Proofs.YtleaaipkgjjlfaaGreatDoor
open Go.RowKit Go.Lib
set_option linter.unusedVariables false
set_option linter.unusedSimpArgs false

/-- The document's Check of every value. -/
theorem RefCheck_any (v : V) (cs : Array Value) (B : Nat) (w : World) (hv : Val w (· < B) 1000000 v cs) (hB : B ≤ w.heap.size) :
    Calls Tryz.prog 8 #[.agg cs] w (RefAns (chk 20 v) w) := by
  obtain ⟨c, rfl⟩ := hv.c6
  have HC := Lib.hid (fun W (hW : Below w.heap.size w W) => refcheck_any 20 (Nat.le_refl _) v c.arr B W (hv.keep (fun p hp => hW.cell (Nat.lt_of_lt_of_le hp hB)) (fun _ h => h)) (Nat.le_trans hB hW.size))
  clear hv
  obtain ⟨jk, jy, jn, jt, ja, jla, jca, jb, jlb, jcb⟩ := c
  obtain ⟨R, hR⟩ : ∃ R, chk 20 v = R := ⟨_, rfl⟩
  rw [hR] at HC ⊢
  have h00 : (20 : Int) - ((20 : Nat) : Int) = 0 := by decide
  rw [h00] at HC
  dsimp only [C6.arr] at HC ⊢
  clear h00 hR
  go_enter Tryz.func8, Tryz.ntmps8
  go_wp2_with fail
  refine (HC.out _ ?_).mono ?_
  · repeat (first | exact Below.refl _ _ | refine Below.alloc ?_ (by simp <;> omega) _)
  rintro e W ⟨rfl, hb⟩
  have hE0 : EBlk ((w.alloc (.cells #[.int .i64 jk, .bool jy, .int .i64 jn, .string jt, .slice ja jla jca, .slice jb jlb jcb] 25)).alloc (.cells #[.int .i64 0, .int .i64 0, .string ⟨#[]⟩] 39)) (w.heap.size + 1) 0 0 ⟨#[]⟩ := by
    have := EBlk.new (w.alloc (.cells #[.int .i64 jk, .bool jy, .int .i64 jn, .string jt, .slice ja jla jca, .slice jb jlb jcb] 25)) 0 0 ⟨#[]⟩
    simpa using this
  obtain ⟨⟨x0, x1, x2⟩, y0, y1, y2⟩ := hE0.below hb (by simp)
  have hz : w.heap.size + 1 < W.heap.size := lt_of_cell x0
  have HB := Lib.hid ((((Below.refl w.heap.size w).alloc (Nat.le_refl _) _).alloc (by simp) _).trans (hb.mono (by simp; omega)))
  clear hb hE0
  go_wp2_with fail
  exact bodyPost_ret (v := .agg #[.int .i64 (refCode R), .int .i64 (-1), .string (refPath R)]) (by simp [results, Tryz.results8, go_sem, x0, x1, x2, y0, y1, y2]) rfl ⟨rfl, ((HB.out.setCell (by simp) _).setCell (by simp) _).setCell (by simp) _⟩

/-! ### what Tell makes of a check's answer -/
theorem ba_assoc (a b c : ByteArray) : a ++ (b ++ c) = (a ++ b) ++ c := by apply ByteArray.ext; simp
theorem tell_pth : ∀ (p : List ByteArray) (q : ByteArray), tellGo (-1) q (p.map fun s => ((-1 : Int), s)) = (-1, q ++ pth p)
  | [], q => by
    simp only [List.map_nil, tellGo, pth]
    congr 1
    apply ByteArray.ext
    simp
  | s :: r, q => by
    simp only [List.map_cons, tellGo]
    rw [if_neg (by omega), if_pos (by omega), tell_pth r, pth, ba_assoc, ba_assoc, ba_assoc]
theorem chainLen_pth : ∀ (p : List ByteArray), chainLen (p.map fun s => ((-1 : Int), s)) = (pth p).size
  | [] => rfl
  | s :: r => by
    have h47 : (ByteArray.mk #[47]).size = 1 := rfl
    simp only [List.map_cons, chainLen]
    rw [chainLen_pth r, pth, ByteArray.size_append, ByteArray.size_append, h47]

def TellAns (r : Option (List ByteArray × Int)) (w : World) (e : Ending) (w' : World) : Prop := e = .returned (.agg #[.int .i64 (refCode r), .int .i64 (-1), .string (refPath r)]) ∧ Below w.heap.size w w'
/-- Check, and behind it, in whatever world, Tell: what chk says. -/
def CheckTell (r : Option (List ByteArray × Int)) (w : World) (e : Ending) (w' : World) : Prop :=
  ∃ x, e = .returned x ∧ Below w.heap.size w w' ∧ ∀ W, Below w'.heap.size w' W → Calls Tryz.prog 9 #[x] W (TellAns r W)
theorem checkTell_any (v : V) (cs : Array Value) (B : Nat) (w : World) (hv : Val w (· < B) 1000000 v cs) (hB : B ≤ w.heap.size) (hG : Glob w) :
    Calls Tryz.prog 16 #[.agg cs] w (CheckTell (chk 20 v) w) := by
  have hg := chk_good 20 v hv.ok
  refine (Check_any v cs B w hv hB hG).mono ?_
  rintro e w' ⟨hb, ⟨hr, rfl⟩ | ⟨p, c, x, hr, rfl, hch⟩⟩
  · exact ⟨_, rfl, hb, fun W hW => by rw [hr]; exact tell_nil W⟩
  · refine ⟨x, rfl, hb, fun W hW => ?_⟩
    have h2 := (hg p c hr).2
    have := tell_chain _ c x W (hch.below hW) ((hG.below hb).below hW).1 (by rw [chainLen_pth]; omega)
    rw [tell_pth] at this
    rw [hr]
    refine this.mono fun e w'' ⟨he, hb'⟩ => ⟨?_, hb'⟩
    rw [he]
    simp only [refCode, refPath]
    congr 4
end Go.Proofs.YtleaaipkgjjlfaaGreatDoor

namespace Go.Proofs.YtleaaipkgjjlfaaGreatDoor
open Go.RowKit Go.Lib
set_option linter.unusedVariables false
set_option linter.unusedSimpArgs false

/-- Text, and behind it, in whatever world, Tell. -/
def TextTell (v : V) (w : World) (e : Ending) (w' : World) : Prop :=
  Below w.heap.size w w' ∧ ((chk 20 v = none ∧ e = .returned (.tuple #[.string ⟨(canT v).toArray⟩, .nilIface])) ∨
    ∃ T y, chk 20 v ≠ none ∧ e = .returned (.tuple #[.string ⟨#[]⟩, .iface T y]) ∧ ∀ W, Below w'.heap.size w' W → Calls Tryz.prog 9 #[.iface T y] W (TellAns (chk 20 v) W))
theorem textTell_any (v : V) (c : C6) (B : Nat) (w : World) (hv : Val w (· < B) 1000000 v c.arr) (hB : B ≤ w.heap.size) (hG : Glob w) (hT : Tabs w) (hN : 7 ≤ w.heap.size) (hlen : chk 20 v = none → (canT v).length ≤ 400000000) :
    Calls Tryz.prog 6 #[.agg c.arr] w (TextTell v w) := by
  have hg := chk_good 20 v hv.ok
  refine (text_any v c B w hv hB hG hT hN hlen).mono ?_
  rintro e w' ⟨hb, ⟨hr, rfl⟩ | ⟨p, cd, x, hr, rfl, hch⟩⟩
  · exact ⟨hb, .inl ⟨hr, rfl⟩⟩
  · obtain ⟨T, y, rfl⟩ := hch.held
    refine ⟨hb, .inr ⟨T, y, by rw [hr]; simp, rfl, fun W hW => ?_⟩⟩
    have h2 := (hg p cd hr).2
    have := tell_chain _ cd _ W (hch.below hW) ((hG.below hb).below hW).1 (by rw [chainLen_pth]; omega)
    rw [tell_pth] at this
    rw [hr]
    refine this.mono fun e w'' ⟨he, hb'⟩ => ⟨?_, hb'⟩
    rw [he]
    simp only [refCode, refPath]
    congr 4
def RealText (v : V) (w : World) (e : Ending) (w' : World) : Prop :=
  ∃ o : C6, e = .returned (.agg o.arr) ∧ Below w.heap.size w w' ∧ ∀ W, Below w'.heap.size w' W → Calls Tryz.prog 6 #[.agg o.arr] W (TextTell v W)
theorem wgt_text {v : V} (h : wgt v ≤ 300) (hk : chk 20 v = none) : (canT v).length ≤ 400000000 := by
  have := canT_len 20 v hk
  omega
theorem realText_any (v : V) (cs : Array Value) (B : Nat) (w : World) (hw : wgt v ≤ 300) (hv : Val w (· < B) 1000000 v cs) (hB : B ≤ w.heap.size) (hG : Glob w) (hT : Tabs w) (hN : 7 ≤ w.heap.size) :
    Calls Tryz.prog 7 #[.agg cs] w (RealText v w) := by
  refine (real_any 300 v cs B w hw (by omega) hv hB).mono ?_
  rintro e w' ⟨⟨o, rfl, ho⟩, hb⟩
  refine ⟨o, rfl, hb, fun W hW => ?_⟩
  have hbw : Below w.heap.size w W := hb.trans (hW.mono hb.size)
  exact textTell_any v o w'.heap.size W (ho.keep (fun p hp => hW.cell hp.2) (fun b hb => hb.2)) hW.size ((hG.below hb).below hW) (hT.below hbw (Nat.lt_of_lt_of_le (by decide) hN) (Nat.lt_of_lt_of_le (by decide) hN)) (Nat.le_trans hN hbw.size) (wgt_text hw)

set_option maxRecDepth 100000 in
set_option maxHeartbeats 4000000 in
theorem lawTx_any (v : V) (c : C6) (B M : Nat) (w : World) (hM : M ≤ 1000000000) (hw : wgt v ≤ 1000000000) (hv : Val w (· < B) M v c.arr) (hB : B ≤ w.heap.size) (hG : Glob w) (hT : Tabs w) (hN : 7 ≤ w.heap.size) :
    Calls Tryz.prog 3 #[.agg c.arr] w fun e w' => e = .returned (.bool true) ∧ Below w.heap.size w w' := by
  obtain ⟨jk, jy, jn, jt, ja, jla, jca, jb, jlb, jcb⟩ := c
  have hNT : ∀ W, Below w.heap.size w W → Glob W ∧ Tabs W ∧ 7 ≤ W.heap.size := fun W hW => ⟨hG.below hW, hT.below hW (Nat.lt_of_lt_of_le (by decide) hN) (Nat.lt_of_lt_of_le (by decide) hN), Nat.le_trans hN hW.size⟩
  have HAw := Lib.hid (fun W (hW : Below w.heap.size w W) => awake3_any W (hNT W hW).1 (hNT W hW).2.1 (hNT W hW).2.2)
  have HV := Lib.hid (And.intro hv hNT)
  have HF := Lib.hid (fun W (hW : Below w.heap.size w W) => few_any M hM 300 (by omega) v _ B W hw (hv.keep (fun p hp => hW.cell (Nat.lt_of_lt_of_le hp hB)) (fun _ h => h)) (Nat.le_trans hB hW.size))
  obtain ⟨W0, hW0⟩ : ∃ W0, w.alloc (.cells #[.int .i64 jk, .bool jy, .int .i64 jn, .string jt, .slice ja jla jca, .slice jb jlb jcb] 25) = W0 := ⟨_, rfl⟩
  have hb0 : Below w.heap.size w W0 := hW0 ▸ (Below.refl _ _).alloc (Nat.le_refl _) _
  have hw6 : Whole W0 w.heap.size 25 #[.int .i64 jk, .bool jy, .int .i64 jn, .string jt, .slice ja jla jca, .slice jb jlb jcb] := hW0 ▸ Whole.made _ _ _
  have H0 := Lib.hid (And.intro hb0 (And.intro hw6 hW0))
  have hz0 : w.heap.size < W0.heap.size := hw6.lt
  clear hv hG hT hW0 hb0 hw6 hNT
  dsimp only [C6.arr] at HF HV ⊢
  by_cases h300 : wgt v ≤ 300
  · have hdec : decide (wgt v ≤ 300) = true := decide_eq_true h300
    rw [hdec] at HF
    have hvs : ∀ W, Below w.heap.size w W → Val W (· < B) 1000000 v #[.int .i64 jk, .bool jy, .int .i64 jn, .string jt, .slice ja jla jca, .slice jb jlb jcb] := fun W hW => (HV.out.1.small (K := 300) (by omega) h300).keep (fun p hp => hW.cell (Nat.lt_of_lt_of_le hp hB)) (fun _ h => h)
    have HR := Lib.hid (fun W (hW : Below w.heap.size w W) => realText_any v _ B W h300 (hvs W hW) (Nat.le_trans hB hW.size) (HV.out.2 W hW).1 (HV.out.2 W hW).2.1 (HV.out.2 W hW).2.2)
    have HC := Lib.hid (fun W (hW : Below w.heap.size w W) => RefCheck_any v _ B W (hvs W hW) (Nat.le_trans hB hW.size))
    have HT := Lib.hid (fun W (hW : Below w.heap.size w W) (hk : chk 20 v = none) => reftext_any 20 v (C6.mk jk jy jn jt ja jla jca jb jlb jcb) B W hk (hvs W hW) (Nat.le_trans hB hW.size) (wgt_text h300 hk))
    have hgd := chk_good 20 v (hvs w (Below.refl _ _)).ok
    unfold RealText TextTell at HR
    obtain ⟨R, hR⟩ : ∃ R, chk 20 v = R := ⟨_, rfl⟩
    rw [hR] at HR HC HT hgd
    clear hdec h300 hR hvs
    dsimp only [C6.arr] at HT
    have first : True := trivial
    go_enter Tryz.func3, Tryz.ntmps3
    go_wp2_with fail
    rw [H0.out.2.2]
    refine (HAw.out W0 H0.out.1).mono ?_
    rintro e W1 ⟨rfl, hb1⟩
    obtain ⟨x0, x1, x2, x3, x4, x5⟩ := (H0.out.2.1.below hb1 hz0).six
    have HB1 := Lib.hid (H0.out.1.trans (hb1.mono H0.out.1.size))
    have hz1 : w.heap.size < W1.heap.size := lt_of_cell x0
    clear hb1
    go_wp2_with fail
    refine (HF.out W1 HB1.out).mono ?_
    rintro e W2 ⟨rfl, hb2⟩
    have y0 := (hb2.cell (p := ⟨w.heap.size, 0, none⟩) hz1).trans x0
    have y1 := (hb2.cell (p := ⟨w.heap.size, 1, none⟩) hz1).trans x1
    have y2 := (hb2.cell (p := ⟨w.heap.size, 2, none⟩) hz1).trans x2
    have y3 := (hb2.cell (p := ⟨w.heap.size, 3, none⟩) hz1).trans x3
    have y4 := (hb2.cell (p := ⟨w.heap.size, 4, none⟩) hz1).trans x4
    have y5 := (hb2.cell (p := ⟨w.heap.size, 5, none⟩) hz1).trans x5
    have HB2 := Lib.hid (HB1.out.trans (hb2.mono HB1.out.size))
    have hz2 : w.heap.size < W2.heap.size := lt_of_cell y0
    clear hb2 x0 x1 x2 x3 x4 x5
    go_wp2_with fail
    refine (HR.out W2 HB2.out).mono ?_
    rintro e W3 ⟨o, rfl, hb3, hck⟩
    have z0 := (hb3.cell (p := ⟨w.heap.size, 0, none⟩) hz2).trans y0
    have z1 := (hb3.cell (p := ⟨w.heap.size, 1, none⟩) hz2).trans y1
    have z2 := (hb3.cell (p := ⟨w.heap.size, 2, none⟩) hz2).trans y2
    have z3 := (hb3.cell (p := ⟨w.heap.size, 3, none⟩) hz2).trans y3
    have z4 := (hb3.cell (p := ⟨w.heap.size, 4, none⟩) hz2).trans y4
    have z5 := (hb3.cell (p := ⟨w.heap.size, 5, none⟩) hz2).trans y5
    have hz3 : w.heap.size < W3.heap.size := lt_of_cell z0
    have H3 := Lib.hid (And.intro (HB2.out.trans (hb3.mono HB2.out.size)) hck)
    clear hb3 hck y0 y1 y2 y3 y4 y5
    go_wp2_with fail
    refine (H3.out.2 W3 (Below.refl _ _)).mono ?_
    rintro e W4 ⟨hb4, hans⟩
    have p0 := (hb4.cell (p := ⟨w.heap.size, 0, none⟩) hz3).trans z0
    have p1 := (hb4.cell (p := ⟨w.heap.size, 1, none⟩) hz3).trans z1
    have p2 := (hb4.cell (p := ⟨w.heap.size, 2, none⟩) hz3).trans z2
    have p3 := (hb4.cell (p := ⟨w.heap.size, 3, none⟩) hz3).trans z3
    have p4 := (hb4.cell (p := ⟨w.heap.size, 4, none⟩) hz3).trans z4
    have p5 := (hb4.cell (p := ⟨w.heap.size, 5, none⟩) hz3).trans z5
    have hz4 : w.heap.size < W4.heap.size := lt_of_cell p0
    have H4 := Lib.hid (H3.out.1.trans (hb4.mono H3.out.1.size))
    clear hb4 z0 z1 z2 z3 z4 z5
    rcases hans with ⟨hr, rfl⟩ | ⟨T, y, hr, rfl, htell⟩
    · subst hr
      have HT1 := Lib.hid (fun W hW => HT.out W hW rfl)
      obtain ⟨D, hD⟩ : ∃ D : ByteArray, (⟨(canT v).toArray⟩ : ByteArray) = D := ⟨_, rfl⟩
      simp only [hD] at HT1
      simp only [hD]
      clear HT hgd hD
      go_wp2_with fail
      refine (HC.out W4 H4.out).mono ?_
      rintro e W5 ⟨rfl, hb5⟩
      have q0 := (hb5.cell (p := ⟨w.heap.size, 0, none⟩) hz4).trans p0
      have q1 := (hb5.cell (p := ⟨w.heap.size, 1, none⟩) hz4).trans p1
      have q2 := (hb5.cell (p := ⟨w.heap.size, 2, none⟩) hz4).trans p2
      have q3 := (hb5.cell (p := ⟨w.heap.size, 3, none⟩) hz4).trans p3
      have q4 := (hb5.cell (p := ⟨w.heap.size, 4, none⟩) hz4).trans p4
      have q5 := (hb5.cell (p := ⟨w.heap.size, 5, none⟩) hz4).trans p5
      have hz5 : w.heap.size < W5.heap.size := lt_of_cell q0
      have H5 := Lib.hid (H4.out.trans (hb5.mono H4.out.size))
      clear hb5 p0 p1 p2 p3 p4 p5
      simp only [refCode, refPath]
      go_wp2_with fail
      refine (HT1.out _ (H5.out.alloc (Nat.le_of_lt hz5) _)).mono ?_
      rintro e W6 ⟨rfl, hb6⟩
      have H6 := Lib.hid ((H5.out.alloc (Nat.le_of_lt hz5) _).trans (hb6.mono (by simp; omega)))
      clear hb6
      go_wp2_with fail
      go_ret
      exact ⟨by simp, H6.out⟩
    · have hcd : refCode R ≠ 0 := by
        cases R with
        | none => exact absurd rfl hr
        | some pc => exact (hgd pc.1 pc.2 rfl).1
      have HTl := Lib.hid htell
      unfold TellAns at HTl
      obtain ⟨rc, hrc⟩ : ∃ rc, refCode R = rc := ⟨_, rfl⟩
      obtain ⟨rp, hrp⟩ : ∃ rp, refPath R = rp := ⟨_, rfl⟩
      unfold RefAns at HC
      simp only [hrc, hrp] at HC HTl
      rw [hrc] at hcd
      have e1 : (rc == 0) = false := beq_eq_false_iff_ne.2 hcd
      clear htell hr hgd hrc hrp HT hcd
      go_wp2_with fail
      refine (HC.out W4 H4.out).mono ?_
      rintro e W5 ⟨rfl, hb5⟩
      have hz5 : w.heap.size < W5.heap.size := Nat.lt_of_lt_of_le hz4 hb5.size
      have hz45 : W4.heap.size ≤ W5.heap.size := hb5.size
      have H5 := Lib.hid (And.intro hb5 (H4.out.trans (hb5.mono H4.out.size)))
      clear hb5 p0 p1 p2 p3 p4 p5
      go_wp2_with fail
      obtain ⟨W6, hW6⟩ : ∃ W6, W5.alloc (.cells #[.int .i64 rc, .int .i64 (-1), .string rp] 39) = W6 := ⟨_, rfl⟩
      rw [hW6]
      have hb6 : Below W5.heap.size W5 W6 := hW6 ▸ (Below.refl _ _).alloc (Nat.le_refl _) _
      have hm6 : Whole W6 W5.heap.size 39 #[.int .i64 rc, .int .i64 (-1), .string rp] := hW6 ▸ Whole.made _ _ _
      have hz6 : W5.heap.size < W6.heap.size := hm6.lt
      have c0 : W6.cell? ⟨W5.heap.size, 0, none⟩ = some (.int .i64 rc) := hm6.cell 0
      have c1 : W6.cell? ⟨W5.heap.size, 1, none⟩ = some (.int .i64 (-1)) := hm6.cell 1
      have c2 : W6.cell? ⟨W5.heap.size, 2, none⟩ = some (.string rp) := hm6.cell 2
      have H6 := Lib.hid (And.intro (H5.out.1.trans (hb6.mono hz45)) (H5.out.2.trans (hb6.mono (Nat.le_of_lt hz5))))
      clear hW6 hb6 hm6
      go_region_held3 (fun w' => w'.cell? ⟨W5.heap.size, 0, none⟩ = some (.int .i64 rc) ∧ w'.cell? ⟨W5.heap.size, 1, none⟩ = some (.int .i64 (-1)) ∧ w'.cell? ⟨W5.heap.size, 2, none⟩ = some (.string rp))
        (first | (with_reducible exact ⟨a0, a1, a2⟩) | (with_reducible exact ⟨c0, c1, c2⟩) | (go_keep; done))
        (first
          | (go_at_call 9; go_must (refine (HTl.out _ ?_).mono ?_); (first | with_reducible exact H6.out.1 | with_reducible exact H6.out.1.drew); rintro e W7 ⟨rfl, hb7⟩
             have k7 : Below W6.heap.size W6 W7 := by first | exact hb7 | exact ((Below.refl W6.heap.size W6).drew).trans hb7
             have a0 := (k7.cell (p := ⟨W5.heap.size, 0, none⟩) hz6).trans c0
             have a1 := (k7.cell (p := ⟨W5.heap.size, 1, none⟩) hz6).trans c1
             have a2 := (k7.cell (p := ⟨W5.heap.size, 2, none⟩) hz6).trans c2
             have H7 := Lib.hid (H6.out.2.trans (k7.mono H6.out.2.size))
             clear hb7 k7))
      go_wp2_with fail
      go_ret
      exact ⟨by simp, H7.out⟩
  · have hdec : decide (wgt v ≤ 300) = false := decide_eq_false h300
    rw [hdec] at HF
    clear hdec h300
    go_enter Tryz.func3, Tryz.ntmps3
    go_wp2_with fail
    rw [H0.out.2.2]
    refine (HAw.out W0 H0.out.1).mono ?_
    rintro e W1 ⟨rfl, hb1⟩
    obtain ⟨x0, x1, x2, x3, x4, x5⟩ := (H0.out.2.1.below hb1 hz0).six
    have HB1 := Lib.hid (H0.out.1.trans (hb1.mono H0.out.1.size))
    have hz1 : w.heap.size < W1.heap.size := lt_of_cell x0
    clear hb1
    go_wp2_with fail
    refine (HF.out W1 HB1.out).mono ?_
    rintro e W2 ⟨rfl, hb2⟩
    have HB2 := Lib.hid (HB1.out.trans (hb2.mono HB1.out.size))
    clear hb2 x0 x1 x2 x3 x4 x5
    go_wp2_with fail
    refine (HAw.out W2 HB2.out).mono ?_
    rintro e W3 ⟨rfl, hb3⟩
    have HB3 := Lib.hid (HB2.out.trans (hb3.mono HB2.out.size))
    clear hb3
    go_wp2_with fail
    go_ret
    exact ⟨rfl, HB3.out⟩
end Go.Proofs.YtleaaipkgjjlfaaGreatDoor

namespace Go.Proofs.YtleaaipkgjjlfaaGreatDoor
open Go.ChangeShapes Go.WideShapes Go.ChangeAt Go.RowKit Go.Lib Go.Shelf
set_option linter.unusedVariables false
set_option linter.unusedSimpArgs false

theorem own : ownKnob Tryz.prog.godebug = none := by kernel_rfl
theorem et : Tryz.prog.globalNamed "errors.errorType" = some 0 := by kernel_rfl
theorem rt : (Tryz.prog.cutTypes.find? (·.1 == "internal/reflectlite.rtype")).map (·.2) = some 116 := by kernel_rfl
theorem nTypes : Tryz.prog.types.size = 202 := by kernel_rfl
theorem oneRow : ((List.range 202).filter fun t => Tryz.prog.rowNamed t [101, 114, 114, 111, 114]) = [29] := by kernel_rfl
theorem errHandle : typeHandle Tryz.prog 29 = .pointer (some ⟨7, 29, none⟩) := by kernel_rfl
theorem pow_eq : Rows.laid_internal_strconv_uint64pow10 = tabData (H := Unit) .u64 Lib.pow10Tab := by kernel_rfl
set_option maxRecDepth 100000 in
theorem first_eq : Rows.laid_unicode_utf8_first = firstData := by kernel_rfl
theorem acc_eq : Rows.laid_unicode_utf8_acceptRanges = acceptData := by kernel_rfl

/-- The variables that every row of this seat lists. -/
def laidAll : List (String × DataW Unit) := [("math/bits.deBruijn32tab", Rows.laid_math_bits_deBruijn32tab), ("math/bits.deBruijn64tab", Rows.laid_math_bits_deBruijn64tab), ("internal/strconv.uint64pow10", Rows.laid_internal_strconv_uint64pow10), ("unicode/utf8.acceptRanges", Rows.laid_unicode_utf8_acceptRanges), ("errors.errorType", Rows.laid_errors_errorType), ("unicode/utf8.first", Rows.laid_unicode_utf8_first)]

theorem glob_of_laid {W : World} (h : laidMetH Tryz.prog laidAll W) : Glob W := by
  have h' : laidMet Tryz.prog [("math/bits.deBruijn32tab", Rows.laid_math_bits_deBruijn32tab), ("math/bits.deBruijn64tab", Rows.laid_math_bits_deBruijn64tab), ("internal/strconv.uint64pow10", Rows.laid_internal_strconv_uint64pow10), ("unicode/utf8.acceptRanges", Rows.laid_unicode_utf8_acceptRanges), ("unicode/utf8.first", Rows.laid_unicode_utf8_first)] W ∧ handlesMet Tryz.prog [("errors.errorType", Rows.laid_errors_errorType)] W := h
  refine ⟨?_, ?_, ?_⟩
  · obtain ⟨name, u, ty, e1, e2, e3, e4, e5⟩ := h'.2 _ (List.mem_singleton.2 rfl)
    have en : name = [101, 114, 114, 111, 114] := (Option.some.inj e1).symm
    subst en
    obtain rfl := Option.some.inj (rt.symm.trans e2)
    have hm : ty ∈ (List.range 202).filter fun t => Tryz.prog.rowNamed t [101, 114, 114, 111, 114] := List.mem_filter.2 ⟨List.mem_range.2 (by rw [← nTypes]; exact e3), e4⟩
    rw [oneRow] at hm
    obtain rfl := List.mem_singleton.1 hm
    rw [errHandle] at e5
    unfold ErrVar
    simpa using World.var?_cell et e5 0
  · have h1 := Lib.laidMet.reads h'.1 (n := "unicode/utf8.first") (d := Rows.laid_unicode_utf8_first) (.tail _ (.tail _ (.tail _ (.tail _ (.head _)))))
    have h2 := Lib.laidMet.reads h'.1 (n := "unicode/utf8.acceptRanges") (d := Rows.laid_unicode_utf8_acceptRanges) (.tail _ (.tail _ (.tail _ (.head _))))
    rw [first_eq] at h1
    rw [acc_eq] at h2
    exact utf8Tabs_of_readsT (U8Types.of196 Tryz.laysValid) ⟨by kernel_rfl, by kernel_rfl, by kernel_rfl, by kernel_rfl, by kernel_rfl, by kernel_rfl, by kernel_rfl⟩ h1 h2
  · obtain ⟨g, t, cs, fuel, p, hg, hty, hvar, hd⟩ := Lib.laidMet.reads h'.1 (n := "internal/strconv.uint64pow10") (d := Rows.laid_internal_strconv_uint64pow10) (.tail _ (.tail _ (.head _)))
    rw [pow_eq] at hd
    obtain rfl := Option.some.inj ((show Tryz.prog.globalNamed "internal/strconv.uint64pow10" = some 4 by kernel_rfl).symm.trans hg)
    obtain rfl := Option.some.inj ((show (Tryz.prog.globals[4]?).map (·.type) = some 170 by kernel_rfl).symm.trans hty)
    unfold TabIs
    rw [hvar, ← cells_of_tab Tryz.underlying170 Tryz.underlying78 (by kernel_rfl) (by kernel_rfl) hd]

/-- The numbers that a table's data tells. -/
def litNums : DataW Unit → List Int
  | .agg l => l.filterMap fun | .lit (.int _ z) => some z | _ => none
  | _ => []
def debTab : List Int := litNums Rows.laid_math_bits_deBruijn64tab
set_option maxRecDepth 100000 in
theorem deb_eq : Rows.laid_math_bits_deBruijn64tab = tabData (H := Unit) .u8 debTab := by kernel_rfl
theorem deb_15 : debTab.getD 15 0 = 4 := by kernel_rfl
theorem deb_named : Tryz.prog.globalNamed "math/bits.deBruijn64tab" = some 6 := by kernel_rfl
theorem tabs_of_laid {W : World} (h : laidMetH Tryz.prog laidAll W) : Tabs W := by
  refine ⟨?_, (glob_of_laid h).2.2⟩
  have h' : laidMet Tryz.prog [("math/bits.deBruijn32tab", Rows.laid_math_bits_deBruijn32tab), ("math/bits.deBruijn64tab", Rows.laid_math_bits_deBruijn64tab), ("internal/strconv.uint64pow10", Rows.laid_internal_strconv_uint64pow10), ("unicode/utf8.acceptRanges", Rows.laid_unicode_utf8_acceptRanges), ("unicode/utf8.first", Rows.laid_unicode_utf8_first)] W ∧ handlesMet Tryz.prog [("errors.errorType", Rows.laid_errors_errorType)] W := h
  obtain ⟨g, t, cs, fuel, p, hg, hty, hvar, hd⟩ := Lib.laidMet.reads h'.1 (n := "math/bits.deBruijn64tab") (d := Rows.laid_math_bits_deBruijn64tab) (.tail _ (.head _))
  rw [deb_eq] at hd
  obtain rfl := Option.some.inj (deb_named.symm.trans hg)
  obtain rfl := Option.some.inj ((show (Tryz.prog.globals[6]?).map (·.type) = some 175 by kernel_rfl).symm.trans hty)
  have htab : Lib.TabIs Tryz.prog W "math/bits.deBruijn64tab" .u8 debTab := by
    unfold TabIs
    rw [hvar, ← cells_of_tab Tryz.underlying175 Tryz.underlying5 (by kernel_rfl) (by kernel_rfl) hd]
  have hc := htab.cell deb_named 15 (by decide)
  unfold Deb
  rw [hc]
  rw [deb_15]
theorem tabs_many {W : World} (h : Tabs W) : 7 ≤ W.heap.size := lt_of_cell h.1

/-- The cells that a table's data tells. -/
def litCells : DataW Unit → List Value
  | .agg l => l.filterMap fun | .lit (.int k z) => some (.int k z) | _ => none
  | _ => []
/-- A world for the witness: the settled one, the listed variables holding what their initialisers lay. -/
noncomputable def laidWorld (os : Os) : World :=
  let w0 := World.holding Tryz.prog os ⟨#[], #[], []⟩
  let put (h : Array Obj) (g : Nat) (cs : Array Value) : Array Obj := h.modify g fun
    | .cells _ t frozen => .cells cs t frozen
    | o => o
  let h1 := put w0.heap 2 (Lib.firstTab.map fun z => Value.int .u8 z).toArray
  let h2 := put h1 3 ((List.range 16).flatMap fun i => [Value.int .u8 (Lib.accLo i), Value.int .u8 (Lib.accHi i)]).toArray
  let h3 := put h2 4 (litCells Rows.laid_internal_strconv_uint64pow10).toArray
  let h4 := put h3 5 (litCells Rows.laid_math_bits_deBruijn32tab).toArray
  let h5 := put h4 6 (litCells Rows.laid_math_bits_deBruijn64tab).toArray
  let h6 := put h5 0 #[.iface 116 (.agg #[.pointer (some ⟨7, 29, none⟩)])]
  { w0 with heap := h6 }
set_option maxRecDepth 100000 in
theorem laid_met (os : Os) (args : Array Value) : laidMetH Tryz.prog laidAll ((laidWorld os).forCall (fun _ _ => 0) ⟨#[], args, []⟩).memory :=
  laidMetH_of_parts (laidMet_of_run' 8 (by kernel_rfl) (by kernel_rfl)) (by kernel_rfl)
end Go.Proofs.YtleaaipkgjjlfaaGreatDoor

namespace Go.Proofs.YtleaaipkgjjlfaaGreatDoor.canonTexts
open Go.ChangeShapes Go.WideShapes Go.ChangeAt Go.RowKit Go.Lib
set_option linter.unusedVariables false
set_option linter.unusedSimpArgs false

theorem laidOut : laidOutB Tryz.prog = true := by kernel_rfl

set_option maxRecDepth 100000 in
/-- What the walk gives, for every argument of that bulk and every world that holds the variables. -/
theorem contract (H : Type) (enc : TypeId × Value → H) (W : World) (base : Nat) (args : Array Value) (ds gs : List (DataW H)) (before : List MemPlace)
    (hval : ∀ (j : Nat) t v, Tryz.f3.params[j]? = some t → args[j]? = some v → Value.okWide Tryz.prog W .any base t v)
    (hW : DataW.Whole enc Tryz.prog Tryz.f3.params.toList Rows.canonTextsSpec.vars false W args.toList ds gs before) (hL : laidMetH Tryz.prog Rows.canonTextsRow.laid W) (hk : Rows.uptoBulkAll (ds ++ gs) ≤ 1048576) :
    Calls Tryz.prog 3 args W fun e W' => ∃ v, e = .returned v ∧ Rows.canonTextsSpec.post enc Tryz.prog Tryz.f3 false true false false W args v W' := by
  have hG : Glob W := glob_of_laid hL
  have hW' := hW
  obtain ⟨p, q, hA0, hV, rfl, hfz, hnd⟩ := hW
  have hA : DataW.TrodAll enc Tryz.prog W 0 (fun _ => true) true Tryz.f3.params.toList args.toList ds p := hA0
  rw [Tryz.params3] at hA hval
  obtain ⟨v0, d0, rfl, rfl, h0⟩ := trodAll_one hA
  obtain ⟨rfl, rfl⟩ := trodVars_none hV
  obtain ⟨cs, rfl, hcs⟩ := okWide_struct Tryz.underlying25 (hval 0 25 v0 rfl rfl)
  have h0k := h0
  obtain ⟨fuel, hf⟩ := h0
  clear hA0
  simp only [List.append_nil] at hW' hk
  have hk1 : Rows.uptoBulk d0 ≤ 1048576 := by simpa [Rows.uptoBulkAll] using hk
  obtain ⟨v, c, hc, hv, hw⟩ := open_V (M := 1048576) 1048576 fuel _ _ hf hk1 (Nat.le_refl _)
  obtain rfl : cs = c.arr := by
    have h1 : cs.toList = c.arr.toList := hc
    exact Array.toList_inj.1 h1
  have hlt : ∀ x ∈ p, x.block < W.heap.size := fun x hx => by simpa using hW'.lt x hx
  have e1 : Rows.canonTextsSpec.fn H ([d0] ++ []) = { results := [.lit (.bool true)], args := [d0] } := rfl
  have fin : ∀ (W' : World), Below W.heap.size W W' → Rows.canonTextsSpec.post enc Tryz.prog Tryz.f3 false true false false W #[.agg c.arr] (.bool true) W' := by
    intro W' hnx
    refine ⟨_, _, _, [], p, [], hW', ?_, ?_, by rw [e1]; rfl, hnx.frame _, fun h => by cases h⟩
    · rw [e1]; exact trodAll_mk1 (shut_bool Tryz.underlying4 true)
    · rw [e1]; exact trodAll_mk1 (Below.trod laidOut (by kernel_rfl) (of_decide_eq_true (by kernel_rfl)) h0k hnx hlt)
  refine (lawTx_any v c W.heap.size 1048576 W (by omega) (by have : Rows.uptoBulk (d0, p).1 = Rows.uptoBulk d0 := rfl; omega) hv (Nat.le_refl _) hG (tabs_of_laid hL) (tabs_many (tabs_of_laid hL))).mono fun e W' ⟨he, hb⟩ => ?_
  subst he
  exact ⟨_, rfl, fin W' hb⟩

theorem reads (os : Os) {H : Type} (enc : TypeId × Value → H) : ∃ places, DataW.whole enc Tryz.prog ((laidWorld os).forCall (fun _ _ => 0) ⟨#[], #[.agg zero6], []⟩).memory Tryz.f3.params.toList Rows.canonTextsSpec.vars false #[Value.agg zero6].toList 8 = some ([.agg [.lit (.int .i64 0), .lit (.bool false), .lit (.int .i64 0), .lit (.string []), .nil, .nil]], [], places) :=
  ⟨[], by kernel_rfl⟩

set_option maxRecDepth 100000 in
theorem lifted (os : Os) (started : os.Started) (H : Type) (enc : TypeId × Value → H) (F : Stop.Interp) :
    ReturnsInHanded {} Tryz.checked os 3 .any ((Rows.OpenSpec.upto Rows.canonTextsSpec).preRow enc Tryz.prog Tryz.f3 Rows.canonTextsUptoRow.domain false Rows.canonTextsUptoRow.laid) (((Rows.OpenSpec.upto Rows.canonTextsSpec).at F).post enc Tryz.prog Tryz.f3 false true false false) := by
  obtain ⟨places, hx⟩ := reads os enc
  refine returnsInHanded_of_row (C := Tryz.checked) (s := Rows.OpenSpec.upto Rows.canonTextsSpec) own started (by kernel_rfl) Tryz.func3
    (witness_row_at (enc := enc) (C := Tryz.checked) false (laidWorld os) #[.agg zero6] rfl (by kernel_rfl) (by kernel_rfl) (by kernel_rfl)
      (OpenSpec.preRow_of_cond 8 hx (by kernel_rfl) (fun k hk => by cases hk; kernel_rfl) (by kernel_rfl) (laid_met os _))) ?_
  intro W base args ds gs before hval hW _ hcond _ hL _ _
  refine contract H enc W base args ds gs before hval hW hL ?_
  have h := of_decide_eq_true (hcond _ rfl)
  exact h

theorem said : Rows.CanonTextsUptoSaid :=
  OpenClaim.holds_of_cond 3 Tryz.f3 rfl rfl rfl rfl rfl rfl rfl ⟨rfl, rfl, rfl, rfl, rfl⟩ rfl rfl rfl rfl rfl (by kernel_rfl) Tryz.func3 (by kernel_rfl)
    (of_decide_eq_true (by kernel_rfl)) (by unfold Func.isWrapper; first | (rw [if_pos (by decide +kernel)]; kernel_rfl) | (rw [if_neg (by decide +kernel)]; exact ⟨rfl, rfl⟩))
    (fun os started H enc _ F => by rw [OpenClaim.pre_eq_preRow]; exact lifted os started H enc F)

theorem plain (f : FuncId) (fn : Func) (hf : Tryz.pinned.checked.prog.funcNamed "enfilade/enfiladelaw03.CanonTexts" = some f) (hfn : Tryz.pinned.checked.prog.funcs[f]? = some fn) :
    true = Tryz.pinned.checked.prog.looks [] ∧ ∀ (j : Nat) t, fn.params[j]? = some t → Tryz.pinned.checked.prog.wantsStandIn t = false := by
  obtain rfl : f = 3 := Option.some.inj ((show Tryz.prog.funcNamed "enfilade/enfiladelaw03.CanonTexts" = some 3 by kernel_rfl).symm.trans hf) |>.symm
  obtain rfl : fn = Tryz.f3 := (Option.some.inj (Tryz.func3.symm.trans hfn)).symm
  refine ⟨by kernel_rfl, fun j t ht => ?_⟩
  rw [Tryz.params3] at ht
  obtain rfl : t = 25 := by simpa using Array.mem_of_getElem? ht
  exact (show Tryz.prog.wantsStandIn 25 = false by kernel_rfl)

theorem card : Rows.CanonTextsUptoCardSaid :=
  Claim7.holds_tied_plain_at .later [] _ _ _ _ said (fun _ h => by cases h) (by kernel_rfl) (fun _ h => by cases h) canonTextsUpto_row_tie rfl ⟨rfl, rfl⟩ (by kernel_rfl) rfl plain (by kernel_rfl)
end Go.Proofs.YtleaaipkgjjlfaaGreatDoor.canonTexts
namespace Go.Proofs.YtleaaipkgjjlfaaGreatDoor
theorem canonTexts_card : Rows.CanonTextsUptoCardSaid := canonTexts.card
end Go.Proofs.YtleaaipkgjjlfaaGreatDoor
