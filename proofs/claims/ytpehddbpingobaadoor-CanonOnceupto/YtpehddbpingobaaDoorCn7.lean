/-
  The program's canonical texts: put, Text and Quote, walked.
-/
import Derived.Test.YtpehddbpingobaaDoorCn6
namespace Go.Proofs.YtpehddbpingobaaDoor
open Go.RowKit Go.Lib
set_option linter.unusedVariables false
set_option linter.unusedSimpArgs false

theorem put_any : ∀ d, PutC d
  | 0 => fun v c B b x w hk hv hT hB h hx => by
    cases v with
    | mk k y n t l m =>
    obtain ⟨-, -, -, h4, h5⟩ := chkHead_none hk
    exact put_head 0 _ _ k y n t l m c B b x w hk hv hT hB h hx (fun e => absurd (h4 e) (by simp)) (fun e => absurd (h5 e) (by simp))
  | d + 1 => fun v c B b x w hk hv hT hB h hx => by
    cases v with
    | mk k y n t l m =>
    obtain ⟨-, -, -, h4, h5⟩ := chkHead_none hk
    refine put_head d _ _ k y n t l m c B b x w hk hv hT hB h hx (fun e A ca W hF hvl hca hl ht => ?_) (fun e A ca W hF hvm hca hl ht => ?_)
    · have hx' : x.length + (canL 0 l).length + 2 ≤ 400000000 := by
        rw [canT, if_neg (by omega), if_neg (by omega), if_neg (by omega), if_pos e, List.length_cons, List.length_append, List.length_singleton] at hx
        omega
      exact list_any d (put_any d) l A ca B b x W (chkL_none (h4 e)) (hvl.keep (fun p hp => hF.1.cell hp) (fun _ h => h)) hl hca (hT.below hF.1 (Nat.lt_of_lt_of_le (by decide) hB) (Nat.lt_of_lt_of_le (by decide) hB)) hB ht hx'
    · have hx' : x.length + (canM 0 m).length + 2 ≤ 400000000 := by
        rw [canT, if_neg (by omega), if_neg (by omega), if_neg (by omega), if_neg (by omega), if_pos e, List.length_cons, List.length_append, List.length_singleton] at hx
        omega
      exact members_any d (put_any d) m A ca B b x W (chkM_none (h5 e)) (hvm.keep (fun p hp => hF.1.cell hp) (fun _ h => h)) hl hca (hT.below hF.1 (Nat.lt_of_lt_of_le (by decide) hB) (Nat.lt_of_lt_of_le (by decide) hB)) hB ht hx'
theorem canT_ne (v : V) (d : Nat) (hk : chk d v = none) : canT v ≠ [] := by
  cases v with
  | mk k y n t l m =>
  have hh : ∃ fl fm, chkHead fl fm (.mk k y n t l m) = none := by
    cases d with
    | zero => exact ⟨_, _, hk⟩
    | succ d => exact ⟨_, _, hk⟩
  obtain ⟨fl, fm, hh⟩ := hh
  obtain ⟨hk0, -⟩ := chkHead_none hh
  rw [canT]
  rcases hk0 with rfl | rfl | rfl | rfl | rfl | rfl
  · rw [if_neg (by decide), if_neg (by decide), if_neg (by decide), if_neg (by decide), if_neg (by decide)]; simp
  · rw [if_pos rfl]; cases y <;> simp
  · rw [if_neg (by decide), if_pos rfl]
    intro h
    unfold Lib.itoa at h
    split at h
    · exact absurd h (by simp)
    · rw [decDigits] at h
      split at h <;> simp at h
  · rw [if_neg (by decide), if_neg (by decide), if_pos rfl, quoL]; simp
  · rw [if_neg (by decide), if_neg (by decide), if_neg (by decide), if_pos rfl]; simp
  · rw [if_neg (by decide), if_neg (by decide), if_neg (by decide), if_neg (by decide), if_pos rfl]; simp

/-- What the program's Text answers. -/
def TextAns (v : V) (w : World) (e : Ending) (w' : World) : Prop :=
  Below w.heap.size w w' ∧ ((chk 20 v = none ∧ e = .returned (.tuple #[.string ⟨(canT v).toArray⟩, .nilIface])) ∨
    ∃ p cd x, chk 20 v = some (p, cd) ∧ e = .returned (.tuple #[.string ⟨#[]⟩, x]) ∧ Chain w' (p.map fun s => ((-1 : Int), s)) cd x)
set_option maxHeartbeats 4000000 in
set_option maxRecDepth 100000 in
theorem text_any (v : V) (c : C6) (B : Nat) (w : World) (hv : Val w (· < B) 1000000 v c.arr) (hB : B ≤ w.heap.size) (hG : Glob w) (hT : Tabs w) (hN : 6 ≤ w.heap.size) (hlen : chk 20 v = none → (canT v).length ≤ 400000000) :
    Calls Tryd.prog 7 #[.agg c.arr] w (TextAns v w) := by
  obtain ⟨jk, jy, jn, jt, ja, jla, jca, jb, jlb, jcb⟩ := c
  obtain ⟨W0, hW0⟩ : ∃ W0, w.alloc (.cells #[.int .i64 jk, .bool jy, .int .i64 jn, .string jt, .slice ja jla jca, .slice jb jlb jcb] 39) = W0 := ⟨_, rfl⟩
  have hb0 : Below w.heap.size w W0 := hW0 ▸ (Below.refl _ _).alloc (Nat.le_refl _) _
  have hwh : Whole W0 w.heap.size 39 #[.int .i64 jk, .bool jy, .int .i64 jn, .string jt, .slice ja jla jca, .slice jb jlb jcb] := hW0 ▸ Whole.made _ _ _
  have hz0 : w.heap.size < W0.heap.size := hwh.lt
  have HC := Lib.hid (Check_any v _ B W0 (hv.keep (fun p hp => hb0.cell (Nat.lt_of_lt_of_le hp hB)) (fun _ h => h)) (Nat.le_trans hB hb0.size) (hG.below hb0))
  unfold Ans at HC
  have H0 := Lib.hid (And.intro hW0 (And.intro hb0 (And.intro hwh (And.intro hv (And.intro hT hlen)))))
  clear hW0 hb0 hwh hv hT hlen hG
  dsimp only [C6.arr] at *
  go_enter Tryd.func7, Tryd.ntmps7
  go_wp2_with fail
  rw [H0.out.1]
  refine HC.out.mono ?_
  rintro e W1 ⟨hb1, ⟨hr, rfl⟩ | ⟨p, cd, x, hr, rfl, hch⟩⟩
  · have hw1 := H0.out.2.2.1.below hb1 hz0
    obtain ⟨x0, x1, x2, x3, x4, x5⟩ := hw1.six
    have hbw1 : Below w.heap.size w W1 := H0.out.2.1.trans (hb1.mono H0.out.2.1.size)
    have hz1 : w.heap.size < W1.heap.size := Nat.lt_of_lt_of_le hz0 hb1.size
    have HX := Lib.hid (And.intro hr (And.intro hbw1 hw1))
    clear hr hb1 hbw1 hw1
    obtain ⟨W2, hW2⟩ : ∃ W2, W1.alloc (.cells #[.pointer none, .slice none 0 0] 58) = W2 := ⟨_, rfl⟩
    have hb2 : Below W1.heap.size W1 W2 := hW2 ▸ (Below.refl _ _).alloc (Nat.le_refl _) _
    have ht2 : Txt W1.heap.size W1.heap.size [] W2 := hW2 ▸ Txt.new W1
    have hv2 : Val W2 (· < W1.heap.size) 1000000 v #[.int .i64 jk, .bool jy, .int .i64 jn, .string jt, .slice ja jla jca, .slice jb jlb jcb] := by
      refine H0.out.2.2.2.1.keep (fun p hp => ?_) (fun b hb => ?_)
      · have hp' : p.block < w.heap.size := Nat.lt_of_lt_of_le hp hB
        exact (hb2.cell (by omega)).trans (HX.out.2.1.cell hp')
      · have hb' : b < w.heap.size := Nat.lt_of_lt_of_le hb hB
        show b < W1.heap.size
        omega
    have HP := Lib.hid (put_any 20 v (C6.mk jk jy jn jt ja jla jca jb jlb jcb) W1.heap.size W1.heap.size [] W2 HX.out.1
      hv2
      ((H0.out.2.2.2.2.1.below HX.out.2.1 (Nat.lt_of_lt_of_le (by decide) hN) (Nat.lt_of_lt_of_le (by decide) hN)).below hb2 (Nat.lt_of_lt_of_le (by decide) (Nat.le_trans hN (Nat.le_of_lt hz1))) (Nat.lt_of_lt_of_le (by decide) (Nat.le_trans hN (Nat.le_of_lt hz1))))
      (Nat.le_trans hN (Nat.le_of_lt hz1)) ht2 (by simpa using H0.out.2.2.2.2.2 HX.out.1))
    unfold Laid at HP
    rw [List.nil_append] at HP
    have HS := Lib.hid (fun W (ht : Txt W1.heap.size W1.heap.size (canT v) W) => string_any W1.heap.size W1.heap.size (canT v) W ht (canT_ne v 20 HX.out.1))
    have HY := Lib.hid (And.intro hW2 hb2)
    clear hW2 hb2 ht2 hv2
    dsimp only [C6.arr] at HP
    go_wp2_with fail
    rw [HY.out.1]
    refine HP.out.mono ?_
    rintro e W3 ⟨rfl, ht3, hf3⟩
    have HT3 := Lib.hid (And.intro ht3 hf3.1)
    clear ht3 hf3 x0 x1 x2 x3 x4 x5
    go_wp2_with fail
    refine (HS.out W3 HT3.out.1).mono ?_
    rintro e W4 ⟨rfl, hb4⟩
    have HB4 := Lib.hid hb4
    clear hb4
    go_wp2_with fail
    refine bodyPost_ret (v := .tuple #[.string ⟨(canT v).toArray⟩, .nilIface]) (by simp [results, Tryd.results7, go_sem]) rfl ?_
    refine ⟨?_, .inl ⟨HX.out.1, rfl⟩⟩
    have h14 : Below W1.heap.size W1 W4 := HY.out.2.trans (HT3.out.2.trans HB4.out)
    exact HX.out.2.1.trans (h14.mono (Nat.le_of_lt hz1))
  · obtain ⟨T, y, rfl⟩ := hch.held
    have HX := Lib.hid (And.intro hr (And.intro (H0.out.2.1.trans (hb1.mono H0.out.2.1.size)) hch))
    clear hr hb1 hch
    go_wp2_with fail
    refine bodyPost_ret (v := .tuple #[.string ⟨#[]⟩, .iface T y]) (by simp [results, Tryd.results7, go_sem]) rfl ?_
    exact ⟨HX.out.2.1, .inr ⟨p, cd, _, HX.out.1, rfl, HX.out.2.2⟩⟩
set_option maxHeartbeats 2000000 in
set_option maxRecDepth 100000 in
theorem quoteT_any (s : ByteArray) (w : World) (hT : Tabs w) (hN : 6 ≤ w.heap.size) (hs : s.size ≤ 1000000) :
    Calls Tryd.prog 13 #[.string s] w fun e w' => e = .returned (.string ⟨(quoL s.data.toList).toArray⟩) ∧ Below w.heap.size w w' := by
  obtain ⟨W2, hW2⟩ : ∃ W2, w.alloc (.cells #[.pointer none, .slice none 0 0] 58) = W2 := ⟨_, rfl⟩
  have hb2 : Below w.heap.size w W2 := hW2 ▸ (Below.refl _ _).alloc (Nat.le_refl _) _
  have ht2 : Txt w.heap.size w.heap.size [] W2 := hW2 ▸ Txt.new w
  have HP := Lib.hid (quote_any w.heap.size w.heap.size [] s W2 (hT.1.below hb2 (Nat.lt_of_lt_of_le (by decide) hN)) (Nat.lt_of_lt_of_le (by decide) hN) ht2 (by simp) (by omega))
  unfold Laid at HP
  rw [List.nil_append] at HP
  have HS := Lib.hid (fun W (ht : Txt w.heap.size w.heap.size (quoL s.data.toList) W) => string_any w.heap.size w.heap.size (quoL s.data.toList) W ht (by simp [quoL]))
  obtain ⟨Q, hQ⟩ : ∃ Q, quoL s.data.toList = Q := ⟨_, rfl⟩
  rw [hQ] at HP HS ⊢
  have HY := Lib.hid (And.intro hW2 hb2)
  clear hW2 hb2 ht2 hQ hT
  go_enter Tryd.func13, Tryd.ntmps13
  go_wp2_with fail
  rw [HY.out.1]
  refine HP.out.mono ?_
  rintro e W3 ⟨rfl, ht3, hf3⟩
  have HT3 := Lib.hid (And.intro ht3 hf3.1)
  clear ht3 hf3
  go_wp2_with fail
  refine (HS.out W3 HT3.out.1).mono ?_
  rintro e W4 ⟨rfl, hb4⟩
  have HB4 := Lib.hid hb4
  clear hb4
  go_wp2_with fail
  go_ret
  exact ⟨rfl, HY.out.2.trans (HT3.out.2.trans HB4.out)⟩
end Go.Proofs.YtpehddbpingobaaDoor
