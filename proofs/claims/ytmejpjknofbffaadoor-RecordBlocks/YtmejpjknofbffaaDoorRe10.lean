/-
  The pieces of bytes, by the program.
-/
import Derived.Test.YtmejpjknofbffaaDoorRe9
namespace Go.Proofs.YtmejpjknofbffaaDoor
open Go.RowKit Go.Lib
set_option linter.unusedVariables false
set_option linter.unusedSimpArgs false

theorem size_pc6 : (Tryd.prog.info? 33).map (fun i => (i.zero, i.size, i.bytes)) = some (some (.agg (pcs zeroPc none 0).toArray), 6, 64) := by kernel_rfl
/-- The window of a piece. -/
theorem win_piece (A : Option Addr) (c : Nat) (x : List UInt8) (i : Nat) (hi : i < partsN x.length) (hl : x.length ≤ c) (hA : ∀ ad, A = some ad → ∃ g q, ad = ⟨g, q, none⟩) (hn : A = none → x.length = 0 ∧ c = 0) (h84 : x.length ≤ 8400) :
    ∃ A1 c1, (∀ W, Sem.run Tryd.prog (Instr.slice 28 (.slice A x.length c) (some (.int .i64 ((i : Int) * 42))) (some (.int .i64 (min (((i : Int) + 1) * 42) (x.length : Int)))) none) W = .ok (.slice A1 (cutL x (i * 42) (min ((i + 1) * 42) x.length)).length c1) W) ∧ (A1 = none → (cutL x (i * 42) (min ((i + 1) * 42) x.length)).length = 0 ∧ c1 = 0) ∧ ∀ W, Bt W A x → Bt W A1 (cutL x (i * 42) (min ((i + 1) * 42) x.length)) := by
  have hm : (min (((i : Int) + 1) * 42) (x.length : Int)) = ((min ((i + 1) * 42) x.length : Nat) : Int) := by omega
  have hk : ((i : Int) * 42) = ((i * 42 : Nat) : Int) := by omega
  rw [hm, hk]
  have hlen := cutL_len x (l := i * 42) (h := min ((i + 1) * 42) x.length) (Nat.min_le_right _ _)
  rw [hlen]
  unfold partsN at hi
  rcases Nat.eq_zero_or_pos x.length with h0 | h0
  · have hi0 : i = 0 := by omega
    subst hi0
    have hx : x = [] := List.eq_nil_of_length_eq_zero h0
    subst hx
    refine ⟨A, c, fun W => ?_, fun e => ⟨by simp, (hn e).2⟩, fun W hB h => absurd h (by simp [cutL])⟩
    have hu : Tryd.prog.underlying 28 = some (.slice (Tryd.prog.elem 28)) := by kernel_rfl
    have he : Tryd.prog.elem 28 = 5 := by kernel_rfl
    have hsz : ∀ W, (Go.sizeOf 5).run Tryd.prog W = .ok 1 W := fun W => by kernel_rfl
    simp only [List.length_nil, Nat.zero_mul, Nat.min_zero, Nat.sub_self]
    rw [run_slice_lh W 28 A 0 c hu .i64 .i64 _ _ (by omega) (by omega) (by omega), he, hsz]
    simp [Result.andThen, sliced]
    cases A with
    | none => simp
    | some ad =>
      obtain ⟨g, q, rfl⟩ := hA ad rfl
      simp [Addr.add_mid]
  · cases A with
    | none => exact absurd (hn rfl).1 (by omega)
    | some ad =>
      obtain ⟨g, q, rfl⟩ := hA ad rfl
      exact ⟨some ⟨g, q + i * 42, none⟩, c - i * 42, fun W => run_win W g q x.length c (i * 42) _ .i64 .i64 (by omega) (by omega) (by omega), (fun e => by cases e), fun W hB => hB.cut _ _ (Nat.min_le_right _ _)⟩
theorem there_sub {w : World} {g n q k : Nat} (h : w.there g 0 n) (hq : q + k ≤ n) : w.there g q k := fun j hj => by
  have := h (q + j) (by omega)
  rwa [Nat.zero_add] at this
theorem there_keep {w w' : World} {g n : Nat} (h : w.there g 0 n) (hg : g < w.heap.size) (hb : Below w.heap.size w w') : w'.there g 0 n := fun j hj => by
  have := h j hj
  rw [hb.cell (p := ⟨g, 0 + j, none⟩) hg, hb.frozen (p := ⟨g, 0 + j, none⟩) hg]
  exact this
/-- The loop: the first pieces lie there. -/
def SpRel (w : World) (gl : Nat) (kd ep nu : Int) (x : List UInt8) (A : Option Addr) (kk : Nat) (i : Value) (wr : World) : Prop :=
  ∃ k : Nat, k + kk = partsN x.length ∧ i = .int .i64 k ∧ wr.there gl 0 (partsN x.length * 6) ∧ (∀ j, j < k → PAt wr gl (j * 6) (pieceN kd ep nu x j) (gl + 1)) ∧ Bt wr A x ∧ gl < wr.heap.size ∧ Below w.heap.size w wr
/-- What Split answers. -/
def SpAns (w : World) (kd ep nu : Int) (x : List UInt8) (e : Ending) (w' : World) : Prop :=
  if 8400 < x.length then e = .returned (.tuple #[.slice none 0 0, .iface 52 (.int .i64 2)]) ∧ Below w.heap.size w w'
  else if (pieceN kd ep nu x 0).bad ≠ 0 then ∃ ev, e = .returned (.tuple #[.slice none 0 0, ev]) ∧ Chain w' [(-1, fieldOf (pieceN kd ep nu x 0).bad)] 8 ev ∧ Below w.heap.size w w'
  else ∃ g, e = .returned (.tuple #[.slice (some ⟨g, 0, none⟩) (splitL kd ep nu x).length (splitL kd ep nu x).length, .nilIface]) ∧ w.heap.size ≤ g ∧ Ps w' (some ⟨g, 0, none⟩) (splitL kd ep nu x) (g + 1) ∧ Below w.heap.size w w'
set_option maxHeartbeats 4000000 in
set_option maxRecDepth 100000 in
theorem split_long (w : World) (kd ep nu : Int) (A : Option Addr) (c : Nat) (x : List UInt8) (h : 8400 < x.length) :
    Calls Tryd.prog 13 #[.int .i64 kd, .int .i64 ep, .int .i64 nu, .slice A x.length c] w (SpAns w kd ep nu x) := by
  have h1 : ∀ e w', SpAns w kd ep nu x e w' ↔ (e = .returned (.tuple #[.slice none 0 0, .iface 52 (.int .i64 2)]) ∧ Below w.heap.size w w') := fun e w' => by rw [SpAns, if_pos h]
  have H1 := Lib.hid h1
  obtain ⟨n, hn⟩ : ∃ n, x.length = n := ⟨_, rfl⟩
  rw [hn] at h ⊢
  have d1 : decide ((8400 : Int) < (n : Int)) = true := decide_eq_true (by omega)
  clear h1 hn
  go_enter Tryd.func13, Tryd.ntmps13
  go_wp2_with fail
  go_ret2
  exact (H1.out _ _).2 ⟨rfl, Below.refl _ _⟩
set_option maxHeartbeats 4000000 in
set_option maxRecDepth 100000 in
theorem rsplit_any (w : World) (kd ep nu : Int) (A : Option Addr) (c : Nat) (x : List UInt8) (hB : Bt w A x) (hl : x.length ≤ c) (hA : ∀ ad, A = some ad → ∃ g q, ad = ⟨g, q, none⟩) (hn : A = none → x.length = 0 ∧ c = 0)
    (hk : -9223372036854775808 ≤ kd ∧ kd ≤ 9223372036854775807) (he : -9223372036854775808 ≤ ep ∧ ep ≤ 9223372036854775807) (hu : -9223372036854775808 ≤ nu ∧ nu ≤ 9223372036854775807) :
    Calls Tryd.prog 13 #[.int .i64 kd, .int .i64 ep, .int .i64 nu, .slice A x.length c] w (SpAns w kd ep nu x) := by
  by_cases h84 : 8400 < x.length
  · exact split_long w kd ep nu A c x h84
  have h84' : x.length ≤ 8400 := by omega
  have HAns := Lib.hid (fun e w' => show SpAns w kd ep nu x e w' ↔ _ by rw [SpAns, if_neg h84])
  have HWin := Lib.hid (fun i hi => win_piece A c x i hi hl hA hn h84')
  have HN := Lib.hid (And.intro h84' (And.intro hk (And.intro he hu)))
  obtain ⟨n, hxn⟩ : ∃ n, x.length = n := ⟨_, rfl⟩
  obtain ⟨m, hm⟩ : ∃ m, partsN n = m := ⟨_, rfl⟩
  have hm1 : 1 ≤ m := by rw [← hm]; exact parts_pos n
  have hm2 : m ≤ 200 := by rw [← hm]; exact parts_le (by omega)
  have hq : max (1 : Int) (((n : Int) + 42 - 1) / 42) = (m : Int) := by rw [← hm]; unfold partsN; omega
  rw [hxn] at h84 h84' ⊢
  have d1 : decide ((8400 : Int) < (n : Int)) = false := decide_eq_false (by omega)
  have HX := Lib.hid (And.intro hxn hm)
  have HB := Lib.hid hB
  clear hB hl hA hn hk he hu hm
  go_enter Tryd.func13, Tryd.ntmps13
  go_wp2_with (first | ((with_reducible refine at_slot 26 ?_); go_must (refine wpList_makeH rfl 43 33 _ _ rfl (.agg (pcs zeroPc none 0).toArray) 6 64 m (by kernel_rfl) size_pc6 .i64 .i64 _ _ rfl rfl ?e1 ?e2 (by omega) (by omega) ?_; (case e1 => rfl); (case e2 => rfl); intro W1 HW1)))
  have hth : W1.there w.heap.size 0 (m * 6) := by rw [HW1.out]; exact new_there w _ _ _ (by rw [size_madeCells]; exact Nat.le_refl _)
  have HB1 := Lib.hid (show Below w.heap.size w W1 by rw [HW1.out]; exact new_below w _)
  have HL1 := Lib.hid (show w.heap.size < W1.heap.size by rw [HW1.out, new_size]; omega)
  have HT := Lib.hid hth
  clear hth HW1
  obtain ⟨gl, hgl⟩ : ∃ gl, w.heap.size = gl := ⟨_, rfl⟩
  have HGL := Lib.hid hgl
  rw [hgl] at HT HL1 ⊢
  clear hgl
  go_loopg [29] m (SpRel w gl kd ep nu x A)
  case atStart =>
    exact ⟨0, by have := HX.out.1; have := HX.out.2; rw [HX.out.1, HX.out.2]; omega, rfl, by rw [HX.out.1, HX.out.2]; exact HT.out, fun j hj => absurd hj (Nat.not_lt_zero _), HB.out.keep HB1.out, HL1.out, HB1.out⟩
  case round =>
    obtain ⟨k, hk, rfl, hth, hps, hbt, hgl, hbl⟩ := hrel
    rw [HX.out.1, HX.out.2] at hk hth
    by_cases hlt : k < m
    · obtain ⟨A1, c1, hr1, hn1, hB1⟩ := HWin.out k (by rw [HX.out.1, HX.out.2]; exact hlt)
      have hcl := bclone_any wr A1 (cutL x (k * 42) (min ((k + 1) * 42) x.length)) c1 (hB1 wr hbt) (by rw [cutL_len x (Nat.min_le_right _ _)]; have := HN.out.1; omega) hn1
      rw [HX.out.1] at hr1 hcl
      have HCl := Lib.hid hcl
      have HP := Lib.hid (show pieceN kd ep nu x k = ⟨kd, ep, nu, k, m, cutL x (k * 42) (min ((k + 1) * 42) n)⟩ by rw [pieceN, HX.out.1, HX.out.2])
      have HR := Lib.hid (And.intro hk (And.intro hth (And.intro hps (And.intro hbt (And.intro hgl hbl)))))
      obtain ⟨X, hX⟩ : ∃ X, cutL x (k * 42) (min ((k + 1) * 42) n) = X := ⟨_, rfl⟩
      rw [hX] at hr1 HCl HP
      clear hk hth hps hbt hgl hbl hcl hn1 hB1 hX
      go_wp2_with (first
        | (go_at_call 23; go_must (refine HCl.out.mono ?_; rintro e W3 ⟨v3, rfl, hnb, hb3⟩; have HB3 := Lib.hid (And.intro hnb hb3); obtain ⟨A3, c3, rfl, hnb2⟩ := hnb; have HNB := Lib.hid hnb2; clear hnb2 hb3))
        | ((with_reducible refine at_store 33 ?_); go_must (refine wpList_storeH rfl 33 _ _ rfl gl (k * 6) (pcs ⟨kd, ep, nu, k, m, X⟩ A3 c3).toArray ?c1 rfl ?c2 size_pc (pcs_one _ _ _) ?_; (case c1 => first | rfl | (simp [Act.eval]; done)); (case c2 => exact there_sub (there_keep HR.out.2.1 HR.out.2.2.2.2.1 HB3.out.2) (by show k * 6 + 6 ≤ _; omega)); intro W4 HW4)))
      go_roundg (m - (k + 1))
      case rel =>
        obtain ⟨hk, hth, hps, hbt, hgl, hbl⟩ := HR.out
        obtain ⟨hnb0, hb3⟩ := HB3.out
        obtain ⟨n1, n2, n3, n4⟩ := HNB.out
        have hsz := hb3.size
        have hth3 := there_keep hth hgl hb3
        refine ⟨k + 1, by rw [HX.out.1, HX.out.2]; omega, by go_num, ?_, fun j hj => ?_, ?_, ?_, ?_⟩
        · rw [HX.out.1, HX.out.2, HW4.out]
          exact World.there_setCells hth3 _ _ _
        · rw [HW4.out]
          rcases Nat.lt_or_ge j k with hjk | hjk
          · exact ((hps j hjk).keep hb3).puts (Nat.lt_succ_self gl) (k * 6) _ (Or.inl (by omega))
          · obtain rfl : j = k := by omega
            rw [HP.out]
            exact pat_new (p := ⟨kd, ep, nu, j, m, X⟩) (there_sub hth3 (by omega)) (Nat.lt_succ_self gl) n1 n4 n2 (fun ad e => by
              obtain ⟨gb, e1, e2, e3⟩ := n3 ad e
              exact ⟨gb, 0, e1, by omega, e3⟩)
        · refine HB.out.keep ?_
          rw [HW4.out]
          exact below_setCells (hbl.trans (hb3.mono hbl.size)) (Nat.le_of_eq HGL.out) _ _
        · rw [HW4.out, size_setCells]
          omega
        · rw [HW4.out]
          exact below_setCells (hbl.trans (hb3.mono hbl.size)) (Nat.le_of_eq HGL.out) _ _
      case measure => have := HR.out.1; omega
    · obtain rfl : k = m := by omega
      obtain ⟨B0, c0, hc0, hb0, hn0, hl0, hg0⟩ := hps 0 hm1
      have y0 := hc0 0 _ rfl
      have y1 := hc0 1 _ rfl
      have y2 := hc0 2 _ rfl
      have y3 := hc0 3 _ rfl
      have y4 := hc0 4 _ rfl
      have y5 := hc0 5 _ rfl
      have hP0 : pieceN kd ep nu x 0 = ⟨kd, ep, nu, 0, (k : Int), cutL x 0 (min 42 n)⟩ := by rw [pieceN, HX.out.1, HX.out.2]; simp
      have hlen : (cutL x 0 (min 42 n)).length ≤ 42 := by rw [cutL_len x (by rw [hxn]; exact Nat.min_le_right _ _)]; omega
      have hCk := rcheck_any (pieceN kd ep nu x 0) B0 c0 wr (by
        rw [hP0]
        have := HN.out
        exact ⟨this.2.1, this.2.2.1, this.2.2.2, by simp only; omega, by simp only; omega, by simp only; omega⟩)
      rw [hP0] at y0 y1 y2 y3 y4 y5 hCk
      unfold Pc.pv at hCk
      simp only at y0 y1 y2 y3 y4 y5 hCk
      simp only [Nat.zero_mul, Nat.zero_add] at y0 y1 y2 y3 y4 y5
      have HCk := Lib.hid hCk
      have HP := Lib.hid hP0
      have HR := Lib.hid (And.intro hps (And.intro hgl hbl))
      clear hps hth hbt hgl hbl hb0 hn0 hl0 hg0 hc0 hP0 hCk hlen hk hxn
      go_wp2_with fail
      refine HCk.out.mono ?_
      rintro e W5 ⟨ev, rfl, hca, hb5⟩
      have HB5 := Lib.hid hb5
      clear hb5
      rcases hca with ⟨hz, rfl⟩ | ⟨hz, hch⟩
      · have HZ := Lib.hid hz
        clear hz
        go_wp2_with fail
        go_ret2
        refine (HAns.out _ _).2 ?_
        rw [if_neg (by rw [HP.out]; simp [HZ.out])]
        refine ⟨gl, ?_, Nat.le_of_eq HGL.out, fun h0 => ⟨gl, 0, rfl, fun i hi => ?_⟩, HR.out.2.2.trans (HB5.out.mono HR.out.2.2.size)⟩
        · rw [split_len, HX.out.1, HX.out.2]
          rfl
        · rw [split_at, Nat.zero_add]
          rw [split_len, HX.out.1, HX.out.2] at hi
          exact (HR.out.1 i hi).keep HB5.out
      · have HZ := Lib.hid hz
        have HC := Lib.hid hch
        obtain ⟨b, why, rfl, h1⟩ := hch
        clear h1 hz
        go_wp2_with fail
        go_ret2
        refine (HAns.out _ _).2 ?_
        rw [if_pos (by rw [HP.out]; exact HZ.out)]
        refine ⟨_, rfl, ?_, HR.out.2.2.trans (HB5.out.mono HR.out.2.2.size)⟩
        rw [HP.out]
        exact HC.out
end Go.Proofs.YtmejpjknofbffaaDoor
