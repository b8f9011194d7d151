/-
  The program's canonical texts: a map's, walked, as long as its members' are.
-/
import Derived.Test.YtpehddbpingobaaDoorCn4
namespace Go.Proofs.YtpehddbpingobaaDoor
open Go.RowKit Go.Lib
set_option linter.unusedVariables false
set_option linter.unusedSimpArgs false

def CMemRel (w : World) (B b : Nat) (x : List UInt8) (l : List (ByteArray × V)) (kk : Nat) (i : Value) (wr : World) : Prop :=
  ∃ j : Nat, j + kk = l.length ∧ i = .int .i64 j ∧ Txt B b (x ++ 123 :: canM 0 (l.take j)) wr ∧ Fr B b w wr
set_option maxHeartbeats 4000000 in
set_option maxRecDepth 100000 in
theorem members_any (d : Nat) (hP : PutC d) (l : List (ByteArray × V)) (A : Option Addr) (c B b : Nat) (x : List UInt8) (w : World) (hk : ∀ v ∈ l, chk d v.2 = none) (hv : ValM w (· < B) 1000000 l A 0) (hl : l.length ≤ 1000000) (hc : l.length ≤ c) (hT : Tabs w) (hB : 6 ≤ B) (h : Txt B b x w) (hx : x.length + (canM 0 l).length + 2 ≤ 400000000) :
    Calls Tryd.prog 36 #[.pointer (some ⟨b, 0, none⟩), .slice A l.length c] w (Laid B b x (123 :: (canM 0 l ++ [125])) w) := by
  have H1 := Lib.hid (writeByte_any B b x 123 w h (by omega))
  have hlt := h.lt
  have HV := Lib.hid (And.intro hv (And.intro hk (And.intro hP hT)))
  clear h hv hk hP hT
  go_enter Tryd.func36, Tryd.ntmps36
  go_wp2_with fail
  refine H1.out.mono ?_
  rintro e w1 ⟨rfl, ht1, hb1⟩
  have HT1 := Lib.hid (And.intro ht1 hb1)
  clear ht1 hb1
  go_wp2_with fail
  go_loopg [12] l.length (CMemRel w B b x l)
  case atStart => exact ⟨0, by simp, rfl, by simpa [canM] using HT1.out.1.txt, HT1.out.2⟩
  case round =>
    obtain ⟨j, hkk, rfl, ht, hb⟩ := hrel
    by_cases hlj : j < l.length
    · obtain ⟨g, off, cs, rfl, hgB, hsM, hkc, hc6, hx6⟩ := HV.out.1.get j hlj
      obtain ⟨cj, rfl⟩ := hx6.c6
      obtain ⟨ks, hks⟩ : ∃ ks, l[j].1 = ks := ⟨_, rfl⟩
      rw [hks] at hkc hsM
      have hck : wr.cell? ⟨g, off + j * 7, none⟩ = some (.string ks) := by
        rw [hb.1.cell (p := ⟨g, off + j * 7, none⟩) hgB]
        simpa using hkc
      have hcj : ∀ q, q < 6 → wr.cell? ⟨g, off + j * 7 + (1 + q), none⟩ = cj.arr[q]? := fun q hq => by
        rw [hb.1.cell (p := ⟨g, off + j * 7 + (1 + q), none⟩) hgB]
        simpa using hc6 q hq
      obtain ⟨xk, x0, x1, x2, x3, x4, x5⟩ := cells7 hck hcj rfl
      have hbr : b < wr.heap.size := ht.lt.2
      have hBr : B ≤ wr.heap.size := by have := ht.lt; omega
      have hpart := canM_take l j hlj
      rw [hks] at hpart
      have hlen2 : (x ++ 123 :: canM 0 (l.take j)).length + (commaL j).length + (quoL ks.data.toList).length + 1 + (canT l[j].2).length ≤ x.length + (canM 0 l).length + 1 := by
        have h1 := canM_part l 0 (j + 1)
        rw [hpart] at h1
        simp only [List.length_append, List.length_cons, List.length_nil] at h1 ⊢
        omega
      obtain ⟨Y, hY⟩ : ∃ Y, x ++ 123 :: canM 0 (l.take j) = Y := ⟨_, rfl⟩
      rw [hY] at ht hlen2
      obtain ⟨W0, hW0⟩ : ∃ W0, wr.alloc (.cells (mem7 ks cj).toArray 46) = W0 := ⟨_, rfl⟩
      have hb0 : Below wr.heap.size wr W0 := hW0 ▸ (Below.refl _ _).alloc (Nat.le_refl _) _
      have hm0 : Whole W0 wr.heap.size 46 (mem7 ks cj).toArray := hW0 ▸ Whole.made _ _ _
      have hFr0 : Fr B b w W0 := hb.trans (Fr.of_below hb0 hBr)
      have hne : wr.heap.size ≠ b := by omega
      have HC := Lib.hid (comma_any B b Y j W0 (ht.keep hb0) (by omega) (by omega))
      have HQ := Lib.hid (fun W1 (hf : Fr B b W0 W1) (ht1 : Txt B b (Y ++ commaL j) W1) => quote_any B b (Y ++ commaL j) ks W1 (HV.out.2.2.2.1.below (hFr0.trans hf).1 (Nat.lt_of_lt_of_le (by decide) hB)) (Nat.lt_of_lt_of_le (by decide) hB) ht1 (by rw [List.length_append]; omega) (by omega))
      have HCo := Lib.hid (fun W1 (ht1 : Txt B b (Y ++ commaL j ++ quoL ks.data.toList) W1) => writeByte_any B b (Y ++ commaL j ++ quoL ks.data.toList) 58 W1 ht1 (by rw [List.length_append, List.length_append]; omega))
      have HN := Lib.hid (fun W1 (hf : Fr B b W0 W1) (ht1 : Txt B b (Y ++ commaL j ++ quoL ks.data.toList ++ [58]) W1) =>
        HV.out.2.2.1 l[j].2 cj B b (Y ++ commaL j ++ quoL ks.data.toList ++ [58]) W1 (HV.out.2.1 _ (List.getElem_mem hlj))
          (hx6.keep (fun p hp => (hFr0.trans hf).1.cell hp) (fun _ h => h))
          (HV.out.2.2.2.below (hFr0.trans hf).1 (Nat.lt_of_lt_of_le (by decide) hB) (Nat.lt_of_lt_of_le (by decide) hB)) hB ht1 (by rw [List.length_append, List.length_append, List.length_append, List.length_singleton]; omega))
      have HM := Lib.hid (fun W1 (hf : Fr B b W0 W1) => (show Whole W1 wr.heap.size 46 (mem7 ks cj).toArray from hf.block hm0 hne (by decide)))
      have HX := Lib.hid (And.intro hW0 (And.intro hFr0 (And.intro hpart (And.intro hkk hY))))
      clear hW0 hb0 hm0 hlen2 ht hb hkk hcj hc6 hx6 hpart hY hFr0 hne hck hkc
      obtain ⟨jk, jy, jn, jt, ja, jla, jca, jb, jlb, jcb⟩ := cj
      dsimp only [C6.arr, mem7, C6.cells] at x0 x1 x2 x3 x4 x5 HN HX HM
      go_wp2_with fail
      rw [HX.out.1]
      refine HC.out.mono ?_
      rintro e W1 ⟨rfl, ht1, hf1⟩
      have hm1 := HM.out W1 hf1
      have z0 := hm1.cell 0
      simp at z0
      have HT2 := Lib.hid (And.intro ht1 (And.intro hf1 hm1))
      clear ht1 hf1 hm1 xk x0 x1 x2 x3 x4 x5
      go_wp2_with fail
      refine (HQ.out W1 HT2.out.2.1 HT2.out.1).mono ?_
      rintro e W2 ⟨rfl, ht2, hf2⟩
      have HT3 := Lib.hid (And.intro ht2 (HT2.out.2.1.trans hf2))
      clear ht2 hf2 z0
      go_wp2_with fail
      refine (HCo.out W2 HT3.out.1).mono ?_
      rintro e W3 ⟨rfl, ht3, hf3⟩
      have hf3' := HT3.out.2.trans hf3
      have hm3 := HM.out W3 hf3'
      have z1 := hm3.cell 1
      have z2 := hm3.cell 2
      have z3 := hm3.cell 3
      have z4 := hm3.cell 4
      have z5 := hm3.cell 5
      have z6 := hm3.cell 6
      simp at z1 z2 z3 z4 z5 z6
      have HT4 := Lib.hid (And.intro ht3.txt hf3')
      clear ht3 hf3 hf3' hm3
      go_wp2_with fail
      refine (HN.out W3 HT4.out.2 HT4.out.1).mono ?_
      rintro e W4 ⟨rfl, ht4, hf4⟩
      have HT5 := Lib.hid (And.intro ht4 (HT4.out.2.trans hf4))
      clear ht4 hf4 z1 z2 z3 z4 z5 z6
      go_wp2_with fail
      go_roundg (l.length - (j + 1))
      case rel =>
        obtain ⟨-, hF, hcl, hkk, hY⟩ := HX.out
        refine ⟨j + 1, by omega, by go_num, ?_, hF.trans HT5.out.2⟩
        rw [hcl]
        have := HT5.out.1
        rw [← hY] at this
        simpa using this
      case measure => have := HX.out.2.2.2.1; omega
    · obtain rfl : j = l.length := by omega
      have hlen3 : (x ++ 123 :: canM 0 (l.take l.length)).length ≤ x.length + (canM 0 l).length + 1 := by
        rw [List.take_length, List.length_append, List.length_cons]
        omega
      have H3 := Lib.hid (writeByte_any B b _ 125 wr ht (by omega))
      have HX := Lib.hid hb
      clear ht hb hkk hlen3
      go_wp2_with fail
      refine H3.out.mono ?_
      rintro e W1 ⟨rfl, ht1, hf1⟩
      have HT2 := Lib.hid (And.intro ht1 hf1)
      clear ht1 hf1
      go_wp2_with fail
      refine bodyPost_end (v := .tuple #[]) (by simp [results, Tryd.results36]) rfl ⟨rfl, ?_, HX.out.trans HT2.out.2⟩
      have := HT2.out.1.txt
      rw [List.take_length] at this
      simpa using this
end Go.Proofs.YtpehddbpingobaaDoor
