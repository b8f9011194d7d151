/-
  The program's canonical texts: a list's, walked, as long as its parts' are.
-/
import Derived.Test.YtpehddbpingobaaDoorCn3
import Derived.Test.YtpehddbpingobaaDoorCanP
namespace Go.Proofs.YtpehddbpingobaaDoor
open Go.RowKit Go.Lib
set_option linter.unusedVariables false
set_option linter.unusedSimpArgs false

/-- A right value, no deeper than d, is laid behind a text. -/
def PutC (d : Nat) : Prop := ∀ (v : V) (c : C6) (B b : Nat) (x : List UInt8) (w : World), chk d v = none → Val w (· < B) 1000000 v c.arr → Tabs w → 6 ≤ B → Txt B b x w → x.length + (canT v).length ≤ 400000000 →
  Calls Tryd.prog 17 #[.pointer (some ⟨b, 0, none⟩), .agg c.arr] w (Laid B b x (canT v) w)
def LstRel (w : World) (B b : Nat) (x : List UInt8) (l : List V) (kk : Nat) (i : Value) (wr : World) : Prop :=
  ∃ j : Nat, j + kk = l.length ∧ i = .int .i64 j ∧ Txt B b (x ++ 91 :: canL 0 (l.take j)) wr ∧ Fr B b w wr
set_option maxHeartbeats 4000000 in
set_option maxRecDepth 100000 in
theorem list_any (d : Nat) (hP : PutC d) (l : List V) (A : Option Addr) (c B b : Nat) (x : List UInt8) (w : World) (hk : ∀ v ∈ l, chk d v = none) (hv : ValL w (· < B) 1000000 l A 0) (hl : l.length ≤ 1000000) (hc : l.length ≤ c) (hT : Tabs w) (hB : 6 ≤ B) (h : Txt B b x w) (hx : x.length + (canL 0 l).length + 2 ≤ 400000000) :
    Calls Tryd.prog 35 #[.pointer (some ⟨b, 0, none⟩), .slice A l.length c] w (Laid B b x (91 :: (canL 0 l ++ [93])) w) := by
  have H1 := Lib.hid (writeByte_any B b x 91 w h (by omega))
  have hlt := h.lt
  have HV := Lib.hid (And.intro hv (And.intro hk (And.intro hP hT)))
  clear h hv hk hP hT
  go_enter Tryd.func35, Tryd.ntmps35
  go_wp2_with fail
  refine H1.out.mono ?_
  rintro e w1 ⟨rfl, ht1, hb1⟩
  have HT1 := Lib.hid (And.intro ht1 hb1)
  clear ht1 hb1
  go_wp2_with fail
  go_loopg [12] l.length (LstRel w B b x l)
  case atStart => exact ⟨0, by simp, rfl, by simpa [canL] using HT1.out.1.txt, HT1.out.2⟩
  case round =>
    obtain ⟨j, hkk, rfl, ht, hb⟩ := hrel
    by_cases hlj : j < l.length
    · obtain ⟨g, off, cs, rfl, hgB, hc6, hx6⟩ := HV.out.1.get j hlj
      obtain ⟨cj, rfl⟩ := hx6.c6
      have hcj : ∀ q, q < 6 → wr.cell? ⟨g, off + j * 6 + q, none⟩ = cj.arr[q]? := fun q hq => by
        rw [hb.1.cell (p := ⟨g, off + j * 6 + q, none⟩) hgB]
        simpa using hc6 q hq
      obtain ⟨x0, x1, x2, x3, x4, x5⟩ := cells6 hcj rfl
      have hbr : b < wr.heap.size := ht.lt.2
      have hBr : B ≤ wr.heap.size := by have := ht.lt; omega
      have hlen1 : (x ++ 91 :: canL 0 (l.take j)).length ≤ x.length + (canL 0 l).length + 1 := by
        have := canL_part l 0 j
        rw [List.length_append, List.length_cons]
        omega
      have hlen2 : (x ++ 91 :: canL 0 (l.take j)).length + (commaL j).length + (canT l[j]).length ≤ x.length + (canL 0 l).length + 1 := by
        have h1 := canL_part l 0 (j + 1)
        rw [canL_take l j hlj, List.length_append, List.length_append] at h1
        rw [List.length_append, List.length_cons]
        omega
      obtain ⟨W0, hW0⟩ : ∃ W0, wr.alloc (.cells cj.arr 39) = W0 := ⟨_, rfl⟩
      have hb0 : Below wr.heap.size wr W0 := hW0 ▸ (Below.refl _ _).alloc (Nat.le_refl _) _
      have hm0 : Whole W0 wr.heap.size 39 cj.arr := hW0 ▸ Whole.made _ _ _
      have HC := Lib.hid (comma_any B b (x ++ 91 :: canL 0 (l.take j)) j W0 (ht.keep hb0) (by omega) (by omega))
      have HN := Lib.hid (fun W1 (hf : Fr B b W0 W1) (ht1 : Txt B b ((x ++ 91 :: canL 0 (l.take j)) ++ commaL j) W1) =>
        HV.out.2.2.1 l[j] cj B b ((x ++ 91 :: canL 0 (l.take j)) ++ commaL j) W1 (HV.out.2.1 _ (List.getElem_mem hlj))
          (hx6.keep (fun p hp => (((hb.trans (Fr.of_below hb0 hBr)).trans hf).1.cell hp)) (fun _ h => h))
          (HV.out.2.2.2.below ((hb.trans (Fr.of_below hb0 hBr)).trans hf).1 (Nat.lt_of_lt_of_le (by decide) hB) (Nat.lt_of_lt_of_le (by decide) hB)) hB ht1 (by rw [List.length_append]; omega))
      have HX := Lib.hid (And.intro hW0 (And.intro hm0 (And.intro (hb.trans (Fr.of_below hb0 hBr)) (And.intro (canL_take l j hlj) hkk))))
      clear hW0 hb0 hm0 hlen1 hlen2 ht hb hkk hcj hc6 hx6
      obtain ⟨jk, jy, jn, jt, ja, jla, jca, jb, jlb, jcb⟩ := cj
      dsimp only [C6.arr] at x0 x1 x2 x3 x4 x5 HN HX
      go_wp2_with fail
      rw [HX.out.1]
      refine HC.out.mono ?_
      rintro e W1 ⟨rfl, ht1, hf1⟩
      obtain ⟨y0, y1, y2, y3, y4, y5⟩ := (show Whole W1 wr.heap.size 39 _ from hf1.block HX.out.2.1 (by omega) (by decide)).six
      have HT2 := Lib.hid (And.intro ht1 hf1)
      clear ht1 hf1 x0 x1 x2 x3 x4 x5
      go_wp2_with fail
      refine (HN.out W1 HT2.out.2 HT2.out.1).mono ?_
      rintro e W2 ⟨rfl, ht2, hf2⟩
      have HT3 := Lib.hid (And.intro ht2 hf2)
      clear ht2 hf2 y0 y1 y2 y3 y4 y5
      go_wp2_with fail
      go_roundg (l.length - (j + 1))
      case rel =>
        obtain ⟨-, -, hF, hcl, hkk⟩ := HX.out
        refine ⟨j + 1, by omega, by go_num, ?_, (hF.trans HT2.out.2).trans HT3.out.2⟩
        rw [hcl]
        have := HT3.out.1
        simpa using this
      case measure => have := HX.out.2.2.2.2; omega
    · obtain rfl : j = l.length := by omega
      have hlen3 : (x ++ 91 :: canL 0 (l.take l.length)).length ≤ x.length + (canL 0 l).length + 1 := by
        rw [List.take_length, List.length_append, List.length_cons]
        omega
      have H3 := Lib.hid (writeByte_any B b _ 93 wr ht (by omega))
      have HX := Lib.hid hb
      clear ht hb hkk hlen3
      go_wp2_with fail
      refine H3.out.mono ?_
      rintro e W1 ⟨rfl, ht1, hf1⟩
      have HT2 := Lib.hid (And.intro ht1 hf1)
      clear ht1 hf1
      go_wp2_with fail
      refine bodyPost_end (v := .tuple #[]) (by simp [results, Tryd.results35]) rfl ⟨rfl, ?_, HX.out.trans HT2.out.2⟩
      have := HT2.out.1.txt
      rw [List.take_length] at this
      simpa using this
end Go.Proofs.YtpehddbpingobaaDoor
