/-
  The program's canonical texts: a text between quotes, walked.
-/
import Derived.Test.YtpehddbpingobaaDoorCn1
import Derived.Deep.LoopGhost
namespace Go.Proofs.YtpehddbpingobaaDoor
open Go.RowKit Go.Lib
set_option linter.unusedVariables false
set_option linter.unusedSimpArgs false

theorem take_snocT (s : ByteArray) (k : Nat) (h : k < s.size) : s.data.toList.take (k + 1) = s.data.toList.take k ++ [s[k]] := by
  rw [List.take_succ_eq_append_getElem (by simpa using h)]; rfl
theorem Deb.below {w w' : World} {B : Nat} (h : Deb w) (hb : Below B w w') (hg : 5 < B) : Deb w' := (hb.cell (p := ⟨5, 15, none⟩) hg).trans h
def QuoRel (w : World) (B b : Nat) (l : List UInt8) (s : ByteArray) (kk : Nat) (i : Value) (wr : World) : Prop :=
  ∃ k : Nat, k + kk = s.size ∧ i = .int .i64 k ∧ Txt B b (l ++ 34 :: (s.data.toList.take k).flatMap letL) wr ∧ Fr B b w wr
set_option maxHeartbeats 4000000 in
set_option maxRecDepth 100000 in
theorem quote_any (B b : Nat) (l : List UInt8) (s : ByteArray) (w : World) (hw : Deb w) (hgB : 5 < B) (h : Txt B b l w) (hl : l.length ≤ 500000000) (hs : s.size ≤ 50000000) :
    Calls Tryd.prog 25 #[.pointer (some ⟨b, 0, none⟩), .string s] w (Laid B b l (quoL s.data.toList) w) := by
  have H1 := Lib.hid (writeByte_any B b l 34 w h (by omega))
  clear h
  go_enter Tryd.func25, Tryd.ntmps25
  go_wp2_with fail
  refine H1.out.mono ?_
  rintro e w1 ⟨rfl, ht1, hb1⟩
  have HT1 := Lib.hid (And.intro ht1 hb1)
  clear ht1 hb1
  go_wp2_with fail
  go_loopg [11] s.size (QuoRel w B b l s)
  case atStart => exact ⟨0, by simp, rfl, by simpa using HT1.out.1.txt, HT1.out.2⟩
  case round =>
    obtain ⟨k, hk, rfl, ht, hb⟩ := hrel
    have hlen : (l ++ 34 :: (s.data.toList.take k).flatMap letL).length ≤ 900000000 := by
      have h1 := flat_len6 (s.data.toList.take k)
      have h2 : (s.data.toList.take k).length ≤ k := by rw [List.length_take]; exact Nat.min_le_left _ _
      rw [List.length_append, List.length_cons]
      omega
    by_cases hlt : k < s.size
    · have H2 := Lib.hid (letter_any B b _ s[k] wr (hw.below hb.1 hgB) ht hlen)
      have HS := Lib.hid (And.intro (take_snocT s k hlt) (And.intro hb hk))
      clear ht hb hk hlen
      go_wp2_with fail
      refine H2.out.mono ?_
      rintro e w2 ⟨rfl, ht2, hb2⟩
      have HT2 := Lib.hid (And.intro ht2 hb2)
      clear ht2 hb2
      go_wp2_with fail
      go_roundg (s.size - (k + 1))
      case rel =>
        refine ⟨k + 1, by omega, by go_num, ?_, HS.out.2.1.trans HT2.out.2⟩
        have := HT2.out.1
        rw [HS.out.1, List.flatMap_append]
        simpa using this
      case measure => have := HS.out.2.2; omega
    · obtain rfl : k = s.size := by omega
      have H2 := Lib.hid (writeByte_any B b _ 34 wr ht (by omega))
      have HS := Lib.hid hb
      clear ht hb hk hlen
      go_wp2_with fail
      refine H2.out.mono ?_
      rintro e w2 ⟨rfl, ht2, hb2⟩
      have HT2 := Lib.hid (And.intro ht2 hb2)
      clear ht2 hb2
      go_wp2_with fail
      refine bodyPost_end (v := .tuple #[]) (by simp [results, Tryd.results25]) rfl ⟨rfl, ?_, HS.out.trans HT2.out.2⟩
      have := HT2.out.1.txt
      rw [List.take_of_length_le (by simp)] at this
      unfold quoL
      simpa using this
end Go.Proofs.YtpehddbpingobaaDoor
