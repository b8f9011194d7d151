/-
  The program's canonical texts: a comma, a byte between quotes, a text between quotes, walked.
-/
import Derived.Test.YtpehddbpingobaaDoorBd3
import Derived.Test.YtpehddbpingobaaDoorLet0
import Derived.Test.YtpehddbpingobaaDoorHex2
import Derived.Deep.RegionHeld3
import Derived.Deep.DeepMust
namespace Go.Proofs.YtpehddbpingobaaDoor
open Go.RowKit Go.Lib
set_option linter.unusedVariables false
set_option linter.unusedSimpArgs false

/-- What is laid behind a text; nothing else is turned. -/
def Laid (B b : Nat) (l x : List UInt8) (w : World) (e : Ending) (w' : World) : Prop := e = .returned (.tuple #[]) ∧ Txt B b (l ++ x) w' ∧ Fr B b w w'

set_option maxHeartbeats 2000000 in
set_option maxRecDepth 100000 in
theorem comma_any (B b : Nat) (l : List UInt8) (i : Nat) (w : World) (h : Txt B b l w) (hl : l.length ≤ 900000000) (hi : i ≤ 1000000000) :
    Calls Tryd.prog 52 #[.pointer (some ⟨b, 0, none⟩), .int .i64 i] w (Laid B b l (commaL i) w) := by
  have H := Lib.hid (writeByte_any B b l 44 w h (by omega))
  by_cases h0 : i = 0
  · subst h0
    have HT := Lib.hid h
    clear h
    go_enter Tryd.func52, Tryd.ntmps52
    go_wp2_with fail
    exact bodyPost_end (v := .tuple #[]) (by simp [results, Tryd.results52]) rfl ⟨rfl, by rw [commaL, if_pos rfl, List.append_nil]; exact HT.out, Fr.refl _ _ _⟩
  · have d1 : decide ((0 : Int) < (i : Int)) = true := decide_eq_true (by omega)
    have d2 : decide (0 < i) = true := decide_eq_true (by omega)
    have HC : Hid (commaL i = [44]) := by show _ = _; rw [commaL, if_neg h0]
    clear h h0
    go_enter Tryd.func52, Tryd.ntmps52
    go_wp2_with fail
    refine H.out.mono ?_
    rintro e w' ⟨rfl, ht, hb⟩
    have HT := Lib.hid (And.intro ht hb)
    clear ht hb
    go_wp2_with fail
    exact bodyPost_end (v := .tuple #[]) (by simp [results, Tryd.results52]) rfl ⟨rfl, by rw [HC.out]; exact HT.out.1.txt, HT.out.2⟩

theorem Deb.keep {w w' : World} (h : Deb w) (hb : Below w.heap.size w w') : Deb w' := by
  have hl : 5 < w.heap.size := by
    have := h
    unfold Deb at this
    rcases Nat.lt_or_ge 5 w.heap.size with h' | h'
    · exact h'
    · simp [World.cell?, Array.getElem?_eq_none h'] at this
  exact (hb.cell (p := ⟨5, 15, none⟩) hl).trans h
theorem u8_beqN (a b : UInt8) : (((a.toNat : Int)) == ((b.toNat : Int))) = (a == b) := by
  rw [Bool.eq_iff_iff]
  simp only [beq_iff_eq]
  constructor
  · intro h
    exact UInt8.toNat.inj (by omega)
  · intro h
    rw [h]
set_option maxHeartbeats 4000000 in
set_option maxRecDepth 100000 in
theorem letter_any (B b : Nat) (l : List UInt8) (c : UInt8) (w : World) (hw : Deb w) (h : Txt B b l w) (hl : l.length ≤ 900000000) :
    Calls Tryd.prog 44 #[.pointer (some ⟨b, 0, none⟩), .int .u8 c.toNat] w (Laid B b l (letL c) w) := by
  by_cases h34 : c = 34
  · subst h34
    have H1 := Lib.hid (writeByte_any B b l 92 w h (by omega))
    have H2 := Lib.hid (fun w' (h' : Txt B b (l ++ [92]) w') => writeByte_any B b (l ++ [92]) 34 w' h' (by simp; omega))
    clear h
    go_enter Tryd.func44, Tryd.ntmps44
    go_wp2_with fail
    refine H1.out.mono ?_
    rintro e w1 ⟨rfl, ht1, hb1⟩
    have HT1 := Lib.hid (And.intro ht1 hb1)
    clear ht1 hb1
    go_wp2_with fail
    refine (H2.out _ HT1.out.1.txt).mono ?_
    rintro e w2 ⟨rfl, ht2, hb2⟩
    have HT2 := Lib.hid (And.intro ht2 hb2)
    clear ht2 hb2
    go_wp2_with fail
    refine bodyPost_end (v := .tuple #[]) (by simp [results, Tryd.results44]) rfl ⟨rfl, ?_, HT1.out.2.trans HT2.out.2⟩
    have := HT2.out.1.txt
    rw [List.append_assoc] at this
    exact this
  by_cases h92 : c = 92
  · subst h92
    have H1 := Lib.hid (writeByte_any B b l 92 w h (by omega))
    have H2 := Lib.hid (fun w' (h' : Txt B b (l ++ [92]) w') => writeByte_any B b (l ++ [92]) 92 w' h' (by simp; omega))
    clear h
    go_enter Tryd.func44, Tryd.ntmps44
    go_wp2_with fail
    refine H1.out.mono ?_
    rintro e w1 ⟨rfl, ht1, hb1⟩
    have HT1 := Lib.hid (And.intro ht1 hb1)
    clear ht1 hb1
    go_wp2_with fail
    refine (H2.out _ HT1.out.1.txt).mono ?_
    rintro e w2 ⟨rfl, ht2, hb2⟩
    have HT2 := Lib.hid (And.intro ht2 hb2)
    clear ht2 hb2
    go_wp2_with fail
    refine bodyPost_end (v := .tuple #[]) (by simp [results, Tryd.results44]) rfl ⟨rfl, ?_, HT1.out.2.trans HT2.out.2⟩
    have := HT2.out.1.txt
    rw [List.append_assoc] at this
    exact this
  by_cases h8 : c = 8
  · subst h8
    have H1 := Lib.hid (writeString_any B b l ⟨#[92, 98]⟩ w h (by have : (ByteArray.mk #[92, 98]).size = 2 := rfl; omega))
    clear h
    go_enter Tryd.func44, Tryd.ntmps44
    go_wp2_with fail
    refine H1.out.mono ?_
    rintro e w1 ⟨rfl, ht1, hb1⟩
    have HT1 := Lib.hid (And.intro ht1 hb1)
    clear ht1 hb1
    go_wp2_with fail
    exact bodyPost_end (v := .tuple #[]) (by simp [results, Tryd.results44]) rfl ⟨rfl, HT1.out.1.txt, HT1.out.2⟩
  by_cases h12 : c = 12
  · subst h12
    have H1 := Lib.hid (writeString_any B b l ⟨#[92, 102]⟩ w h (by have : (ByteArray.mk #[92, 102]).size = 2 := rfl; omega))
    clear h
    go_enter Tryd.func44, Tryd.ntmps44
    go_wp2_with fail
    refine H1.out.mono ?_
    rintro e w1 ⟨rfl, ht1, hb1⟩
    have HT1 := Lib.hid (And.intro ht1 hb1)
    clear ht1 hb1
    go_wp2_with fail
    exact bodyPost_end (v := .tuple #[]) (by simp [results, Tryd.results44]) rfl ⟨rfl, HT1.out.1.txt, HT1.out.2⟩
  by_cases h10 : c = 10
  · subst h10
    have H1 := Lib.hid (writeString_any B b l ⟨#[92, 110]⟩ w h (by have : (ByteArray.mk #[92, 110]).size = 2 := rfl; omega))
    clear h
    go_enter Tryd.func44, Tryd.ntmps44
    go_wp2_with fail
    refine H1.out.mono ?_
    rintro e w1 ⟨rfl, ht1, hb1⟩
    have HT1 := Lib.hid (And.intro ht1 hb1)
    clear ht1 hb1
    go_wp2_with fail
    exact bodyPost_end (v := .tuple #[]) (by simp [results, Tryd.results44]) rfl ⟨rfl, HT1.out.1.txt, HT1.out.2⟩
  by_cases h13 : c = 13
  · subst h13
    have H1 := Lib.hid (writeString_any B b l ⟨#[92, 114]⟩ w h (by have : (ByteArray.mk #[92, 114]).size = 2 := rfl; omega))
    clear h
    go_enter Tryd.func44, Tryd.ntmps44
    go_wp2_with fail
    refine H1.out.mono ?_
    rintro e w1 ⟨rfl, ht1, hb1⟩
    have HT1 := Lib.hid (And.intro ht1 hb1)
    clear ht1 hb1
    go_wp2_with fail
    exact bodyPost_end (v := .tuple #[]) (by simp [results, Tryd.results44]) rfl ⟨rfl, HT1.out.1.txt, HT1.out.2⟩
  by_cases h9 : c = 9
  · subst h9
    have H1 := Lib.hid (writeString_any B b l ⟨#[92, 116]⟩ w h (by have : (ByteArray.mk #[92, 116]).size = 2 := rfl; omega))
    clear h
    go_enter Tryd.func44, Tryd.ntmps44
    go_wp2_with fail
    refine H1.out.mono ?_
    rintro e w1 ⟨rfl, ht1, hb1⟩
    have HT1 := Lib.hid (And.intro ht1 hb1)
    clear ht1 hb1
    go_wp2_with fail
    exact bodyPost_end (v := .tuple #[]) (by simp [results, Tryd.results44]) rfl ⟨rfl, HT1.out.1.txt, HT1.out.2⟩
  have e34 : (((c.toNat : Int)) == 34) = false := (u8_beqN c 34).trans (by simpa using h34)
  have e92 : (((c.toNat : Int)) == 92) = false := (u8_beqN c 92).trans (by simpa using h92)
  have e8 : (((c.toNat : Int)) == 8) = false := (u8_beqN c 8).trans (by simpa using h8)
  have e12 : (((c.toNat : Int)) == 12) = false := (u8_beqN c 12).trans (by simpa using h12)
  have e10 : (((c.toNat : Int)) == 10) = false := (u8_beqN c 10).trans (by simpa using h10)
  have e13 : (((c.toNat : Int)) == 13) = false := (u8_beqN c 13).trans (by simpa using h13)
  have e9 : (((c.toNat : Int)) == 9) = false := (u8_beqN c 9).trans (by simpa using h9)
  by_cases h32 : c.toNat < 32
  · have HL : Hid (letL c = 92 :: 117 :: hx 4 c.toNat) := by show _ = _; rw [letL, if_neg h34, if_neg h92, if_neg h8, if_neg h12, if_neg h10, if_neg h13, if_neg h9, if_pos h32]
    have d1 : decide ((c.toNat : Int) < 32) = true := decide_eq_true (by omega)
    have d2 : decide (c.toNat < 32) = true := decide_eq_true h32
    have hz : (ByteArray.mk (hx 4 c.toNat).toArray).size = 4 := by have h1 := hx_len 4 c.toNat; have h2 : (ByteArray.mk (hx 4 c.toNat).toArray).size = (hx 4 c.toNat).length := List.size_toArray; omega
    have H0 : ∀ W, Below w.heap.size w W → Calls Tryd.prog 24 #[.int .u64 c.toNat, .int .i64 4] W fun e w' => e = .returned (.string ⟨(hx 4 c.toNat).toArray⟩) ∧ Below W.heap.size W w' :=
      fun W hW => hex_any c.toNat 4 W (hw.keep hW) (by decide) (by decide) (by omega) (by omega)
    obtain ⟨D, hD⟩ : ∃ D : ByteArray, (⟨(hx 4 c.toNat).toArray⟩ : ByteArray) = D := ⟨_, rfl⟩
    have hDl : D.data.toList = hx 4 c.toNat := by rw [← hD]
    rw [hD] at hz
    simp only [hD] at H0
    have HD := Lib.hid hDl
    have H0 := Lib.hid H0
    have h3 : (ByteArray.mk #[92, 117]).size = 2 := rfl
    have H1 := Lib.hid (fun w' (h' : Txt B b l w') => writeString_any B b l (⟨#[92, 117]⟩ ++ D) w' h' (by rw [ByteArray.size_append]; omega))
    have HK := Lib.hid h
    have hB := h.lt
    have wc : IntKind.u64.wrap (c.toNat : Int) = (c.toNat : Int) := by rw [IntKind.wrap_u64]; omega
    clear hD hDl hw
    clear h h34 h92 h8 h12 h10 h13 h9
    go_enter Tryd.func44, Tryd.ntmps44
    go_wp2_with fail
    go_region_held3 (fun _ => True) (first | with_reducible trivial | skip)
      (first
        | (go_at_call 24; go_must (with_reducible refine (H0.out _ ?_).mono ?_); (first | with_reducible exact Below.refl _ _ | with_reducible exact (Below.refl _ _).drew); rintro e w1 ⟨rfl, hb1⟩
           have HT1 := Lib.hid (((Below.refl w.heap.size w).drew).trans hb1)
           clear hb1)
        | (go_at_call 32; go_must (with_reducible refine (H1.out _ (HK.out.keep ?_)).mono ?_); (first | with_reducible exact HT1.out | with_reducible exact HT1.out.drew); rintro e w2 ⟨rfl, ht2, hb2⟩
           have HT2 := Lib.hid (And.intro ht2 hb2)
           clear ht2 hb2))
    go_wp2_with fail
    refine bodyPost_ret (v := .tuple #[]) (by simp [results, Tryd.results44]) rfl ⟨rfl, ?_, (Fr.of_below HT1.out (by omega)).trans HT2.out.2⟩
    have := HT2.out.1.txt
    rw [ByteArray.data_append, Array.toList_append, HD.out] at this
    rw [HL.out]
    exact this
  · have HL : Hid (letL c = [c]) := by show _ = _; rw [letL, if_neg h34, if_neg h92, if_neg h8, if_neg h12, if_neg h10, if_neg h13, if_neg h9, if_neg h32]
    have d1 : decide ((c.toNat : Int) < 32) = false := decide_eq_false (by omega)
    have d2 : decide (c.toNat < 32) = false := decide_eq_false h32
    have H1 := Lib.hid (writeByte_any B b l c w h (by omega))
    clear h h34 h92 h8 h12 h10 h13 h9
    go_enter Tryd.func44, Tryd.ntmps44
    go_wp2_with fail
    refine H1.out.mono ?_
    rintro e w1 ⟨rfl, ht1, hb1⟩
    have HT1 := Lib.hid (And.intro ht1 hb1)
    clear ht1 hb1
    go_wp2_with fail
    exact bodyPost_end (v := .tuple #[]) (by simp [results, Tryd.results44]) rfl ⟨rfl, by rw [HL.out]; exact HT1.out.1.txt, HT1.out.2⟩
end Go.Proofs.YtpehddbpingobaaDoor
