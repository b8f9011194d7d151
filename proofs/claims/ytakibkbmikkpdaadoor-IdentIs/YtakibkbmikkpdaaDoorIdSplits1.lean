/-
  IdentSplits, walked: the kind, the part and the server of any text are the document's, and put together they are it, as long as the program's Split, Of and Is answer by the document's words.
-/
import Derived.Test.YtakibkbmikkpdaaDoorIdLaw0
import Derived.Test.YtakibkbmikkpdaaDoorId5
import Derived.Test.YtakibkbmikkpdaaDoorTell
namespace Go.Proofs.YtakibkbmikkpdaaDoor
open Go.RowKit Go.Lib
set_option linter.unusedVariables false
set_option linter.unusedSimpArgs false

theorem colon_join : ∀ {l : List UInt8}, l.contains 58 = true → l = aheadL l ++ 58 :: l.drop ((aheadL l).length + 1)
  | [], h => by simp at h
  | c :: r, h => by
    unfold aheadL
    rw [List.takeWhile_cons]
    by_cases hc : c = 58
    · subst hc
      simp
    · have hb : (c == 58) = false := beq_eq_false_iff_ne.2 hc
      have hr : r.contains 58 = true := by
        rw [List.contains_cons] at h
        have : ((58 : UInt8) == c) = false := beq_eq_false_iff_ne.2 (Ne.symm hc)
        rw [this, Bool.false_or] at h
        exact h
      have ih := colon_join hr
      unfold aheadL at ih
      rw [hb]
      simp only [Bool.not_false, if_true, List.length_cons, List.drop_succ_cons, List.cons_append]
      rw [← ih]
theorem kind_true {s : ByteArray} (h : nameKind s ≠ 0) : 0 < s.size ∧ hasB (restB s) 58 = true ∧ isServer (behindB (restB s)) = true := by
  unfold nameKind at h
  by_cases h0 : s.size = 0
  · rw [if_pos h0] at h; exact absurd rfl h
  · rw [if_neg h0] at h
    by_cases h1 : (hasB (restB s) 58 && (allB (aheadB (restB s)) 1 50 (signL (firstB s)) && isServer (behindB (restB s)))) = true
    · simp only [Bool.and_eq_true] at h1
      exact ⟨by omega, h1.1, h1.2.2⟩
    · rw [if_neg h1] at h; exact absurd rfl h
theorem name_join {s : ByteArray} (h : nameKind s ≠ 0) : s.extract 0 1 ++ namePart s ++ ⟨#[58]⟩ ++ nameServer s = s := by
  obtain ⟨h0, h1, -⟩ := kind_true h
  rw [namePart, nameServer, if_neg h, if_neg h]
  apply ByteArray.ext
  apply Array.toList_inj.1
  have hj := colon_join (l := (restB s).data.toList) h1
  have ha : (aheadB (restB s)).data.toList = aheadL (restB s).data.toList := by rw [aheadB]
  have hb : (behindB (restB s)).data.toList = (restB s).data.toList.drop ((aheadL (restB s).data.toList).length + 1) := by rw [behindB]
  have hr : (restB s).data.toList = s.data.toList.drop 1 := by
    rw [restB]
    simp
    rw [List.take_of_length_le]
    simp
  have hx : (s.extract 0 1).data.toList = s.data.toList.take 1 := by simp
  simp only [ByteArray.data_append, Array.toList_append]
  rw [hx, ha, hb, List.append_assoc, List.append_assoc]
  have h58 : (⟨#[58]⟩ : ByteArray).data.toList ++ (restB s).data.toList.drop ((aheadL (restB s).data.toList).length + 1) = 58 :: (restB s).data.toList.drop ((aheadL (restB s).data.toList).length + 1) := rfl
  rw [h58, ← hj, hr, List.take_append_drop]
theorem server_true {s : ByteArray} (h : nameKind s ≠ 0) : isName 5 (nameServer s) = true := by
  rw [isName, if_neg (by decide), if_neg (by decide), if_pos rfl, nameServer, if_neg h]
  exact (kind_true h).2.2
theorem server_size (s : ByteArray) : (nameServer s).size ≤ s.size := by
  rw [nameServer]
  split
  · exact Nat.zero_le _
  · exact Nat.le_trans (behind_size _) (rest_size s)
theorem part_size (s : ByteArray) : (namePart s).size ≤ s.size := by
  rw [namePart]
  split
  · exact Nat.zero_le _
  · exact Nat.le_trans (ahead_size _) (rest_size s)
/-- The program's Split answers by the document's words. -/
def SplitErr (s : ByteArray) (ev : Value) : Prop := (nameKind s = 0 → ev = .iface 31 (.int .i64 7)) ∧ (nameKind s ≠ 0 → ev = .nilIface)
def SplitOut (s : ByteArray) (W : World) (e : Ending) (w' : World) : Prop := ∃ ev, e = .returned (.tuple #[.int .i64 (nameKind s), .string (namePart s), .string (nameServer s), ev]) ∧ SplitErr s ev ∧ Below W.heap.size W w'
def SplitC (G : World → Prop) : Prop := ∀ (s : ByteArray) (W : World), G W → s.size ≤ 1000 → Calls Tryd.prog 12 #[.string s] W (SplitOut s W)

theorem below_draw {B : Nat} {w W : World} (h : Below B w W) (n : Nat) : Below B w (W.drewN n) := ⟨h.os, h.tape, h.output, h.size, h.block⟩

theorem errN_any (c : Int) (w : World) : Calls Tryd.prog 16 #[.int .i64 c] w fun e w' => e = .returned (.agg #[.int .i64 c, .int .i64 (-1), .string ⟨#[]⟩]) ∧ Below w.heap.size w w' := by
  go_enter Tryd.func16, Tryd.ntmps16
  go_wp2
  exact bodyPost_ret (v := .agg #[.int .i64 c, .int .i64 (-1), .string ⟨#[]⟩]) (by simp [results, Tryd.results16, go_sem]) rfl ⟨rfl, (Below.refl _ _).alloc (Nat.le_refl _) _⟩

set_option maxRecDepth 10000 in
set_option maxHeartbeats 2000000 in
theorem lawSplits_any {G : World → Prop} (hst : Stays G) (hEr : ∀ W, G W → ErrVar W) (hIs : IsC G) (hOf : OfC G) (hSp : SplitC G) (s : ByteArray) (w : World) (hG : G w) (hs : s.size ≤ 9223372036854775807) :
    Calls Tryd.prog 4 #[.string s] w fun e w' => e = .returned (.bool true) ∧ Below w.heap.size w w' := by
  have HAw := Lib.hid (fun W (hW : Below w.heap.size w W) => awake_id hst hIs hOf W (hst _ _ hG hW))
  by_cases h300 : s.size ≤ 300
  · have d300 : decide ((300 : Int) < (s.size : Int)) = false := by simp; omega
    have hq := server_size s
    have hp := part_size s
    have HS := Lib.hid (fun W (hW : Below w.heap.size w W) => hSp s W (hst _ _ hG hW) (by omega))
    unfold SplitOut at HS
    have HR := Lib.hid (fun W => split_ref s W (by omega))
    unfold SplitAns at HR
    have HO := Lib.hid (fun W (hW : Below w.heap.size w W) => hOf s W (hst _ _ hG hW) (by omega))
    have HI := Lib.hid (fun W (hW : Below w.heap.size w W) => hIs 5 (nameServer s) W (hst _ _ hG hW) (by omega))
    have HE := Lib.hid (fun W (hW : Below w.heap.size w W) => hEr W (hst _ _ hG hW))
    have hj := fun h => name_join (s := s) h
    have hsv := fun h => server_true (s := s) h
    have hpos := fun h => (kind_true (s := s) h).1
    have he := fun ev (h : SplitErr s ev) => h
    unfold SplitErr at HS
    clear hst hEr hIs hOf hSp hG he
    obtain ⟨K, hK⟩ : ∃ K, nameKind s = K := ⟨_, rfl⟩
    obtain ⟨P, hP⟩ : ∃ P, namePart s = P := ⟨_, rfl⟩
    obtain ⟨Q, hQ⟩ : ∃ Q, nameServer s = Q := ⟨_, rfl⟩
    rw [hK, hP, hQ] at HS HR
    rw [hQ] at HO
    rw [hQ] at HI hsv hq
    rw [hP] at hp
    rw [hP, hQ, hK] at hj
    rw [hK] at hsv hpos
    have kk : ((K : Int) != (K : Int)) = false := by simp
    have pp : (P.toList != P.toList) = false := by simp
    have pp' : (P.toList == P.toList) = true := by simp
    have qq : (Q.toList != Q.toList) = false := by simp
    have qq' : (Q.toList == Q.toList) = true := by simp
    clear hK hP hQ
    by_cases hz : K = 0
    · subst hz
      clear hj hsv hpos
      go_enter Tryd.func4, Tryd.ntmps4
      go_wp2_with fail
      refine (HAw.out w (Below.refl _ _)).mono ?_
      rintro e W1 ⟨rfl, hb1⟩
      have HB1 := Lib.hid hb1
      clear hb1
      go_wp2_with fail
      refine (HS.out W1 HB1.out).mono ?_
      rintro e W2 ⟨ev, rfl, ⟨hev, -⟩, hb2⟩
      obtain rfl := hev (by simp)
      have HB2 := Lib.hid (HB1.out.trans (hb2.mono HB1.out.size))
      clear hb2 hev
      go_wp2_with fail
      refine (HR.out W2).mono ?_
      rintro e W3 ⟨rfl, n, rfl⟩
      have HB3 := Lib.hid (below_draw HB2.out n)
      go_wp2_with fail
      refine (HO.out _ HB3.out).mono ?_
      rintro e W4 ⟨rfl, hb4⟩
      have HB4 := Lib.hid (HB3.out.trans (hb4.mono HB3.out.size))
      clear hb4
      go_wp2_with fail
      refine (tell_chain [] 7 _ W4 rfl (HE.out W4 HB4.out) (by simp [chainLen])).mono ?_
      rintro e W5 ⟨rfl, hb5⟩
      have HB5 := Lib.hid (HB4.out.trans (hb5.mono HB4.out.size))
      clear hb5
      dsimp only [tellGo]
      go_wp2_with fail
      refine (errN_any 7 W5).mono ?_
      rintro e W6 ⟨rfl, hb6⟩
      have HB6 := Lib.hid (HB5.out.trans (hb6.mono HB5.out.size))
      clear hb6
      go_wp2_with fail
      go_ret
      exact ⟨by simp, HB6.out⟩
    · have hj := hj hz
      have hsv := hsv hz
      rw [hsv] at HI
      have kz : ((K : Int) == 0) = false := by rw [beq_eq_false_iff_ne]; omega
      have hpos := hpos hz
      have q1 : (1 : Int) ≤ (s.size : Int) := by omega
      have ss : (s.toList == s.toList) = true := by simp
      clear hsv
      go_enter Tryd.func4, Tryd.ntmps4
      go_wp2_with fail
      refine (HAw.out w (Below.refl _ _)).mono ?_
      rintro e W1 ⟨rfl, hb1⟩
      have HB1 := Lib.hid hb1
      clear hb1
      go_wp2_with fail
      refine (HS.out W1 HB1.out).mono ?_
      rintro e W2 ⟨ev, rfl, ⟨-, hev⟩, hb2⟩
      obtain rfl := hev hz
      have HB2 := Lib.hid (HB1.out.trans (hb2.mono HB1.out.size))
      clear hb2 hev
      go_wp2_with fail
      refine (HR.out W2).mono ?_
      rintro e W3 ⟨rfl, n, rfl⟩
      have HB3 := Lib.hid (below_draw HB2.out n)
      go_wp2_with fail
      refine (HO.out _ HB3.out).mono ?_
      rintro e W4 ⟨rfl, hb4⟩
      have HB4 := Lib.hid (HB3.out.trans (hb4.mono HB3.out.size))
      clear hb4
      go_wp2_with fail
      refine (HI.out W4 HB4.out).mono ?_
      rintro e W5 ⟨rfl, hb5⟩
      have HB5 := Lib.hid (HB4.out.trans (hb5.mono HB4.out.size))
      clear hb5
      go_wp2_with fail
      go_ret
      exact ⟨by simp, HB5.out⟩
  · have d300 : decide ((300 : Int) < (s.size : Int)) = true := by simp; omega
    clear hst hIs hOf hG hSp
    go_enter Tryd.func4, Tryd.ntmps4
    go_wp2_with fail
    refine (HAw.out w (Below.refl _ _)).mono ?_
    rintro e W1 ⟨rfl, hb1⟩
    have HB1 := Lib.hid hb1
    clear hb1
    go_wp2_with fail
    refine (HAw.out W1 HB1.out).mono ?_
    rintro e W2 ⟨rfl, hb2⟩
    go_wp2_with fail
    go_ret
    exact ⟨rfl, HB1.out.trans (hb2.mono HB1.out.size)⟩
end Go.Proofs.YtakibkbmikkpdaaDoor
