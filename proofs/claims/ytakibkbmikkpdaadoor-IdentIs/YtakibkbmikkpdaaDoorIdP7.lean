/-
  Names: the program's Split, walked.
-/
import Derived.Test.YtakibkbmikkpdaaDoorIdP6
import Derived.Deep.RegionHeld3
import Derived.Deep.DeepMust
namespace Go.Proofs.YtakibkbmikkpdaaDoor
open Go.RowKit Go.Lib
set_option linter.unusedVariables false
set_option linter.unusedSimpArgs false

/-- What the program's Split answers: the document's kind, part and server; ErrName by itself, if it is no name. -/
def PSplit (s : ByteArray) (W : World) (e : Ending) (w' : World) : Prop :=
  ∃ ev, e = .returned (.tuple #[.int .i64 (nameKind s), .string (namePart s), .string (nameServer s), ev]) ∧ (nameKind s = 0 → ev = .iface 31 (.int .i64 7)) ∧ (nameKind s ≠ 0 → ev = .nilIface) ∧ Below W.heap.size W w'
theorem psplit_none {s : ByteArray} {W w' : World} (h : nameKind s = 0) (hb : Below W.heap.size W w') : PSplit s W (.returned (.tuple #[.int .i64 0, .string ⟨#[]⟩, .string ⟨#[]⟩, .iface 31 (.int .i64 7)])) w' :=
  ⟨_, by rw [h, (prog_none h).1, (prog_none h).2]; rfl, fun _ => rfl, fun h' => absurd h h', hb⟩
theorem psplit_some {s : ByteArray} {W w' : World} {k : Nat} (h : nameKind s = k) (hk : k ≠ 0) (hb : Below W.heap.size W w') : PSplit s W (.returned (.tuple #[.int .i64 k, .string (restB (aheadB s)), .string (behindB s), .nilIface])) w' :=
  ⟨_, by rw [← h, (prog_part (by omega)).1, (prog_part (by omega)).2], fun h' => absurd (h.symm.trans h') hk, fun _ => rfl, hb⟩

set_option maxHeartbeats 4000000 in
set_option maxRecDepth 100000 in
theorem split_any (s : ByteArray) (W : World) (hs : s.size ≤ 100000) :
    Calls Tryd.prog 12 #[.string s] W (PSplit s W) := by
  have H := Lib.hid (cut_any s W (by omega))
  have h1 := ahead_size s
  have h2 := behind_size s
  have h3 := rest_size (aheadB s)
  have HS := Lib.hid (fun w => isServer_any (behindB s) w (by omega))
  have HG := Lib.hid (fun w => signed_any (firstB (aheadB s)) w)
  have HH := Lib.hid (fun w => made_late ((aheadB s).extract 1 (aheadB s).size) 50 (signQ (firstB (aheadB s))) w (by unfold restB at h3; omega) (by decide))
  have hK := prog_kind s
  unfold progKind at hK
  have hN := Lib.hid (fun (h : nameKind s = 0) w' hb => psplit_none (W := W) (w' := w') h hb)
  have hY := Lib.hid (fun k (h : nameKind s = k) hk w' hb => psplit_some (W := W) (w' := w') (k := k) h hk hb)
  have hfst := fun h => first_eq (s := aheadB s) h
  obtain ⟨A, hA⟩ : ∃ A, aheadB s = A := ⟨_, rfl⟩
  obtain ⟨B, hB⟩ : ∃ B, behindB s = B := ⟨_, rfl⟩
  obtain ⟨b, hb⟩ : ∃ b, hasB s 58 = b := ⟨_, rfl⟩
  rw [hA, hB, hb] at H
  rw [hB] at HS
  rw [hA] at HG HH hfst h1
  rw [hA, hB] at hK hY
  obtain ⟨c, hc⟩ : ∃ c, firstB A = c := ⟨_, rfl⟩
  rw [hc] at HG HH hK hfst
  obtain ⟨PS, hPS⟩ : ∃ PS, PSplit s W = PS := ⟨_, rfl⟩
  have HP := Lib.hid hPS
  rw [hPS] at hN hY ⊢
  clear hA hB hb hc h2 h3 hPS
  by_cases c0 : A.size = 0
  · rw [if_pos c0] at hK
    have HK := Lib.hid hK
    have he := toList_nil c0
    have he2 : (A.toList == []) = true := by rw [he]; rfl
    have he3 : A.toList.isEmpty = true := by rw [he]; rfl
    clear he hfst hK
    go_enter Tryd.func12, Tryd.ntmps12
    go_wp2_with fail
    refine H.out.mono ?_
    rintro e W1 ⟨rfl, n, rfl⟩
    go_wp2_with fail
    refine bodyPost_ret (v := .tuple #[.int .i64 0, .string ⟨#[]⟩, .string ⟨#[]⟩, .iface 31 (.int .i64 7)]) (by simp [results, Tryd.results12, go_sem]) rfl ?_
    exact hN.out HK.out _ (below_drewN W n)
  rw [if_neg c0] at hK
  have hne := toList_not c0
  have he2 : (A.toList == []) = false := by simpa using hne
  have he3 : A.toList.isEmpty = false := by simpa using hne
  have h0' : 0 < A.size := by omega
  have q0 : (0 : Int) < (A.size : Int) := by omega
  have q1 : (1 : Int) ≤ (A.size : Int) := by omega
  have hfx := Lib.hid (hfst h0').symm
  clear hne c0 hfst
  obtain ⟨b1, hb1⟩ : ∃ b, isServer B = b := ⟨_, rfl⟩
  rw [hb1] at HS hK
  clear hb1
  cases b1 with
  | false =>
    rw [if_pos rfl] at hK
    have HK := Lib.hid hK
    clear hK
    go_enter Tryd.func12, Tryd.ntmps12
    go_wp2_with fail
    refine H.out.mono ?_
    rintro e W1 ⟨rfl, n, rfl⟩
    go_wp2_with fail
    refine (HS.out _).mono ?_
    rintro e W2 ⟨rfl, hb⟩
    have HB := Lib.hid ((below_drewN W n).trans hb)
    clear hb
    go_wp2_with fail
    refine bodyPost_ret (v := .tuple #[.int .i64 0, .string ⟨#[]⟩, .string ⟨#[]⟩, .iface 31 (.int .i64 7)]) (by simp [results, Tryd.results12, go_sem]) rfl ?_
    exact hN.out HK.out _ HB.out
  | true =>
    rw [if_neg (by decide)] at hK
    by_cases k0 : signKind c = 0
    · rw [if_pos k0] at hK
      have HK := Lib.hid hK
      rw [k0] at HG
      clear hK k0
      go_enter Tryd.func12, Tryd.ntmps12
      go_wp2_with fail
      refine H.out.mono ?_
      rintro e W1 ⟨rfl, n, rfl⟩
      go_wp2_with fail
      refine (HS.out _).mono ?_
      rintro e W2 ⟨rfl, hb⟩
      have HB := Lib.hid ((below_drewN W n).trans hb)
      clear hb
      go_wp2_with fail
      rw [hfx.out]
      refine (HG.out _).mono ?_
      rintro e W3 ⟨rfl, rfl⟩
      go_wp2_with fail
      go_quiet (fail)
      go_wp2_with fail
      refine bodyPost_ret (v := .tuple #[.int .i64 0, .string ⟨#[]⟩, .string ⟨#[]⟩, .iface 31 (.int .i64 7)]) (by simp [results, Tryd.results12, go_sem]) rfl ?_
      exact hN.out HK.out _ (HB.out.trans ((below_drewN _ _).mono HB.out.size))
    · rw [if_neg k0] at hK
      have hq := signQ_all k0 (restB A) 1 50
      rw [← hq] at hK
      have hkb : (((signKind c : Nat) : Int) == 0) = false := by rw [beq_eq_false_iff_ne]; omega
      have hkb2 : ((signKind c : Nat) == 0) = false := by rw [beq_eq_false_iff_ne]; exact k0
      have HK0 := Lib.hid k0
      obtain ⟨K, hKK⟩ : ∃ K, signKind c = K := ⟨_, rfl⟩
      rw [hKK] at HG hK hkb hkb2 HK0
      have hK : nameKind s = if allB (A.extract 1 A.size) 1 50 (signQ c) = true then K else 0 := hK
      obtain ⟨b2, hb2⟩ : ∃ b, allB (A.extract 1 A.size) 1 50 (signQ c) = b := ⟨_, rfl⟩
      rw [hb2] at HH hK
      clear hb2 hq hKK k0
      cases b2 with
      | false =>
        rw [if_neg (by decide)] at hK
        have HK := Lib.hid hK
        clear hK
        go_enter Tryd.func12, Tryd.ntmps12
        go_wp2_with fail
        refine H.out.mono ?_
        rintro e W1 ⟨rfl, n, rfl⟩
        go_wp2_with fail
        refine (HS.out _).mono ?_
        rintro e W2 ⟨rfl, hb⟩
        have HB := Lib.hid ((below_drewN W n).trans hb)
        clear hb
        go_wp2_with fail
        rw [hfx.out]
        refine (HG.out _).mono ?_
        rintro e W3 ⟨rfl, rfl⟩
        go_wp2_with fail
        go_region_held3 (fun _ => True) (first | with_reducible trivial | skip)
          (first
            | (go_at_call 31; go_must (refine (HH.out _).mono ?_; rintro e W4 ⟨g, rfl, hb, hcl⟩; have HB4 := Lib.hid hb; have HC4 := Lib.hid hcl; clear hb hcl))
            | (go_at_call 30; refine (HC4.out _ ?_).mono ?_; (first | with_reducible exact Below.refl _ _ | with_reducible exact (Below.refl _ _).drew | exact below_drewN _ _)
               rintro e W5 ⟨rfl, rfl⟩))
        go_wp2_with fail
        refine bodyPost_ret (v := .tuple #[.int .i64 0, .string ⟨#[]⟩, .string ⟨#[]⟩, .iface 31 (.int .i64 7)]) (by simp [results, Tryd.results12, go_sem]) rfl ?_
        exact hN.out HK.out _ (HB.out.trans ((((below_drewN W2 1).trans HB4.out)).mono HB.out.size))
      | true =>
        rw [if_pos rfl] at hK
        have HK := Lib.hid hK
        clear hK
        go_enter Tryd.func12, Tryd.ntmps12
        go_wp2_with fail
        refine H.out.mono ?_
        rintro e W1 ⟨rfl, n, rfl⟩
        go_wp2_with fail
        refine (HS.out _).mono ?_
        rintro e W2 ⟨rfl, hb⟩
        have HB := Lib.hid ((below_drewN W n).trans hb)
        clear hb
        go_wp2_with fail
        rw [hfx.out]
        refine (HG.out _).mono ?_
        rintro e W3 ⟨rfl, rfl⟩
        go_wp2_with fail
        go_region_held3 (fun _ => True) (first | with_reducible trivial | skip)
          (first
            | (go_at_call 31; go_must (refine (HH.out _).mono ?_; rintro e W4 ⟨g, rfl, hb, hcl⟩; have HB4 := Lib.hid hb; have HC4 := Lib.hid hcl; clear hb hcl))
            | (go_at_call 30; refine (HC4.out _ ?_).mono ?_; (first | with_reducible exact Below.refl _ _ | with_reducible exact (Below.refl _ _).drew | exact below_drewN _ _)
               rintro e W5 ⟨rfl, rfl⟩))
        go_wp2_with fail
        go_quiet (fail)
        go_wp2_with fail
        refine bodyPost_ret (v := .tuple #[.int .i64 K, .string (restB A), .string B, .nilIface]) (by simp [results, Tryd.results12, go_sem, restB]) rfl ?_
        have hb4 := HB.out.trans (((below_drewN W2 1).trans HB4.out).mono HB.out.size)
        exact hY.out K HK.out HK0.out _ (hb4.trans ((below_drewN W4 nq).mono hb4.size))
end Go.Proofs.YtakibkbmikkpdaaDoor
