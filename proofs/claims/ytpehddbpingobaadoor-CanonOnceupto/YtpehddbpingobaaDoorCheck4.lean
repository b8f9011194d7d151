/-
  value.check at every depth, by induction on the depth that is left; value.Check.
-/
import Derived.Test.YtpehddbpingobaaDoorCheck3
namespace Go.Proofs.YtpehddbpingobaaDoor
open Go.RowKit Go.Lib

set_option maxHeartbeats 4000000 in
/-- check, where the walk into lists and maps is told by two functions. -/
theorem check_head (fl : List V → Option (List ByteArray × Int)) (fm : List (ByteArray × V) → Option (List ByteArray × Int)) (d : Int) (h0 : 0 ≤ d) (h1 : d ≤ 20) (v : V) (cs : Array Value) (B : Nat) (w : World) (hv : Val w (· < B) 1000000 v cs) (hG : Glob w)
    (cl : ∀ (l : List V) (A : Option Addr) (c : Nat) (w' : World), Below w.heap.size w w' → ValL w (· < B) 1000000 l A 0 → l.length ≤ 1000000 → Calls Tryd.prog 47 #[.slice A l.length c, .int .i64 (20 - d + 1)] w' (Ans (fl l) w'))
    (cm : ∀ (m : List (ByteArray × V)) (A : Option Addr) (c : Nat) (w' : World), Below w.heap.size w w' → ValM w (· < B) 1000000 m A 0 → m.length ≤ 1000000 → m.length ≤ c → Calls Tryd.prog 48 #[.slice A m.length c, .int .i64 (20 - d + 1)] w' (Ans (fm m) w')) :
    Calls Tryd.prog 31 #[.agg cs, .int .i64 (20 - d)] w (Ans (chkHead fl fm v) w) := by
  cases v with
  | mk k y n t l m =>
  rw [Val] at hv
  obtain ⟨A1, c1, A2, c2, rfl, ⟨h1c, h2c, ht, hl, hm, -, -⟩, hvl, hvm⟩ := hv
  obtain ⟨R, hR⟩ : ∃ R, chkHead fl fm (.mk k y n t l m) = R := ⟨_, rfl⟩
  rw [hR]
  have HR := Lib.hid hR
  have CL := Lib.hid (cl l A1 c1 _ ((Below.refl _ _).alloc (Nat.le_refl _) (.cells #[.int .i64 k, .bool y, .int .i64 n, .string t, .slice A1 l.length c1, .slice A2 m.length c2] 39)) hvl hl)
  have CM := Lib.hid (cm m A2 c2 _ ((Below.refl _ _).alloc (Nat.le_refl _) (.cells #[.int .i64 k, .bool y, .int .i64 n, .string t, .slice A1 l.length c1, .slice A2 m.length c2] 39)) hvm hm h2c)
  have hb0 : Below w.heap.size w (w.alloc (.cells #[.int .i64 k, .bool y, .int .i64 n, .string t, .slice A1 l.length c1, .slice A2 m.length c2] 39)) := (Below.refl _ _).alloc (Nat.le_refl _) _
  clear hR cl cm hvl hvm
  have ends : ∀ (r : Option (List ByteArray × Int)) (e : Ending) (w' : World), Ans r (w.alloc (.cells #[.int .i64 k, .bool y, .int .i64 n, .string t, .slice A1 l.length c1, .slice A2 m.length c2] 39)) e w' → r = R → Ans R w e w' := fun r e w' ha hr => hr ▸ ⟨hb0.trans (ha.1.mono (by simp)), ha.2⟩
  have ENDS := Lib.hid ends
  clear ends
  by_cases e0 : k = 0
  · subst e0
    go_enter Tryd.func31, Tryd.ntmps31
    go_wp2_with fail
    go_ret
    exact ⟨hb0, .inl ⟨by rw [← HR.out]; simp [chkHead], rfl⟩⟩
  by_cases e1 : k = 1
  · subst e1
    go_enter Tryd.func31, Tryd.ntmps31
    go_wp2_with fail
    go_ret
    exact ⟨hb0, .inl ⟨by rw [← HR.out]; simp [chkHead], rfl⟩⟩
  by_cases e2 : k = 2
  · subst e2
    by_cases g1 : n < -9007199254740991
    · go_enter Tryd.func31, Tryd.ntmps31
      go_wp2_with fail
      go_ret
      exact ⟨hb0, .inr ⟨[], 4, _, by rw [← HR.out]; simp [chkHead, g1], rfl, rfl⟩⟩
    by_cases g2 : 9007199254740991 < n
    · go_enter Tryd.func31, Tryd.ntmps31
      go_wp2_with fail
      go_ret
      exact ⟨hb0, .inr ⟨[], 4, _, by rw [← HR.out]; simp [chkHead, g2], rfl, rfl⟩⟩
    · go_enter Tryd.func31, Tryd.ntmps31
      go_wp2_with fail
      go_ret
      exact ⟨hb0, .inl ⟨by rw [← HR.out, chkHead, if_neg (by omega), if_pos rfl, if_neg (by omega)], rfl⟩⟩
  by_cases e3 : k = 3
  · subst e3
    have hva := Lib.hid (valid_any t _ (by omega) (hG.below hb0))
    cases hB' : validB t
    all_goals
      rw [hB'] at hva
      have HB := Lib.hid hB'
      clear hB'
      go_enter Tryd.func31, Tryd.ntmps31
      go_wp2_with fail
      refine hva.out.mono ?_
      rintro e w1 ⟨rfl, hb1⟩
      go_wp2_with fail
      go_ret
    · exact ENDS.out (some ([], 5)) _ _ ⟨hb1, .inr ⟨[], 5, _, rfl, rfl, rfl⟩⟩ (by rw [← HR.out]; simp [chkHead, HB.out])
    · exact ENDS.out none _ _ ⟨hb1, .inl ⟨rfl, rfl⟩⟩ (by rw [← HR.out]; simp [chkHead, HB.out])
  by_cases e4 : k = 4
  · subst e4
    go_enter Tryd.func31, Tryd.ntmps31
    go_wp2_with fail
    refine CL.out.mono ?_
    rintro e w1 ha
    have HA := Lib.hid ha
    obtain ⟨hb1, ⟨hn, rfl⟩ | ⟨p, c', v, hs, rfl, hch⟩⟩ := ha
    · go_wp2_with fail
      go_ret
      exact ENDS.out _ _ _ HA.out (by rw [← HR.out]; simp [chkHead])
    · obtain ⟨T, x, rfl⟩ := hch.held
      clear hch hs
      go_wp2_with fail
      go_ret
      exact ENDS.out _ _ _ HA.out (by rw [← HR.out]; simp [chkHead])
  by_cases e5 : k = 5
  · subst e5
    go_enter Tryd.func31, Tryd.ntmps31
    go_wp2_with fail
    refine CM.out.mono ?_
    rintro e w1 ha
    have HA := Lib.hid ha
    obtain ⟨hb1, ⟨hn, rfl⟩ | ⟨p, c', v, hs, rfl, hch⟩⟩ := ha
    · go_wp2_with fail
      go_ret
      exact ENDS.out _ _ _ HA.out (by rw [← HR.out]; simp [chkHead])
    · obtain ⟨T, x, rfl⟩ := hch.held
      clear hch hs
      go_wp2_with fail
      go_ret
      exact ENDS.out _ _ _ HA.out (by rw [← HR.out]; simp [chkHead])
  · have k0 : (k == 0) = false := beq_eq_false_iff_ne.2 e0
    have k1 : (k == 1) = false := beq_eq_false_iff_ne.2 e1
    have k2 : (k == 2) = false := beq_eq_false_iff_ne.2 e2
    have k3 : (k == 3) = false := beq_eq_false_iff_ne.2 e3
    have k4 : (k == 4) = false := beq_eq_false_iff_ne.2 e4
    have k5 : (k == 5) = false := beq_eq_false_iff_ne.2 e5
    have HE := Lib.hid (And.intro e0 (And.intro e1 (And.intro e2 (And.intro e3 (And.intro e4 e5)))))
    clear e0 e1 e2 e3 e4 e5
    go_enter Tryd.func31, Tryd.ntmps31
    go_wp2_with fail
    go_ret
    refine ⟨hb0, .inr ⟨[], 9, _, ?_, rfl, rfl⟩⟩
    obtain ⟨e0, e1, e2, e3, e4, e5⟩ := HE.out
    rw [← HR.out, chkHead, if_neg (by omega), if_neg e2, if_neg e3, if_neg e4, if_neg e5]

theorem check_any : ∀ d, d ≤ 20 → CheckSaid d
  | 0, _ => fun v cs B w hv hB hG => by
    rw [chk]
    exact check_head _ _ 0 (by omega) (by omega) v cs B w hv hG (fun l A c w' hb _ _ => checkList_deep A _ c w') (fun m A c w' hb _ _ _ => checkMap_deep A _ c w')
  | d + 1, hd => fun v cs B w hv hB hG => by
    have ih := check_any d (by omega)
    have e : (20 : Int) - ((d + 1 : Nat) : Int) + 1 = 20 - (d : Int) := by omega
    rw [chk]
    refine check_head _ _ ((d + 1 : Nat) : Int) (by omega) (by omega) v cs B w hv hG (fun l A c w' hb hl hn => ?_) (fun m A c w' hb hm hn hc => ?_)
    · rw [e]; exact checkList_any d (by omega) ih l A c B w' (hl.keep (fun p hp => hb.cell (Nat.lt_of_lt_of_le hp hB)) (fun _ h => h)) hn (Nat.le_trans hB hb.size) (hG.below hb)
    · rw [e]; exact checkMap_any d (by omega) ih m A c B w' (hm.keep (fun p hp => hb.cell (Nat.lt_of_lt_of_le hp hB)) (fun _ h => h)) hn hc (Nat.le_trans hB hb.size) (hG.below hb)

theorem Check_any (v : V) (cs : Array Value) (B : Nat) (w : World) (hv : Val w (· < B) 1000000 v cs) (hB : B ≤ w.heap.size) (hG : Glob w) :
    Calls Tryd.prog 16 #[.agg cs] w (Ans (chk 20 v) w) := by
  have HV := Lib.hid hv
  cases v with
  | mk k y n t l m =>
  rw [Val] at hv
  obtain ⟨A1, c1, A2, c2, rfl, -, -, -⟩ := hv
  have hb0 : Below w.heap.size w (w.alloc (.cells #[.int .i64 k, .bool y, .int .i64 n, .string t, .slice A1 l.length c1, .slice A2 m.length c2] 39)) := (Below.refl _ _).alloc (Nat.le_refl _) _
  have hc := Lib.hid (check_any 20 (by omega) _ _ B _ (HV.out.keep (fun p hp => hb0.cell (Nat.lt_of_lt_of_le hp hB)) (fun _ h => h)) (by simp; omega) (hG.below hb0))
  generalize chk 20 (.mk k y n t l m) = R at hc ⊢
  go_enter Tryd.func16, Tryd.ntmps16
  go_wp2_with fail
  refine hc.out.mono ?_
  rintro e w1 ha
  have HA := Lib.hid ha
  obtain ⟨hb1, ⟨hn, rfl⟩ | ⟨p, c', v, hs, rfl, hch⟩⟩ := ha
  · clear hn
    go_wp2_with fail
    go_ret
    exact ⟨hb0.trans (hb1.mono (by simp)), HA.out.2⟩
  · obtain ⟨T, x, rfl⟩ := hch.held
    clear hch hs
    go_wp2_with fail
    go_ret
    exact ⟨hb0.trans (hb1.mono (by simp)), HA.out.2⟩
end Go.Proofs.YtpehddbpingobaaDoor
