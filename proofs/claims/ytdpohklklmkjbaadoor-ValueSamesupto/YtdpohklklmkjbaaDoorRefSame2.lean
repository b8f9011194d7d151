/-
  The document's Same, walked: maps, the kinds without parts, and together.
-/
import Derived.Test.YtdpohklklmkjbaaDoorRefSame
import Derived.Test.YtdpohklklmkjbaaDoorMem2
namespace Go.Proofs.YtdpohklklmkjbaaDoor
open Go.RowKit Go.Lib
set_option linter.unusedVariables false
set_option linter.unusedSimpArgs false

set_option maxRecDepth 100000 in
set_option maxHeartbeats 4000000 in
/-- Maps. -/
theorem refsame_map (n : Nat) (ih : SameSaid n) (y y' : Bool) (m m' : Int) (t t' : ByteArray) (l l' : List V) (mp mp' : List (ByteArray × V)) (A1 A2 A3 A4 : Option Addr) (c1 c2 c3 c4 B : Nat) (w : World) (hw : wgtM mp ≤ n) (hn : n ≤ 1000000) (hv : ValM w (· < B) 1000000 mp A2 0) (hv' : ValM w (· < B) 1000000 mp' A4 0) (hl : mp.length ≤ 1000000) (hl' : mp'.length ≤ 1000000) (hc1 : mp.length ≤ c2) (hc3 : mp'.length ≤ c4) (hB : B ≤ w.heap.size) :
    Calls Tryd.prog 25 #[.agg #[.int .i64 5, .bool y, .int .i64 m, .string t, .slice A1 l.length c1, .slice A2 mp.length c2], .agg #[.int .i64 5, .bool y', .int .i64 m', .string t', .slice A3 l'.length c3, .slice A4 mp'.length c4]] w fun e w' => e = .returned (.bool (sameM mp mp')) ∧ Below w.heap.size w w' := by
  have hb0 : ∀ o o', Below w.heap.size w ((w.alloc o).alloc o') := fun o o' => ((Below.refl _ _).alloc (Nat.le_refl _) _).alloc (by simp) _
  obtain ⟨R, hR⟩ : ∃ R, sameM mp mp' = R := ⟨_, rfl⟩
  rw [hR]
  have HR := Lib.hid hR
  have HV := Lib.hid (And.intro hv (And.intro hv' hw))
  clear hR hv hv' hw
  by_cases hlen : mp.length = mp'.length
  · have hlb : ((mp.length : Int) != (mp'.length : Int)) = false := by simp [hlen]
    have hle : mp.length ≤ mp'.length := by omega
    have HL := Lib.hid hlen
    clear hlen
    go_enter Tryd.func25, Tryd.ntmps25
    go_wp2_with fail
    go_loopg [75] mp.length (SameRelM w mp mp' #[.int .i64 5, .bool y, .int .i64 m, .string t, .slice A1 l.length c1, .slice A2 mp.length c2] #[.int .i64 5, .bool y', .int .i64 m', .string t', .slice A3 l'.length c3, .slice A4 mp'.length c4])
    case atStart =>
      refine ⟨0, by simp, rfl, (Whole.made w _ _).alloc _, ?_, rfl, hb0 _ _⟩
      have := Whole.made (w.alloc (.cells #[.int .i64 5, .bool y, .int .i64 m, .string t, .slice A1 l.length c1, .slice A2 mp.length c2] 25)) 25 #[.int .i64 5, .bool y', .int .i64 m', .string t', .slice A3 l'.length c3, .slice A4 mp'.length c4]
      simpa using this
    case round =>
      obtain ⟨j, hk, rfl, hbox, hbox', hrest, hb⟩ := hrel
      have b4 := hbox.cell 5
      have d4 := hbox'.cell 5
      simp at b4 d4
      have hz : w.heap.size + 1 < wr.heap.size := hbox'.lt
      by_cases hlt : j < mp.length
      · have hlt' : j < mp'.length := by omega
        obtain ⟨b, off, cs, rfl, hbB, hsM, hkc, hc, hx⟩ := HV.out.1.get j hlt
        obtain ⟨b', off', cs', rfl, hbB', hsM', hkc', hc', hx'⟩ := HV.out.2.1.get j hlt'
        obtain ⟨cj, rfl⟩ := hx.c6
        obtain ⟨cj', rfl⟩ := hx'.c6
        obtain ⟨s, hs⟩ : ∃ s, mp[j].1 = s := ⟨_, rfl⟩
        obtain ⟨s', hs'⟩ : ∃ s', mp'[j].1 = s' := ⟨_, rfl⟩
        rw [hs] at hkc
        rw [hs'] at hkc'
        have hck : wr.cell? ⟨b, off + j * 7, none⟩ = some (.string s) := (hb.cell (p := ⟨b, off + j * 7, none⟩) (by simp; omega)).trans (by simpa using hkc)
        have hck' : wr.cell? ⟨b', off' + j * 7, none⟩ = some (.string s') := (hb.cell (p := ⟨b', off' + j * 7, none⟩) (by simp; omega)).trans (by simpa using hkc')
        have hcj : ∀ q, q < 6 → wr.cell? ⟨b, off + j * 7 + (1 + q), none⟩ = cj.arr[q]? := fun q hq => (hb.cell (p := ⟨b, off + j * 7 + (1 + q), none⟩) (by simp; omega)).trans (by simpa using hc q hq)
        have hcj' : ∀ q, q < 6 → wr.cell? ⟨b', off' + j * 7 + (1 + q), none⟩ = cj'.arr[q]? := fun q hq => (hb.cell (p := ⟨b', off' + j * 7 + (1 + q), none⟩) (by simp; omega)).trans (by simpa using hc' q hq)
        obtain ⟨xk, x0, x1, x2, x3, x4, x5⟩ := cells7 hck hcj rfl
        obtain ⟨yk, y0, y1, y2, y3, y4, y5⟩ := cells7 hck' hcj' rfl
        have hwj : wgt mp[j].2 ≤ n := by
          have h1 := HV.out.2.2
          have h2 := wgtM_le mp (j + 1)
          rw [wgtM_take mp j hlt] at h2
          omega
        have hcall := fun W (hW : Below w.heap.size w W) => ih mp[j].2 mp'[j].2 cj.arr cj'.arr B W hwj hn (hx.keep (fun p hp => hW.cell (Nat.lt_of_lt_of_le hp hB)) (fun _ h => h)) (hx'.keep (fun p hp => hW.cell (Nat.lt_of_lt_of_le hp hB)) (fun _ h => h)) (Nat.le_trans hB hW.size)
        have hstep := sameM_drop hlt hlt'
        rw [hs, hs'] at hstep
        have hj1 : (j : Int) < (mp.length : Int) := by omega
        have hj2 : (j : Int) < (mp'.length : Int) := by omega
        have hj0 : (0 : Int) ≤ (j : Int) := by omega
        have hbr : b < wr.heap.size := lt_of_cell xk
        have hbr' : b' < wr.heap.size := lt_of_cell yk
        have hz1 : w.heap.size < wr.heap.size := by omega
        obtain ⟨S, hS⟩ : ∃ S, same mp[j].2 mp'[j].2 = S := ⟨_, rfl⟩
        rw [hS] at hcall hstep
        cases hsk : (s.toList == s'.toList)
        · have hne : (s.toList != s'.toList) = true := by simp only [bne, hsk]; rfl
          rw [hsk] at hstep
          have hRR : R = false := by rw [← HR.out, ← hrest, hstep]; rfl
          have HB := Lib.hid (And.intro hb hRR)
          clear hcall hstep hk hbox hbox' hrest hb hcj hcj' hc hc' hx hx' hwj hS hRR hs hs' hkc hkc' hck hck'
          go_wp2_with fail
          go_quiet (fail)
          go_wp2_with fail
          go_ret
          exact ⟨by rw [HB.out.2]; rfl, below_drewN HB.out.1 _⟩
        · have hne : (s.toList != s'.toList) = false := by simp only [bne, hsk]; rfl
          rw [hsk] at hstep
          have HC := Lib.hid (And.intro hcall (And.intro hstep (And.intro hk (And.intro hbox (And.intro hbox' (And.intro hrest hb))))))
          clear hcall hstep hk hbox hbox' hrest hb hcj hcj' hc hc' hx hx' hwj hS hs hs' hkc hkc' hck hck'
          obtain ⟨jk, jy, jn, jt, ja, jla, jca, jb, jlb, jcb⟩ := cj
          obtain ⟨qk, qy, qn, qt, qa, qla, qca, qb, qlb, qcb⟩ := cj'
          dsimp only [C6.arr] at x0 x1 x2 x3 x4 x5 y0 y1 y2 y3 y4 y5 HC
          cases S
          · go_wp2_with fail
            go_region_held3 (fun w' => w'.cell? ⟨w.heap.size, 5, none⟩ = some (.slice (some ⟨b, off, none⟩) mp.length c2) ∧ w'.cell? ⟨w.heap.size + 1, 5, none⟩ = some (.slice (some ⟨b', off', none⟩) mp'.length c4) ∧ w'.cell? ⟨b, off + j * 7, none⟩ = some (.string s) ∧ w'.cell? ⟨b, off + j * 7 + 1, none⟩ = some (.int .i64 jk) ∧ w'.cell? ⟨b, off + j * 7 + 2, none⟩ = some (.bool jy) ∧ w'.cell? ⟨b, off + j * 7 + 3, none⟩ = some (.int .i64 jn) ∧ w'.cell? ⟨b, off + j * 7 + 4, none⟩ = some (.string jt) ∧ w'.cell? ⟨b, off + j * 7 + 5, none⟩ = some (.slice ja jla jca) ∧ w'.cell? ⟨b, off + j * 7 + 6, none⟩ = some (.slice jb jlb jcb) ∧ w'.cell? ⟨b', off' + j * 7, none⟩ = some (.string s') ∧ w'.cell? ⟨b', off' + j * 7 + 1, none⟩ = some (.int .i64 qk) ∧ w'.cell? ⟨b', off' + j * 7 + 2, none⟩ = some (.bool qy) ∧ w'.cell? ⟨b', off' + j * 7 + 3, none⟩ = some (.int .i64 qn) ∧ w'.cell? ⟨b', off' + j * 7 + 4, none⟩ = some (.string qt) ∧ w'.cell? ⟨b', off' + j * 7 + 5, none⟩ = some (.slice qa qla qca) ∧ w'.cell? ⟨b', off' + j * 7 + 6, none⟩ = some (.slice qb qlb qcb))
              (first | go_keep | (go_split_ands; refine ⟨?_, ?_, ?_, ?_, ?_, ?_, ?_, ?_, ?_, ?_, ?_, ?_, ?_, ?_, ?_, ?_⟩ <;> (refine (hb2.cell ?_).trans ?_ <;> assumption)))
              (first
                | (go_at_call 25; refine (HC.out.1 _ ?_).mono ?_; (first | exact HC.out.2.2.2.2.2.2 | exact HC.out.2.2.2.2.2.2.drew); rintro e W2 ⟨rfl, hb2⟩))
            go_wp2_with fail
            go_ret
            obtain ⟨-, hstep, hk, hbox, hbox', hrest, hb⟩ := HC.out
            have hRR : R = false := by rw [← HR.out, ← hrest, hstep]; rfl
            exact ⟨by rw [hRR]; rfl, hb.trans ((((Below.refl wr.heap.size wr).drew).trans hb2).mono hb.size)⟩
          · go_wp2_with fail
            go_region_held3 (fun w' => w'.cell? ⟨w.heap.size, 5, none⟩ = some (.slice (some ⟨b, off, none⟩) mp.length c2) ∧ w'.cell? ⟨w.heap.size + 1, 5, none⟩ = some (.slice (some ⟨b', off', none⟩) mp'.length c4) ∧ w'.cell? ⟨b, off + j * 7, none⟩ = some (.string s) ∧ w'.cell? ⟨b, off + j * 7 + 1, none⟩ = some (.int .i64 jk) ∧ w'.cell? ⟨b, off + j * 7 + 2, none⟩ = some (.bool jy) ∧ w'.cell? ⟨b, off + j * 7 + 3, none⟩ = some (.int .i64 jn) ∧ w'.cell? ⟨b, off + j * 7 + 4, none⟩ = some (.string jt) ∧ w'.cell? ⟨b, off + j * 7 + 5, none⟩ = some (.slice ja jla jca) ∧ w'.cell? ⟨b, off + j * 7 + 6, none⟩ = some (.slice jb jlb jcb) ∧ w'.cell? ⟨b', off' + j * 7, none⟩ = some (.string s') ∧ w'.cell? ⟨b', off' + j * 7 + 1, none⟩ = some (.int .i64 qk) ∧ w'.cell? ⟨b', off' + j * 7 + 2, none⟩ = some (.bool qy) ∧ w'.cell? ⟨b', off' + j * 7 + 3, none⟩ = some (.int .i64 qn) ∧ w'.cell? ⟨b', off' + j * 7 + 4, none⟩ = some (.string qt) ∧ w'.cell? ⟨b', off' + j * 7 + 5, none⟩ = some (.slice qa qla qca) ∧ w'.cell? ⟨b', off' + j * 7 + 6, none⟩ = some (.slice qb qlb qcb))
              (first | go_keep | (go_split_ands; refine ⟨?_, ?_, ?_, ?_, ?_, ?_, ?_, ?_, ?_, ?_, ?_, ?_, ?_, ?_, ?_, ?_⟩ <;> (refine (hb2.cell ?_).trans ?_ <;> assumption)))
              (first
                | (go_at_call 25; refine (HC.out.1 _ ?_).mono ?_; (first | exact HC.out.2.2.2.2.2.2 | exact HC.out.2.2.2.2.2.2.drew); rintro e W2 ⟨rfl, hb2⟩))
            have HB := Lib.hid (((Below.refl wr.heap.size wr).drew).trans hb2)
            clear hb2
            go_wp2_with fail
            go_roundg (mp.length - (j + 1))
            case rel =>
              obtain ⟨-, hstep, hk, hbox, hbox', hrest, hb⟩ := HC.out
              refine ⟨j + 1, by omega, by go_num, hbox.below HB.out hbox.lt, hbox'.below HB.out hbox'.lt, ?_, hb.trans (HB.out.mono hb.size)⟩
              rw [← hrest, hstep]; rfl
            case measure => have := HC.out.2.2.1; omega
      · have hjl : j = mp.length := by omega
        subst hjl
        have HX := Lib.hid (And.intro hrest hb)
        clear hrest hb hbox hbox' hk
        go_wp2_with fail
        go_ret
        have hRR : R = true := by
          rw [← HR.out, ← HX.out.1, List.drop_of_length_le (Nat.le_refl _), List.drop_of_length_le (by have := HL.out; omega)]
          rfl
        exact ⟨by rw [hRR]; rfl, HX.out.2⟩
  · have hlb : ((mp.length : Int) != (mp'.length : Int)) = true := by simp; omega
    have hRR : R = false := by rw [← HR.out]; exact sameM_len hlen
    subst hRR
    clear hlen HV HR ih
    go_enter Tryd.func25, Tryd.ntmps25
    go_wp2_with fail
    go_ret
    exact ⟨rfl, hb0 _ _⟩
set_option maxRecDepth 100000 in
set_option maxHeartbeats 4000000 in
/-- Values of unlike kinds, and kinds without parts. -/
theorem refsame_plain (k k' : Int) (y y' : Bool) (m m' : Int) (t t' : ByteArray) (l l' : List V) (mp mp' : List (ByteArray × V)) (a1 a2 a3 a4 : Value) (w : World) (h : k ≠ k' ∨ (k ≠ 4 ∧ k ≠ 5)) :
    Calls Tryd.prog 25 #[.agg #[.int .i64 k, .bool y, .int .i64 m, .string t, a1, a2], .agg #[.int .i64 k', .bool y', .int .i64 m', .string t', a3, a4]] w fun e w' => e = .returned (.bool (same (.mk k y m t l mp) (.mk k' y' m' t' l' mp'))) ∧ Below w.heap.size w w' := by
  have hb0 : ∀ o o', Below w.heap.size w ((w.alloc o).alloc o') := fun o o' => ((Below.refl _ _).alloc (Nat.le_refl _) _).alloc (by simp) _
  obtain ⟨R, hR⟩ : ∃ R, same (.mk k y m t l mp) (.mk k' y' m' t' l' mp') = R := ⟨_, rfl⟩
  rw [hR]
  rw [same] at hR
  by_cases hkk : k = k'
  · subst hkk
    have hk45 : k ≠ 4 ∧ k ≠ 5 := by
      rcases h with h | h
      · exact absurd rfl h
      · exact h
    rw [show (k == k) = true by simp, Bool.true_and] at hR
    have hnb : (k != k) = false := by simp
    by_cases k1 : k = 1
    · subst k1
      rw [if_pos rfl] at hR
      subst hR
      clear h hk45
      go_enter Tryd.func25, Tryd.ntmps25
      go_wp2_with fail
      go_ret
      exact ⟨by simp, hb0 _ _⟩
    rw [if_neg k1] at hR
    by_cases k2 : k = 2
    · subst k2
      rw [if_pos rfl] at hR
      subst hR
      clear h hk45
      go_enter Tryd.func25, Tryd.ntmps25
      go_wp2_with fail
      go_ret
      exact ⟨by simp, hb0 _ _⟩
    rw [if_neg k2] at hR
    by_cases k3 : k = 3
    · subst k3
      rw [if_pos rfl] at hR
      subst hR
      clear h hk45
      go_enter Tryd.func25, Tryd.ntmps25
      go_wp2_with fail
      go_ret
      exact ⟨by simp, hb0 _ _⟩
    rw [if_neg k3, if_neg hk45.1, if_neg hk45.2] at hR
    subst hR
    have e1 : (k == 1) = false := beq_eq_false_iff_ne.2 k1
    have e2 : (k == 2) = false := beq_eq_false_iff_ne.2 k2
    have e3 : (k == 3) = false := beq_eq_false_iff_ne.2 k3
    have e4 : (k == 4) = false := beq_eq_false_iff_ne.2 hk45.1
    have e5 : (k == 5) = false := beq_eq_false_iff_ne.2 hk45.2
    clear h hk45 k1 k2 k3
    go_enter Tryd.func25, Tryd.ntmps25
    go_wp2_with fail
    go_ret
    exact ⟨rfl, hb0 _ _⟩
  · have hnb : (k != k') = true := by simpa using hkk
    rw [show (k == k') = false by simpa using hkk, Bool.false_and] at hR
    subst hR
    clear h hkk
    go_enter Tryd.func25, Tryd.ntmps25
    go_wp2_with fail
    go_ret
    exact ⟨rfl, hb0 _ _⟩

theorem refsame_any : ∀ n, SameSaid n
  | 0 => fun v v' cs cs' B w hw _ _ _ _ => by have := wgt_pos v; omega
  | n + 1 => fun v v' cs cs' B w hw hn hv hv' hB => by
    have ih := refsame_any n
    cases v with
    | mk k y m t l mp =>
    cases v' with
    | mk k' y' m' t' l' mp' =>
    rw [wgt] at hw
    rw [Val] at hv hv'
    obtain ⟨A1, c1, A2, c2, rfl, ⟨h1c, h2c, ht, hl, hm, -, -⟩, hvl, hvm⟩ := hv
    obtain ⟨A3, c3, A4, c4, rfl, ⟨h3c, h4c, ht', hl', hm', -, -⟩, hvl', hvm'⟩ := hv'
    by_cases hkk : k = k'
    · subst hkk
      by_cases k4 : k = 4
      · subst k4
        have e : same (.mk 4 y m t l mp) (.mk 4 y' m' t' l' mp') = sameL l l' := by simp [same]
        rw [e]
        exact refsame_list n ih y y' m m' t t' l l' mp mp' A1 A2 A3 A4 c1 c2 c3 c4 B w (by omega) (by omega) hvl hvl' hl hl' h1c h3c hB
      by_cases k5 : k = 5
      · subst k5
        have e : same (.mk 5 y m t l mp) (.mk 5 y' m' t' l' mp') = sameM mp mp' := by simp [same]
        rw [e]
        exact refsame_map n ih y y' m m' t t' l l' mp mp' A1 A2 A3 A4 c1 c2 c3 c4 B w (by omega) (by omega) hvm hvm' hm hm' h2c h4c hB
      exact refsame_plain k k y y' m m' t t' l l' mp mp' _ _ _ _ w (.inr ⟨k4, k5⟩)
    · exact refsame_plain k k' y y' m m' t t' l l' mp mp' _ _ _ _ w (.inl hkk)
end Go.Proofs.YtdpohklklmkjbaaDoor
