/-
  ValueTexts, walked: it answers true, whatever the texts.
-/
import Derived.Test.YtdpohklklmkjbaaDoorLawTexts1
import Derived.Lib.ItoaLen
namespace Go.Proofs.YtdpohklklmkjbaaDoor
open Go.RowKit Go.Lib
set_option linter.unusedVariables false
set_option linter.unusedSimpArgs false

theorem Only.refl (g : Nat) (w : World) : Only g w w := ⟨Nat.le_refl _, fun _ _ _ => rfl, fun _ _ h _ _ => h⟩
theorem Only.step {g : Nat} {w w' w2 : World} (h : Only g w w') (hb : Below w'.heap.size w' w2) : Only g w w2 :=
  ⟨Nat.le_trans h.1 hb.size, fun k hk hg => (hb.block k (Nat.lt_of_lt_of_le hk h.1)).trans (h.2.1 k hk hg), fun B W h1 h2 h3 => (h.2.2 B W h1 h2 h3).trans (hb.mono (Nat.le_trans h3 h.1))⟩
theorem Only.put {g : Nat} {w w' : World} (h : Only g w w') (q : Nat) (v : Value) : Only g w (w'.setCell ⟨g, q, none⟩ v) :=
  ⟨by simpa [World.setCell] using h.1, fun k hk hg => (Below.heap_setCell w' ⟨g, q, none⟩ v k (by simpa using hg)).trans (h.2.1 k hk hg), fun B W h1 h2 h3 => (h.2.2 B W h1 h2 h3).setCell (by simpa using h2) _⟩
theorem Only.cell {g : Nat} {w w' : World} (h : Only g w w') {p : Addr} (hp : p.block < w.heap.size) (hg : p.block ≠ g) : w'.cell? p = w.cell? p := World.cell?_of_block (h.2.1 _ hp hg)

theorem itoaB_small (n : Nat) (h : n ≤ 1000000000) : (itoaB n).size ≤ 1000 := by
  have := Lib.itoa_length_le (n : Int) (by omega) (by omega)
  unfold itoaB
  simp only [ByteArray.size, List.size_toArray]
  omega
/-- The loop: the first j texts were read; what is wanted lies in block g4. -/
def LTRel (W0 : World) (ss : List ByteArray) (g4 : Nat) (k : Nat) (i : Value) (wr : World) : Prop :=
  ∃ (j : Nat) (b : Option Nat), j + k = ss.length ∧ i = .int .i64 j ∧ FirstBad ss j b ∧ (∀ i (h : i < ss.length), i < j → ss[i].size ≤ 200) ∧ EBlk wr g4 (badCode b) (-1) (badPath b) ∧ Only g4 W0 wr

/-- Check of the list, and Tell of its answer. -/
theorem checkTell_list (ss : List ByteArray) (b : Option Nat) (cs : Array Value) (wr : World) (hval : Val wr (· < wr.heap.size) 1000000 (listV ss) cs) (hG : Glob wr) (hchk : chk 20 (listV ss) = b.map fun i => ([itoaB i], 5)) (hb : ∀ i, b = some i → i ≤ 1000000000) :
    ∀ W, Below wr.heap.size wr W → Calls Tryd.prog 12 #[.agg cs] W fun e W3 => ∃ v, e = .returned v ∧ Below wr.heap.size wr W3 ∧
      Calls Tryd.prog 11 #[v] W3 fun e W4 => e = .returned (.agg #[.int .i64 (badCode b), .int .i64 (-1), .string (badPath b)]) ∧ Below W3.heap.size W3 W4 := fun W hW => by
  refine (Check_any _ _ wr.heap.size W (hval.keep (fun p hp => hW.cell hp) (fun _ h => h)) hW.size (hG.below hW)).mono ?_
  rw [hchk]
  rintro e W3 ⟨hb3, hans⟩
  have hb3' := hW.trans (hb3.mono hW.size)
  cases b with
  | none =>
    rcases hans with ⟨_, rfl⟩ | ⟨p, c, v, h, he, hc⟩
    · exact ⟨_, rfl, hb3', tell_nil W3⟩
    · cases h
  | some i =>
    rcases hans with ⟨h, _⟩ | ⟨p, c, v, h, he, hc⟩
    · cases h
    · simp only [Option.map_some, Option.some.injEq, Prod.mk.injEq] at h
      obtain ⟨e1, e2⟩ := h
      subst e1 e2
      refine ⟨v, he, hb3', ?_⟩
      have := tell_chain _ 5 v W3 hc (hG.below hb3').1 (by have := itoaB_small i (hb i rfl); simp [chainLen]; omega)
      rw [tell_list] at this
      exact this

set_option maxRecDepth 100000 in
set_option maxHeartbeats 4000000 in
theorem lawTexts_any (ss : List ByteArray) (A : Option Addr) (c : Nat) (w : World) (hA : Strs w ss A) (hG : Glob w) (hb9 : ss.length ≤ 9223372036854775807) (hss : ∀ i (h : i < ss.length), ss[i].size ≤ 9223372036854775807) :
    Calls Tryd.prog 8 #[.slice A ss.length c] w fun e w' => e = .returned (.bool true) ∧ Below w.heap.size w w' := by
  have HG := Lib.hid (And.intro hG (And.intro hA hss))
  clear hG hA hss
  by_cases h50 : (50 : Int) < (ss.length : Int)
  · go_enter Tryd.func8, Tryd.ntmps8
    go_wp2_with fail
    refine (awake_any w HG.out.1).mono ?_
    rintro e W1 ⟨rfl, hb1⟩
    go_wp2_with fail
    refine (awake_any W1 (HG.out.1.below hb1)).mono ?_
    rintro e W2 ⟨rfl, hb2⟩
    go_wp2_with fail
    go_ret
    exact ⟨rfl, hb1.trans (hb2.mono hb1.size)⟩
  · have hd : decide ((50 : Int) < (ss.length : Int)) = false := decide_eq_false h50
    have hl : ss.length ≤ 50 := by omega
    clear h50
    go_enter Tryd.func8, Tryd.ntmps8
    go_wp2_with fail
    refine (awake_any w HG.out.1).mono ?_
    rintro e W1 ⟨rfl, hb1⟩
    go_wp2_with fail
    refine (texts_any ss A c W1 (HG.out.2.1.below hb1) (by omega)).mono ?_
    rintro e W2 ⟨⟨v, rfl, hown⟩, hb2⟩
    obtain ⟨a, ca, rfl⟩ : ∃ a ca, v = .slice a ss.length ca := by
      rcases Go.Joins.ownsRow_forms hown with ⟨rfl, h0⟩ | ⟨g, cap, rfl⟩
      · exact ⟨none, 0, by rw [h0]⟩
      · exact ⟨_, _, rfl⟩
    have hbw2 : Below w.heap.size w W2 := hb1.trans (hb2.mono hb1.size)
    have hz2 : w.heap.size ≤ W2.heap.size := hbw2.size
    have HX := Lib.hid (And.intro hbw2 hown)
    clear hb1 hb2 hbw2 hown
    go_wp2_with fail
    refine (none_any _).mono ?_
    rintro e W3 ⟨rfl, hb3⟩
    have hb3' : Below W2.heap.size W2 W3 := ((Below.refl _ _).alloc (Nat.le_refl _) _).trans (hb3.mono (by simp))
    have hW3 : Whole W3 W2.heap.size 38 #[.int .i64 4, .bool false, .int .i64 0, .string ⟨#[]⟩, .slice a ss.length ca, .slice none 0 0] := (Whole.made W2 _ _).below hb3 (by simp)
    have hz3 : W2.heap.size < W3.heap.size := hW3.lt
    have HP := Lib.hid (And.intro hb3' hW3)
    clear hb3 hb3' hW3
    go_wp2_with fail
    obtain ⟨W4, hW4⟩ : ∃ W4, W3.alloc (.cells #[.int .i64 0, .int .i64 (-1), .string ⟨#[]⟩] 29) = W4 := ⟨_, rfl⟩
    rw [hW4]
    obtain ⟨hb3', hW3⟩ := HP.out
    have hb4 : Below W3.heap.size W3 W4 := hW4 ▸ (Below.refl _ _).alloc (Nat.le_refl _) _
    have hW43 := hW3.below hb4 hW3.lt
    have hE4 : EBlk W4 W3.heap.size 0 (-1) ⟨#[]⟩ := by
      have := Whole.made W3 29 #[.int .i64 0, .int .i64 (-1), .string ⟨#[]⟩]
      rw [hW4] at this
      exact ⟨⟨this.cell 0, this.cell 1, this.cell 2⟩, this.frozen 0, this.frozen 1, this.frozen 2⟩
    have hz4 : W3.heap.size < W4.heap.size := hE4.lt
    have hown4 := own_below (own_below HX.out.2 hb3') hb4
    have hbw4 : Below w.heap.size w W4 := HX.out.1.trans ((hb3'.trans (hb4.mono hb3'.size)).mono hz2)
    have HY := Lib.hid (And.intro hW43 (And.intro hE4 (And.intro hown4 hbw4)))
    clear hb3' hW3 hb4 hW43 hE4 hown4 hbw4 hW4 HP
    go_loopg [31] ss.length (LTRel W4 ss W3.heap.size)
    case atStart => exact ⟨0, none, by simp, rfl, fun i h h0 => absurd h0 (by omega), fun i h h0 => absurd h0 (by omega), HY.out.2.1, Only.refl _ _⟩
    case round =>
      obtain ⟨j, b, hk, rfl, hfb, hsm, hE, ho⟩ := hrel
      have hW := HY.out.1
      have c0 := (ho.cell (p := ⟨W2.heap.size, 0, none⟩) (show W2.heap.size < W4.heap.size by omega) (show W2.heap.size ≠ W3.heap.size by omega)).trans (hW.cell 0)
      have c4 := (ho.cell (p := ⟨W2.heap.size, 4, none⟩) (show W2.heap.size < W4.heap.size by omega) (show W2.heap.size ≠ W3.heap.size by omega)).trans (hW.cell 4)
      simp at c0 c4
      clear hW
      by_cases hlt : j < ss.length
      · have hne : ss ≠ [] := fun e => by subst e; simp at hlt
        obtain ⟨sb, off, rfl, hsb, hsc⟩ := HG.out.2.1 hne
        obtain ⟨s, hs⟩ : ∃ s, ss[j] = s := ⟨_, rfl⟩
        have hss := HG.out.2.2 j hlt
        have hcs : wr.cell? ⟨sb, off + j, none⟩ = some (.string s) := by
          rw [← hs, ← hsc j hlt, ho.cell (p := ⟨sb, off + j, none⟩) (show sb < W4.heap.size by omega) (show sb ≠ W3.heap.size by omega)]
          exact HY.out.2.2.2.cell hsb
        rw [hs] at hss
        obtain ⟨g, rfl, hgc, hk3, ht3⟩ : ∃ g, a = some ⟨g, 0, none⟩ ∧ g < W2.heap.size ∧ wr.cell? ⟨g, j * 6, none⟩ = some (.int .i64 3) ∧ wr.cell? ⟨g, j * 6 + 3, none⟩ = some (.string s) := by
          have hown := HX.out.2
          have hown4 := HY.out.2.2.1
          rcases Go.Joins.ownsRow_forms hown with ⟨-, h0⟩ | ⟨g, cap, e⟩
          · omega
          · injection e with e1 e2 e3
            subst e1 e3
            have hg2 : g < W2.heap.size := (hown.lt g rfl).2
            refine ⟨g, rfl, hg2, ?_, ?_⟩
            · rw [ho.cell (p := ⟨g, j * 6, none⟩) (show g < W4.heap.size by omega) (show g ≠ W3.heap.size by omega), show j * 6 = j * 6 + 0 from rfl, hown4.cellAt (j * 6 + 0) (by omega), flat_get textCells 6 (fun _ => rfl) _ _ _ hlt (by omega)]
              rfl
            · rw [ho.cell (p := ⟨g, j * 6 + 3, none⟩) (show g < W4.heap.size by omega) (show g ≠ W3.heap.size by omega), hown4.cellAt (j * 6 + 3) (by omega), flat_get textCells 6 (fun _ => rfl) _ _ _ hlt (by omega), hs]
              rfl
        obtain ⟨⟨e0, e1, e2⟩, f0, f1, f2⟩ := hE
        have hzr : W4.heap.size ≤ wr.heap.size := ho.1
        have HZ := Lib.hid (And.intro hk (And.intro hfb (And.intro hsm (And.intro ho (And.intro hs hsc)))))
        clear hk hfb hsm ho hs hsc
        by_cases h200 : (200 : Int) < (s.size : Int)
        · go_wp2_with fail
          go_ret
          exact ⟨rfl, HZ.out.2.2.2.1.2.2 _ _ HY.out.2.2.2 (by omega) HY.out.2.2.2.size⟩
        · have hd2 : decide ((200 : Int) < (s.size : Int)) = false := decide_eq_false h200
          have HS := Lib.hid h200
          clear h200
          cases b with
          | some bi =>
            simp only [badCode] at e0
            go_wp2_with fail
            go_roundg (ss.length - (j + 1))
            case rel =>
              obtain ⟨hk, hfb, hsm, ho, hs, hsc⟩ := HZ.out
              refine ⟨j + 1, some bi, by omega, by go_num, ⟨by have := hfb.1; omega, hfb.2.1, hfb.2.2⟩, fun i h h0 => ?_, ⟨⟨e0, e1, e2⟩, f0, f1, f2⟩, ho⟩
              by_cases hij : i = j
              · subst hij; rw [hs]; have := HS.out; omega
              · exact hsm i h (by omega)
            case measure => have := HZ.out.1; omega
          | none =>
            simp only [badCode, badPath] at e0 e2
            have HU := Lib.hid (utf8_any s wr hss)
            cases hvb : validB s
            · rw [hvb] at HU
              have HB := Lib.hid hvb
              clear hvb
              go_wp2_with fail
              refine HU.out.mono ?_
              rintro e W5 ⟨rfl, rfl⟩
              go_wp2_with fail
              refine (digits_any j _ (by omega)).mono ?_
              rintro e W6 ⟨rfl, rfl⟩
              go_wp2_with fail
              refine (err_any 5 _).mono ?_
              rintro e W6 ⟨rfl, hb6⟩
              go_wp2_with fail
              refine (in_any (itoaB j) ⟨#[]⟩ 5 (-1) _ (Nat.le_trans (itoaB_small j (by omega)) (by omega)) (by simp [ByteArray.size])).mono ?_
              rintro e W7 ⟨rfl, hb7⟩
              have hg4 : W3.heap.size < W6.heap.size := by have := hb6.size; omega
              have hb67 := hb6.trans (hb7.mono hb6.size)
              have d0 := (hb67.cell (p := ⟨W3.heap.size, 0, none⟩) (show W3.heap.size < wr.heap.size by omega)).trans e0
              have d1 := (hb67.cell (p := ⟨W3.heap.size, 1, none⟩) (show W3.heap.size < wr.heap.size by omega)).trans e1
              have d2 := (hb67.cell (p := ⟨W3.heap.size, 2, none⟩) (show W3.heap.size < wr.heap.size by omega)).trans e2
              have g0 := (hb67.frozen (p := ⟨W3.heap.size, 0, none⟩) (show W3.heap.size < wr.heap.size by omega)).trans f0
              have g1 := (hb67.frozen (p := ⟨W3.heap.size, 1, none⟩) (show W3.heap.size < wr.heap.size by omega)).trans f1
              have g2 := (hb67.frozen (p := ⟨W3.heap.size, 2, none⟩) (show W3.heap.size < wr.heap.size by omega)).trans f2
              have HQ := Lib.hid hb67
              have hz7 : W3.heap.size < W7.heap.size := by have := hb67.size; omega
              clear hb6 hb7 hb67
              go_wp2_with fail
              go_roundg (ss.length - (j + 1))
              case rel =>
                obtain ⟨hk, hfb, hsm, ho, hs, hsc⟩ := HZ.out
                refine ⟨j + 1, some j, by omega, by go_num, ⟨by omega, ⟨hlt, by rw [hs]; exact HB.out⟩, fun i h h0 => hfb i h h0⟩, fun i h h0 => ?_, ⟨⟨?_, ?_, ?_⟩, ?_, ?_, ?_⟩, (((ho.step HQ.out).put 0 _).put 1 _).put 2 _⟩
                · by_cases hij : i = j
                  · subst hij; rw [hs]; have := HS.out; omega
                  · exact hsm i h (by omega)
                all_goals simp [go_sem, d0, d1, d2, g0, g1, g2, badCode, badPath]
              case measure => have := HZ.out.1; omega
            · rw [hvb] at HU
              have HB := Lib.hid hvb
              clear hvb
              go_wp2_with fail
              refine HU.out.mono ?_
              rintro e W5 ⟨rfl, rfl⟩
              go_wp2_with fail
              go_roundg (ss.length - (j + 1))
              case rel =>
                obtain ⟨hk, hfb, hsm, ho, hs, hsc⟩ := HZ.out
                refine ⟨j + 1, none, by omega, by go_num, fun i h h0 => ?_, fun i h h0 => ?_, ⟨⟨e0, e1, e2⟩, f0, f1, f2⟩, ho⟩
                · by_cases hij : i = j
                  · subst hij; rw [hs]; exact HB.out
                  · exact hfb i h (by omega)
                · by_cases hij : i = j
                  · subst hij; rw [hs]; have := HS.out; omega
                  · exact hsm i h (by omega)
              case measure => have := HZ.out.1; omega
      · obtain rfl : j = ss.length := by omega
        obtain ⟨⟨e0, e1, e2⟩, f0, f1, f2⟩ := hE
        have hzr : W4.heap.size ≤ wr.heap.size := ho.1
        have hW := HY.out.1
        have hf := fun q => (ho.cell (p := ⟨W2.heap.size, q, none⟩) (show W2.heap.size < W4.heap.size by omega) (show W2.heap.size ≠ W3.heap.size by omega)).trans (hW.cell q)
        have c1 := hf 1
        have c2 := hf 2
        have c3 := hf 3
        have c5 := hf 5
        simp at c1 c2 c3 c5
        have hown : wr.ownsRow (W1.heap.size + 2) 38 6 (.slice a ss.length ca) ss.length (ss.flatMap textCells) := by
          have hown4 := HY.out.2.2.1
          refine ⟨hown4.1, ?_⟩
          rcases hown4.2 with h0 | ⟨g, cap, cur, e, hg, hc, hr⟩
          · exact .inl h0
          · have hg2 : g < W2.heap.size := (HX.out.2.lt g (by rw [e]; rfl)).2
            exact .inr ⟨g, cap, cur, e, hg, (ho.2.1 g (by omega) (by omega)).trans hc, hr⟩
        have hval : Val wr (· < wr.heap.size) 1000000 (listV ss) #[.int .i64 4, .bool false, .int .i64 0, .string ⟨#[]⟩, .slice a ss.length ca, .slice none 0 0] := own_list hown (by omega) (fun i h => by have := hsm i h h; omega)
        have hbw : Below w.heap.size w wr := ho.2.2 _ _ HY.out.2.2.2 (by omega) HY.out.2.2.2.size
        have hGr := HG.out.1.below hbw
        have hchk := chk_list ss b hfb
        have HC := Lib.hid (checkTell_list ss b _ wr hval hGr hchk (fun i hi => by subst hi; have := hfb.1; omega))
        have HB := Lib.hid hbw
        clear hown hf hW hval hGr hchk hbw hfb hsm ho
        generalize badCode b = bc at e0 HC
        generalize badPath b = bp at e2 HC
        have z2 : W2.heap.size < wr.heap.size := by omega
        have z3 : W3.heap.size < wr.heap.size := by omega
        clear f0 f1 f2 hk hlt
        go_wp2_with fail
        go_region_held3 (fun w' => w'.cell? ⟨W2.heap.size, 0, none⟩ = some (.int .i64 4) ∧ w'.cell? ⟨W2.heap.size, 1, none⟩ = some (.bool false) ∧ w'.cell? ⟨W2.heap.size, 2, none⟩ = some (.int .i64 0) ∧ w'.cell? ⟨W2.heap.size, 3, none⟩ = some (.string ⟨#[]⟩) ∧ w'.cell? ⟨W2.heap.size, 4, none⟩ = some (.slice a ss.length ca) ∧ w'.cell? ⟨W2.heap.size, 5, none⟩ = some (.slice none 0 0) ∧ w'.cell? ⟨W3.heap.size, 0, none⟩ = some (.int .i64 bc) ∧ w'.cell? ⟨W3.heap.size, 1, none⟩ = some (.int .i64 (-1)) ∧ w'.cell? ⟨W3.heap.size, 2, none⟩ = some (.string bp)) (go_keep)
          (first
            | (go_at_call 12; refine (HC.out _ ?_).mono ?_; (first | exact Below.refl _ _ | exact (Below.refl _ _).drew); rintro e W5 ⟨v5, rfl, hb5, ht5⟩
               have x0 := (hb5.cell (p := ⟨W2.heap.size, 0, none⟩) z2).trans c0
               have x1 := (hb5.cell (p := ⟨W2.heap.size, 1, none⟩) z2).trans c1
               have x2 := (hb5.cell (p := ⟨W2.heap.size, 2, none⟩) z2).trans c2
               have x3 := (hb5.cell (p := ⟨W2.heap.size, 3, none⟩) z2).trans c3
               have x4 := (hb5.cell (p := ⟨W2.heap.size, 4, none⟩) z2).trans c4
               have x5 := (hb5.cell (p := ⟨W2.heap.size, 5, none⟩) z2).trans c5
               have y0 := (hb5.cell (p := ⟨W3.heap.size, 0, none⟩) z3).trans e0
               have y1 := (hb5.cell (p := ⟨W3.heap.size, 1, none⟩) z3).trans e1
               have y2 := (hb5.cell (p := ⟨W3.heap.size, 2, none⟩) z3).trans e2
               have HT := Lib.hid ht5
               have HV := Lib.hid hb5
               have z5 : W2.heap.size < W5.heap.size := Nat.lt_of_lt_of_le z2 hb5.size
               have z6 : W3.heap.size < W5.heap.size := Nat.lt_of_lt_of_le z3 hb5.size
               clear ht5 hb5)
            | (go_at_call 11; refine HT.out.mono ?_; rintro e W6 ⟨rfl, hb6⟩
               have p0 := (hb6.cell (p := ⟨W2.heap.size, 0, none⟩) z5).trans x0
               have p1 := (hb6.cell (p := ⟨W2.heap.size, 1, none⟩) z5).trans x1
               have p2 := (hb6.cell (p := ⟨W2.heap.size, 2, none⟩) z5).trans x2
               have p3 := (hb6.cell (p := ⟨W2.heap.size, 3, none⟩) z5).trans x3
               have p4 := (hb6.cell (p := ⟨W2.heap.size, 4, none⟩) z5).trans x4
               have p5 := (hb6.cell (p := ⟨W2.heap.size, 5, none⟩) z5).trans x5
               have q0 := (hb6.cell (p := ⟨W3.heap.size, 0, none⟩) z6).trans y0
               have q1 := (hb6.cell (p := ⟨W3.heap.size, 1, none⟩) z6).trans y1
               have q2 := (hb6.cell (p := ⟨W3.heap.size, 2, none⟩) z6).trans y2
               have HU := Lib.hid hb6
               clear hb6))
        go_wp2_with fail
        go_ret
        exact ⟨by simp, HB.out.trans ((HV.out.trans (HU.out.mono HV.out.size)).mono HB.out.size)⟩
end Go.Proofs.YtdpohklklmkjbaaDoor
