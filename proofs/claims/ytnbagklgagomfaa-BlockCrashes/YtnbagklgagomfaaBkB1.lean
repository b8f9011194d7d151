/-
  BlockApart, walked: a write changes its block alone: these bytes, and noughts behind.
-/
import Derived.Test.YtnbagklgagomfaaBkG
import Derived.Test.YtnbagklgagomfaaBkP
import Derived.Test.YtnbagklgagomfaaBk8
namespace Go.Proofs.Ytnbagklgagomfaa
open Go.RowKit Go.Lib
set_option linter.unusedVariables false
set_option linter.unusedSimpArgs false

/-- A disk of 8 blocks without a fuse. -/
def FreeSt (j : Nat) (S : St) : Prop := S.n = 8 ∧ S.fu = false ∧ S.de = false ∧ S.st ≤ j
theorem free_step {j : Nat} {S : St} (h : FreeSt j S) (k : Int) (x : List UInt8) : FreeSt (j + 1) (wrSt S k x).1 := by
  obtain ⟨h1, h2, h3, h4⟩ := h
  unfold wrSt
  split
  · exact ⟨h1, h2, h3, by show S.st ≤ _; omega⟩
  · split
    · exact ⟨h1, h2, h3, by show S.st ≤ _; omega⟩
    · rw [if_neg (by simp [h3]), if_neg (by simp [h2])]
      exact ⟨h1, h2, h3, by show S.st + 1 ≤ _; omega⟩
def ApRel (w : World) (d bk m : Nat) (kk : Nat) (i : Value) (wr : World) : Prop :=
  ∃ (j : Nat) (S : St), j + kk = m ∧ i = .int .i64 (j : Int) ∧ FreeSt j S ∧ Dk wr d bk S ∧ Below w.heap.size w wr
/-- Eight texts in a block. -/
def Strs (w : World) (V : Nat) (f : Nat → ByteArray) : Prop := V < w.heap.size ∧ ∀ i, i < 8 → w.cell? ⟨V, i, none⟩ = some (.string (f i)) ∧ w.frozen? ⟨V, i, none⟩ = false
def text (l : List UInt8) : ByteArray := ⟨l.toArray⟩
def ApRel2 (w : World) (d bk V : Nat) (S : St) (kk : Nat) (i : Value) (wr : World) : Prop :=
  ∃ j : Nat, j + kk = 8 ∧ i = .int .i64 (j : Int) ∧ Dk wr d bk S ∧ Strs wr V (fun i => if i < j then text (S.B i) else ⟨#[]⟩) ∧ Below w.heap.size w wr
def ApRel3 (w : World) (d bk V : Nat) (f : Nat → ByteArray) (S : St) (kk : Nat) (i : Value) (wr : World) : Prop :=
  ∃ j : Nat, j + kk = 8 ∧ i = .int .i64 (j : Int) ∧ Dk wr d bk S ∧ Strs wr V f ∧ Below w.heap.size w wr

theorem strs_new (w : World) (t : TypeId) (f : Nat → ByteArray) : Strs (w.alloc (.cells #[.string ⟨#[]⟩, .string ⟨#[]⟩, .string ⟨#[]⟩, .string ⟨#[]⟩, .string ⟨#[]⟩, .string ⟨#[]⟩, .string ⟨#[]⟩, .string ⟨#[]⟩] t)) w.heap.size (fun i => if i < 0 then f i else ⟨#[]⟩) := by
  refine ⟨by simp, fun i hi => ⟨?_, by simp⟩⟩
  rw [World.cell?_alloc_new]
  show _ = some (Value.string (if i < 0 then f i else ⟨#[]⟩))
  rw [if_neg (by omega)]
  match i, hi with
  | 0, _ => rfl
  | 1, _ => rfl
  | 2, _ => rfl
  | 3, _ => rfl
  | 4, _ => rfl
  | 5, _ => rfl
  | 6, _ => rfl
  | 7, _ => rfl
theorem was_step (B : Nat → List UInt8) (i q : Nat) : (if q < i + 1 then text (B q) else ⟨#[]⟩) = if q = i then text (B i) else (if q < i then text (B q) else ⟨#[]⟩) := by
  by_cases h1 : q = i
  · subst h1
    rw [if_pos (by omega), if_pos rfl]
  · rw [if_neg h1]
    by_cases h2 : q < i
    · rw [if_pos h2, if_pos (by omega)]
    · rw [if_neg h2, if_neg (by omega)]
theorem Strs.keep {w w' : World} {V : Nat} {f : Nat → ByteArray} (h : Strs w V f) (hb : Below w.heap.size w w') : Strs w' V f :=
  ⟨Nat.lt_of_lt_of_le h.1 hb.size, fun i hi => ⟨(hb.cell (p := ⟨V, i, none⟩) h.1).trans (h.2 i hi).1, (hb.frozen (p := ⟨V, i, none⟩) h.1).trans (h.2 i hi).2⟩⟩
theorem Strs.oth {w w' : World} {V d bk : Nat} {f : Nat → ByteArray} (h : Strs w V f) (ho : Oth d bk w w') (a : V ≠ d) (b : V ≠ bk) : Strs w' V f :=
  ⟨Nat.lt_of_lt_of_le h.1 ho.1, fun i hi => ⟨(World.cell?_of_block (a := ⟨V, i, none⟩) (ho.2.1 V h.1 a b)).trans (h.2 i hi).1, (World.frozen?_of_block (a := ⟨V, i, none⟩) (ho.2.1 V h.1 a b)).trans (h.2 i hi).2⟩⟩
theorem Strs.put {w : World} {V : Nat} {f g : Nat → ByteArray} (h : Strs w V f) (j : Nat) (hj : j < 8) (s : ByteArray) (hg : ∀ i, i < 8 → g i = if i = j then s else f i) : Strs (w.setCell ⟨V, j, none⟩ (.string s)) V g := by
  refine ⟨by simpa [World.setCell] using h.1, fun i hi => ⟨?_, by rw [World.frozen?_setCell]; exact (h.2 i hi).2⟩⟩
  rw [hg i hi]
  by_cases e : i = j
  · subst e
    rw [if_pos rfl]
    exact World.cell?_setCell_same _ _ _ (h.2 i hi).1
  · rw [if_neg e, World.cell?_setCell_other _ _ _ _ (fun he => e (by cases he; rfl))]
    exact (h.2 i hi).1
theorem Dk.far {w : World} {d bk : Nat} {S : St} (h : Dk w d bk S) (V q : Nat) (v : Value) (a : d ≠ V) (b : bk ≠ V) : Dk (w.setCell ⟨V, q, none⟩ v) d bk S :=
  h.same (Below.heap_setCell _ _ _ _ a) (Below.heap_setCell _ _ _ _ b) (by simp [World.setCell])
theorem wr_free {j : Nat} {S : St} (h : FreeSt j S) {k : Nat} (hk : k < 8) {x : List UInt8} (hx : x.length ≤ 64) : wrSt S (k : Int) x = ({ S with B := upd S.B k (pad x), st := S.st + 1 }, 0) := by
  obtain ⟨h1, h2, h3, h4⟩ := h
  unfold wrSt
  rw [if_neg (by simp [hasB, h1]; omega), if_neg (by omega), if_neg (by simp [h3]), if_neg (by simp [h2])]
  simp [h2]
set_option maxRecDepth 100000 in
set_option maxHeartbeats 4000000 in
theorem lawApart_any (n : Int) (A : Option Addr) (x : List UInt8) (cb : Nat) (L : Option Addr) (m cl : Nat) (w : World) (hn : -9223372036854775808 ≤ n ∧ n ≤ 9223372036854775807) (hB : Bt w A x) (hxb : x.length ≤ cb) (hcb : cb ≤ maxLen) (hL : Acts w L m) (hml : m ≤ cl) (hcl : cl ≤ maxLen) :
    Calls Try.prog 5 #[.int .i64 n, .slice A x.length cb, .slice L m cl] w fun e w' => e = .returned (.bool true) ∧ Below w.heap.size w w' := by
  have HX := Lib.hid hB
  have HA := Lib.hid hL
  have HF := Lib.hid (fun W (hW : Below w.heap.size w W) => few_acts W L m cl (hL.keep hW) hml hcl)
  unfold maxLen at hcb hcl
  obtain ⟨u, hu, hub⟩ : ∃ u : Nat, IntKind.u64.wrap n = (u : Int) ∧ u < 18446744073709551616 := by
    have := bounds_u64 (wf_wrap .u64 n)
    exact ⟨(IntKind.u64.wrap n).toNat, by omega, by omega⟩
  obtain ⟨l, HLx⟩ : ∃ l, Hid (x.length = l) := ⟨_, rfl⟩
  rw [HLx.out] at hxb ⊢
  clear hB hL
  go_enter Try.func5, Try.ntmps5
  go_wp2_with fail
  refine (awake_blk w).mono ?_
  rintro e W0 ⟨rfl, hb0⟩
  have B0 := Lib.hid hb0
  clear hb0
  go_wp2_with fail
  refine (HF.out W0 B0.out).mono ?_
  rintro e W1 ⟨r, rfl, hr, hb1⟩
  have B1 := Lib.hid (B0.out.trans (hb1.mono B0.out.size))
  have HR := Lib.hid hr
  clear hb1 hr
  have hAw := fun (W : World) (hW : Below w.heap.size w W) => awake_blk W
  have HAw := Lib.hid hAw
  clear hAw
  cases r with
  | false =>
    go_wp2_with fail
    refine (HAw.out W1 B1.out).mono ?_
    rintro e W2 ⟨rfl, hb2⟩
    have B2 := Lib.hid (B1.out.trans (hb2.mono B1.out.size))
    clear hb2
    go_wp2_with fail
    go_ret
    exact ⟨rfl, B2.out⟩
  | true =>
    by_cases h64 : (64 : Int) < (l : Int)
    · go_wp2_with fail
      refine (HAw.out W1 B1.out).mono ?_
      rintro e W2 ⟨rfl, hb2⟩
      have B2 := Lib.hid (B1.out.trans (hb2.mono B1.out.size))
      clear hb2
      go_wp2_with fail
      go_ret
      exact ⟨rfl, B2.out⟩
    · have hm40 : m ≤ 40 := (HR.out rfl).1
      go_wp2_with fail
      refine (new_yes W1 8 (by decide) (by decide)).mono ?_
      rintro e W2 ⟨rfl, hD2, hb2⟩
      have D2 := Lib.hid hD2
      have B2 := Lib.hid (B1.out.trans (hb2.mono B1.out.size))
      have hs0 := B1.out.size
      clear hD2 hb2
      go_wp2_with fail
      obtain ⟨bk, hbk⟩ : ∃ bk, W1.heap.size = bk := ⟨_, rfl⟩
      rw [hbk] at D2 hs0 ⊢
      clear hbk B1
      go_loopg [45] m (ApRel w (bk + 1) bk m)
      case atStart => exact ⟨0, newSt 8, by omega, rfl, ⟨rfl, rfl, rfl, Nat.le_refl _⟩, D2.out, B2.out⟩
      case round =>
        obtain ⟨j, S, hk, rfl, hS, hD, hB⟩ := hrel
        have HD := Lib.hid hD
        have HB := Lib.hid hB
        have HS := Lib.hid hS
        clear hD hB hS
        by_cases hlt : j < m
        · obtain ⟨b, off, rfl, hacts⟩ := HA.out (by omega)
          obtain ⟨kd, k, B', x', c', h0, h1, h2, hbt, -, -, -, -⟩ := hacts j hlt
          have hbl : b < w.heap.size := block_lt_of_cell h0
          have HBt := Lib.hid (hbt.keep (HB.out.alloc HB.out.size (.cells #[.int .u8 kd, .int .i64 k, .slice B' x'.length c'] 42)))
          have k0 : wr.cell? ⟨b, off + j * 3, none⟩ = some (.int .u8 kd) := (HB.out.cell (p := ⟨b, off + j * 3, none⟩) hbl).trans h0
          have k1 : wr.cell? ⟨b, off + j * 3 + 1, none⟩ = some (.int .i64 k) := (HB.out.cell (p := ⟨b, off + j * 3 + 1, none⟩) hbl).trans h1
          have k2 : wr.cell? ⟨b, off + j * 3 + 2, none⟩ = some (.slice B' x'.length c') := (HB.out.cell (p := ⟨b, off + j * 3 + 2, none⟩) hbl).trans h2
          obtain ⟨l', hl'⟩ : ∃ l', l' = x'.length := ⟨_, rfl⟩
          have HL' := Lib.hid hl'
          rw [← hl'] at k2 HBt
          have hst := HS.out.2.2.2
          clear h0 h1 h2 hbt hl' hacts
          go_wp2_with fail
          have ha := write_any _ _ _ _ (HD.out.below (new_below wr (.cells #[.int .u8 kd, .int .i64 k, .slice B' l' c'] 42))) k B' x' l' c' HL'.out HBt.out (by omega)
          refine ha.mono ?_
          clear ha
          rintro e W3 ⟨rfl, hD3, ho3⟩
          have D3 := Lib.hid hD3
          have B3 := Lib.hid (ho3.on (HB.out.alloc HB.out.size _) (by omega) (by omega))
          clear hD3 ho3
          go_wp2_with fail
          go_roundg (m - (j + 1))
          case rel => exact ⟨j + 1, _, by omega, by go_num, free_step HS.out k x', D3.out, B3.out⟩
          case measure => omega
        · obtain rfl : j = m := by omega
          go_wp2_with fail
          obtain ⟨kk, hkk⟩ : ∃ kk : Nat, (u : Int) % 8 = (kk : Int) := ⟨u % 8, by omega⟩
          have hk8 : kk < 8 := by omega
          rw [hkk]
          have HSt := Lib.hid (strs_new wr 56 (fun i => text (S.B i)))
          have HB' := Lib.hid (HB.out.alloc HB.out.size (.cells #[.string ⟨#[]⟩, .string ⟨#[]⟩, .string ⟨#[]⟩, .string ⟨#[]⟩, .string ⟨#[]⟩, .string ⟨#[]⟩, .string ⟨#[]⟩, .string ⟨#[]⟩] 56))
          have HD' := Lib.hid (HD.out.below (new_below wr (.cells #[.string ⟨#[]⟩, .string ⟨#[]⟩, .string ⟨#[]⟩, .string ⟨#[]⟩, .string ⟨#[]⟩, .string ⟨#[]⟩, .string ⟨#[]⟩, .string ⟨#[]⟩] 56)))
          have hVd : bk + 1 < wr.heap.size := HD.out.ld
          have hVw : w.heap.size ≤ wr.heap.size := HB.out.size
          obtain ⟨V, hV⟩ : ∃ V, wr.heap.size = V := ⟨_, rfl⟩
          rw [hV] at HSt hVd hVw ⊢
          clear hV hkk hu hub HB HD
          go_loopg [60] 8 (ApRel2 w (bk + 1) bk V S)
          case atStart => exact ⟨0, rfl, rfl, HD'.out, HSt.out, HB'.out⟩
          case round =>
            obtain ⟨i, hki, rfl, hD2, hStr, hB2⟩ := hrel
            have HD2 := Lib.hid hD2
            have HB2 := Lib.hid hB2
            have HSt2 := Lib.hid hStr
            clear hD2 hB2 hStr
            by_cases hi8 : i < 8
            · have hSn : S.n = 8 := HS.out.1
              go_wp2_with fail
              refine (read_yes _ _ _ _ HD2.out i (by omega)).mono ?_
              rintro e W3 ⟨rfl, hr3, hb3⟩
              have hlen : (S.B i).length = 64 := (HD2.out.hb.1 i (by omega)).2
              have hs := conv_bytes W3 _ 0 64 64 (S.B i) hlen.symm hr3
              have St3 := Lib.hid (HSt2.out.keep hb3)
              have D3 := Lib.hid (HD2.out.below hb3)
              have B3 := Lib.hid (HB2.out.trans (hb3.mono HB2.out.size))
              have kc := (St3.out.2 i hi8).1
              have kf := (St3.out.2 i hi8).2
              clear hr3 hb3 hlen hSn
              go_wp2_with fail
              go_roundg (8 - (i + 1))
              case rel => exact ⟨i + 1, by omega, by go_num, D3.out.far V i _ (by omega) (by omega), St3.out.put i hi8 _ (fun q hq => was_step S.B i q), B3.out.setCell hVw _⟩
              case measure => omega
            · obtain rfl : i = 8 := by omega
              have hlx : x.length ≤ 64 := by have := HLx.out; omega
              have hst := HS.out.2.2.2
              have ha := write_any _ _ _ _ HD2.out (kk : Int) A x l cb HLx.out.symm (HX.out.keep HB2.out) (by omega)
              rw [wr_free HS.out hk8 hlx] at ha
              have HA2 := Lib.hid ha
              clear ha hst hlx
              go_wp2_with fail
              refine HA2.out.mono ?_
              rintro e W4 ⟨rfl, hD4, ho4⟩
              have D4 := Lib.hid hD4
              have B4 := Lib.hid (ho4.on HB2.out (by omega) (by omega))
              have St4 := Lib.hid (HSt2.out.oth ho4 (by omega) (by omega))
              clear hD4 ho4
              simp only [errV0]
              go_wp2_with fail
              have hupd : ∀ q, ({ S with B := upd S.B kk (pad x), st := S.st + 1 } : St).B q = if q = kk then pad x else S.B q := fun q => rfl
              obtain ⟨S', hS'⟩ : ∃ S' : St, { S with B := upd S.B kk (pad x), st := S.st + 1 } = S' := ⟨_, rfl⟩
              have hSn' : S'.n = 8 := by rw [← hS']; exact HS.out.1
              rw [hS'] at hupd D4
              have HU := Lib.hid hupd
              have HSn := Lib.hid hSn'
              have HSt5 := Lib.hid (show Strs W4 V (fun i => text (S.B i)) from ⟨St4.out.1, fun i hi => by have := St4.out.2 i hi; simpa [hi] using this⟩)
              clear hupd hS' hSn' St4 HSt2 HB2 HD2
              go_loopg [79] 8 (ApRel3 w (bk + 1) bk V (fun i => text (S.B i)) S')
              case atStart => exact ⟨0, rfl, rfl, D4.out, HSt5.out, B4.out⟩
              case round =>
                obtain ⟨i, hki, rfl, hD2, hStr, hB2⟩ := hrel
                have HD2 := Lib.hid hD2
                have HB2 := Lib.hid hB2
                have HSt2 := Lib.hid hStr
                clear hD2 hB2 hStr
                by_cases hi8 : i < 8
                · go_wp2_with fail
                  refine (read_yes _ _ _ _ HD2.out i (by rw [HSn.out]; exact hi8)).mono ?_
                  rintro e W5 ⟨rfl, hr5, hb5⟩
                  have hlen : (S'.B i).length = 64 := (HD2.out.hb.1 i (by rw [HSn.out]; exact hi8)).2
                  have HR5 := Lib.hid hr5
                  have St5 := Lib.hid (HSt2.out.keep hb5)
                  have D5 := Lib.hid (HD2.out.below hb5)
                  have B5 := Lib.hid (HB2.out.trans (hb5.mono HB2.out.size))
                  have hg5 : _ < W5.heap.size := block_lt_of_cell (hr5 0 _ (List.getElem?_eq_getElem (by rw [bcs_len, hlen]; omega)))
                  have HLen := Lib.hid hlen
                  have kc : W5.cell? ⟨V, i, none⟩ = some (.string ⟨(S.B i).toArray⟩) := (St5.out.2 i hi8).1
                  clear hr5 hb5 hlen
                  by_cases hik : i = kk
                  · subst hik
                    have hlx : x.length ≤ 64 := by have := HLx.out; omega
                    obtain ⟨v1, W6, hr1, hrow1⟩ := app_copy (w := W5) (A := A) (x := x) cb (HX.out.keep B5.out) (by omega) 40
                    obtain ⟨v2, W7, hr2, hrow2⟩ := app_zeros hrow1 (64 - l) (by have := HLx.out; omega) 40
                    rw [HLx.out] at hr1
                    rw [show ((64 - l : Nat) : Int) = 64 - (l : Int) by omega] at hr2
                    obtain ⟨g, c2, rfl, -, -, -, hra, -, hb7⟩ := hrow2
                    have e2 : pad x = x ++ List.replicate (64 - l) 0 := by unfold pad; rw [HLx.out]
                    have e3 : (x ++ List.replicate (64 - l) 0).length = 64 := by rw [← e2]; exact pad_len hlx
                    have hc1 := conv_bytes W7 g 0 c2 _ _ rfl hra
                    have hc2 := conv_bytes W7 _ 0 64 64 (S'.B i) HLen.out.symm (rangeAt_of HR5.out (hb7.block _ hg5))
                    rw [HU.out, if_pos rfl, e2] at hc2
                    rw [e3] at hc1 hr2
                    obtain ⟨T, hT⟩ : ∃ T, (⟨(x ++ List.replicate (64 - l) 0).toArray⟩ : ByteArray) = T := ⟨_, rfl⟩
                    rw [hT] at hc1 hc2
                    have D7 := Lib.hid (D5.out.below hb7)
                    have St7 := Lib.hid (St5.out.keep hb7)
                    have B7 := Lib.hid (B5.out.trans (hb7.mono B5.out.size))
                    clear hra hb7 hrow1 e2 e3 hT hlx
                    go_wp2_with (first | ((with_reducible refine at_slot 96 ?_); refine Lib.wpList_append_run _ rfl (.tmp 94) (.tmp 95) _ _ rfl _ _ rfl rfl v1 W6 hr1 ?_) | ((with_reducible refine at_slot 100 ?_); refine Lib.wpList_append_run _ rfl (.tmp 96) (.tmp 99) _ _ rfl _ _ rfl rfl _ W7 hr2 ?_))
                    go_roundg (8 - (i + 1))
                    case rel => exact ⟨i + 1, by omega, by go_num, D7.out, St7.out, B7.out⟩
                    case measure => omega
                  · have hc2 := conv_bytes W5 _ 0 64 64 (S'.B i) HLen.out.symm HR5.out
                    rw [HU.out, if_neg hik] at hc2
                    obtain ⟨T, hT⟩ : ∃ T, (⟨(S.B i).toArray⟩ : ByteArray) = T := ⟨_, rfl⟩
                    rw [hT] at hc2 kc
                    clear hT
                    go_wp2_with fail
                    go_roundg (8 - (i + 1))
                    case rel => exact ⟨i + 1, by omega, by go_num, D5.out, St5.out, B5.out⟩
                    case measure => omega
                · obtain rfl : i = 8 := by omega
                  go_wp2_with fail
                  go_ret
                  exact ⟨rfl, HB2.out⟩
end Go.Proofs.Ytnbagklgagomfaa
