/-
  value.checkMap; then value.check at every depth, and value.Check.
-/
import Derived.Test.YtpehddbpingobaaDoorCheck2
import Derived.StillTailTactics
namespace Go.Proofs.YtpehddbpingobaaDoor
open Go.RowKit Go.Lib

def prevAt (l : List (ByteArray × V)) : Nat → Option ByteArray
  | 0 => none
  | j + 1 => (l[j]?).map (·.1)

theorem checkKey_at (s : ByteArray) (l : List (ByteArray × V)) (b off c j B : Nat) (w w' : World) (hs : s.size ≤ 1000000) (hl : l.length ≤ 1000000) (hj : j < l.length) (hv : ValM w (· < B) 1000000 l (some ⟨b, off, none⟩) 0) (hB : B ≤ w.heap.size) (hb : Below w.heap.size w w') (hG : Glob w) :
    Calls Tryd.prog 70 #[.string s, .slice (some ⟨b, off, none⟩) j c] w' (Ans ((chkKey s (prevAt l j)).map fun c => ([], c)) w') := by
  cases j with
  | zero => exact checkKey_none s _ c w' hs (hG.below hb)
  | succ n =>
    obtain ⟨b', off', cs, e, hbl, -, hk, -, -⟩ := hv.get n (by omega)
    obtain ⟨rfl, rfl⟩ : b = b' ∧ off = off' := by simpa using e
    have hq : w'.cell? ⟨b, off + n * 7, none⟩ = some (.string (l[n]'(by omega)).1) := (hb.cell (by simp; omega)).trans (by simpa using hk)
    have e2 : prevAt l (n + 1) = some (l[n]'(by omega)).1 := by simp [prevAt, List.getElem?_eq_getElem (show n < l.length by omega)]
    rw [e2]
    exact checkKey_some s _ b off n c w' hs (by omega) hq (hG.below hb)

theorem cells7 {w : World} {b off : Nat} {cs : Array Value} {s : ByteArray} {k : Int} {y : Bool} {n : Int} {t : ByteArray} {a a' : Value} (hk : w.cell? ⟨b, off, none⟩ = some (.string s)) (hc : ∀ j, j < 6 → w.cell? ⟨b, off + (1 + j), none⟩ = cs[j]?) (e : cs = #[.int .i64 k, .bool y, .int .i64 n, .string t, a, a']) :
    w.cell? ⟨b, off, none⟩ = some (.string s) ∧ w.cell? ⟨b, off + 1, none⟩ = some (.int .i64 k) ∧ w.cell? ⟨b, off + 2, none⟩ = some (.bool y) ∧ w.cell? ⟨b, off + 3, none⟩ = some (.int .i64 n) ∧ w.cell? ⟨b, off + 4, none⟩ = some (.string t) ∧ w.cell? ⟨b, off + 5, none⟩ = some a ∧ w.cell? ⟨b, off + 6, none⟩ = some a' := by
  subst e
  exact ⟨hk, hc 0 (by omega), hc 1 (by omega), hc 2 (by omega), hc 3 (by omega), hc 4 (by omega), hc 5 (by omega)⟩

def MapRel (w : World) (f : V → Option (List ByteArray × Int)) (l : List (ByteArray × V)) (k : Nat) (i : Value) (wr : World) : Prop :=
  ∃ j : Nat, j + k = l.length ∧ i = .int .i64 j ∧ Below w.heap.size w wr ∧ chkM f (prevAt l j) (l.drop j) = chkM f none l

set_option maxRecDepth 100000 in
set_option maxHeartbeats 4000000 in
theorem checkMap_any (d : Nat) (hd : d ≤ 20) (ih : CheckSaid d) (l : List (ByteArray × V)) (A : Option Addr) (c B : Nat) (w : World) (hv : ValM w (· < B) 1000000 l A 0) (hlen : l.length ≤ 1000000) (hcap : l.length ≤ c) (hB : B ≤ w.heap.size) (hG : Glob w) :
    Calls Tryd.prog 48 #[.slice A l.length c, .int .i64 (20 - (d : Int))] w (Ans (chkM (chk d) none l) w) := by
  have hd1 : ¬ (20 : Int) < 20 - (d : Int) := by omega
  obtain ⟨R, hR⟩ : ∃ R, chkM (chk d) none l = R := ⟨_, rfl⟩
  rw [hR]
  have HR := Lib.hid hR
  have HV := Lib.hid hv
  clear hR hv
  go_enter Tryd.func48, Tryd.ntmps48
  go_wp2_with fail
  go_loopg [13] l.length (MapRel w (chk d) l)
  case atStart => exact ⟨0, by simp, rfl, Below.refl _ _, rfl⟩
  case round =>
    obtain ⟨j, hk, rfl, hb, hrest⟩ := hrel
    have HK := Lib.hid (And.intro hk hrest)
    clear hk hrest
    by_cases hlt : j < l.length
    · obtain ⟨b, off, cs, rfl, hbl, hks, hkey, hcell, hval⟩ := HV.out.get j hlt
      have hkey' : wr.cell? ⟨b, off + j * 7, none⟩ = some (.string l[j].1) := (hb.cell (by simp; omega)).trans (by simpa using hkey)
      have hcell' : ∀ q, q < 6 → wr.cell? ⟨b, off + j * 7 + (1 + q), none⟩ = cs[q]? := fun q hq => (hb.cell (by simp; omega)).trans (by simpa using hcell q hq)
      obtain ⟨s, hsj⟩ : ∃ s, l[j].1 = s := ⟨_, rfl⟩
      rw [hsj] at hkey' hks
      cases hvj : l[j].2 with
      | mk k y n t l' m' =>
      rw [hvj] at hval
      have hval' := hval
      rw [Val] at hval'
      obtain ⟨A1, c1, A2, c2, rfl, -, -, -⟩ := hval'
      obtain ⟨x0, x1, x2, x3, x4, x5, x6⟩ := cells7 hkey' hcell' rfl
      have hlj : l[j] = (s, .mk k y n t l' m') := Prod.ext hsj hvj
      have HX := Lib.hid (And.intro hlj hval)
      clear hvj hval hcell hcell' hkey hkey' hsj hlj
      go_wp2_with fail
      have hb1 := hb.alloc hb.size (.cells #[.string s, .int .i64 k, .bool y, .int .i64 n, .string t, .slice A1 l'.length c1, .slice A2 m'.length c2] 46)
      have hzr := hb.size
      have y0 : (wr.alloc (.cells #[.string s, .int .i64 k, .bool y, .int .i64 n, .string t, .slice A1 l'.length c1, .slice A2 m'.length c2] 46)).cell? ⟨wr.heap.size, 0, none⟩ = some (.string s) := by simp
      have y1 : ∀ q, q < 6 → (wr.alloc (.cells #[.string s, .int .i64 k, .bool y, .int .i64 n, .string t, .slice A1 l'.length c1, .slice A2 m'.length c2] 46)).cell? ⟨wr.heap.size, 0 + (1 + q), none⟩ = #[Value.int .i64 k, .bool y, .int .i64 n, .string t, .slice A1 l'.length c1, .slice A2 m'.length c2][q]? := fun q hq => by
        rw [World.cell?_alloc_new]
        match q, hq with
        | 0, _ | 1, _ | 2, _ | 3, _ | 4, _ | 5, _ => rfl
      have hzW : wr.heap.size < (wr.alloc (.cells #[.string s, .int .i64 k, .bool y, .int .i64 n, .string t, .slice A1 l'.length c1, .slice A2 m'.length c2] 46)).heap.size := by simp
      generalize wr.alloc (.cells #[.string s, .int .i64 k, .bool y, .int .i64 n, .string t, .slice A1 l'.length c1, .slice A2 m'.length c2] 46) = W at hb1 y0 y1 hzW ⊢
      clear x0 x1 x2 x3 x4 x5 x6
      have HY := Lib.hid y1
      clear y1
      have hjc : (j : Int) ≤ (c : Int) := by omega
      have hjc' : j ≤ c := by omega
      go_still_tail 5, (by kernel_rfl)
      change wpList _ _ _ _ _ W.drew
      have hbd : Below w.heap.size w W.drew := hb1.drew
      have y0' : W.drew.cell? ⟨wr.heap.size, 0, none⟩ = some (.string s) := y0
      have HY' := Lib.hid (show ∀ q, q < 6 → W.drew.cell? ⟨wr.heap.size, 0 + (1 + q), none⟩ = #[Value.int .i64 k, .bool y, .int .i64 n, .string t, .slice A1 l'.length c1, .slice A2 m'.length c2][q]? from HY.out)
      have hzW' : wr.heap.size < W.drew.heap.size := hzW
      clear HY y0 hb1 hzW
      generalize W.drew = W2 at *
      clear hjc hjc'
      go_wp2_with fail
      refine (checkKey_at s l b off c j B w W2 hks hlen hlt HV.out hB hbd hG).mono ?_
      rintro e w1 ⟨hb2, ⟨hn, rfl⟩ | ⟨p, c', v, hs, rfl, hch⟩⟩
      · have hkn : chkKey s (prevAt l j) = none := by simpa using hn
        have HN := Lib.hid hkn
        have hb3 : Below w.heap.size w w1 := hbd.trans (hb2.mono hbd.size)
        have hy0 : w1.cell? ⟨wr.heap.size, 0, none⟩ = some (.string s) := (hb2.cell hzW').trans y0'
        obtain ⟨x0, x1, x2, x3, x4, x5, x6⟩ := cells7 hy0 (fun q hq => (hb2.cell (p := ⟨wr.heap.size, 0 + (1 + q), none⟩) hzW').trans (HY'.out q hq)) rfl
        have hz1 : wr.heap.size < w1.heap.size := by have := hb2.size; omega
        clear hn hkn hbd hb2 y0' hy0 HY' hzW'
        go_wp2_with fail
        refine (ih _ _ B _ (HX.out.2.keep (fun p hp => hb3.cell (Nat.lt_of_lt_of_le hp hB)) (fun _ h => h)) (by have := hb3.size; omega) (hG.below hb3)).mono ?_
        rintro e w2 ⟨hb4, ⟨hn, rfl⟩ | ⟨p, c', v, hs, rfl, hch⟩⟩
        · have HN2 := Lib.hid hn
          have hb5 : Below w.heap.size w w2 := hb3.trans (hb4.mono hb3.size)
          clear hn hb3 hb4 x0 x1 x2 x3 x4 x5 x6
          go_wp2_with fail
          go_roundg (l.length - (j + 1))
          case rel =>
            refine ⟨j + 1, by omega, by go_num, hb5, ?_⟩
            have e2 : prevAt l (j + 1) = some s := by simp [prevAt, List.getElem?_eq_getElem hlt, HX.out.1]
            rw [← HK.out.2, List.drop_eq_getElem_cons hlt, HX.out.1, chkM, HN.out, HN2.out, e2]
          case measure => have := HK.out.1; omega
        · have HS := Lib.hid hs
          have HC := Lib.hid hch
          obtain ⟨T, x, rfl⟩ := hch.held
          have hb5 : Below w.heap.size w w2 := hb3.trans (hb4.mono hb3.size)
          have z0 : w2.cell? ⟨wr.heap.size, 0, none⟩ = some (.string s) := (hb4.cell hz1).trans x0
          clear hs hch hb3 hb4 x0 x1 x2 x3 x4 x5 x6
          go_wp2_with fail
          refine (within_any s _ c' _ w2 HC.out).mono ?_
          rintro e w3 ⟨⟨v', rfl, hch'⟩, hb6⟩
          have HC' := Lib.hid hch'
          obtain ⟨T', x', rfl⟩ := hch'.held
          clear hch'
          go_wp2_with fail
          go_ret
          refine ⟨hb5.trans (hb6.mono hb5.size), .inr ⟨s :: p, c', _, ?_, rfl, HC'.out⟩⟩
          rw [← HR.out, ← HK.out.2, List.drop_eq_getElem_cons hlt, HX.out.1, chkM, HN.out, HS.out]
      · obtain ⟨hkc, rfl⟩ : chkKey s (prevAt l j) = some c' ∧ p = [] := by
          cases hh : chkKey s (prevAt l j) with
          | none => rw [hh] at hs; simp at hs
          | some c'' => rw [hh] at hs; simp at hs; exact ⟨by rw [hs.2], hs.1⟩
        have HS := Lib.hid hkc
        have HC := Lib.hid hch
        obtain ⟨T, x, rfl⟩ := hch.held
        have hb3 : Below w.heap.size w w1 := hbd.trans (hb2.mono hbd.size)
        have z0 : w1.cell? ⟨wr.heap.size, 0, none⟩ = some (.string s) := (hb2.cell hzW').trans y0'
        clear hs hkc hch hbd hb2 y0' HY' hzW'
        go_wp2_with fail
        refine (within_any s _ c' _ w1 HC.out).mono ?_
        rintro e w3 ⟨⟨v', rfl, hch'⟩, hb6⟩
        have HC' := Lib.hid hch'
        obtain ⟨T', x', rfl⟩ := hch'.held
        clear hch'
        go_wp2_with fail
        go_ret
        refine ⟨hb3.trans (hb6.mono hb3.size), .inr ⟨[s], c', _, ?_, rfl, HC'.out⟩⟩
        rw [← HR.out, ← HK.out.2, List.drop_eq_getElem_cons hlt, HX.out.1, chkM, HS.out]
    · go_wp2_with fail
      go_ret
      refine ⟨hb, .inl ⟨?_, rfl⟩⟩
      rw [← HR.out, ← HK.out.2, List.drop_of_length_le (by omega), chkM]
end Go.Proofs.YtpehddbpingobaaDoor
