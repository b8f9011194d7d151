/-
  value.check, checkList and checkMap together, by how much depth is left.
-/
import Derived.Test.YtpehddbpingobaaDoorCheck
import Derived.Outline
namespace Go.Proofs.YtpehddbpingobaaDoor
open Go.RowKit Go.Lib

def CheckSaid (d : Nat) : Prop := ∀ (v : V) (cs : Array Value) (B : Nat) (w : World), Val w (· < B) 1000000 v cs → B ≤ w.heap.size → Glob w → Calls Tryd.prog 31 #[.agg cs, .int .i64 (20 - (d : Int))] w (Ans (chk d v) w)

theorem checkList_deep (A : Option Addr) (n c : Nat) (w : World) : Calls Tryd.prog 47 #[.slice A n c, .int .i64 21] w (Ans (some ([], 3)) w) := by
  go_enter Tryd.func47, Tryd.ntmps47
  go_wp2
  go_ret
  exact ⟨Below.refl _ _, .inr ⟨[], 3, _, rfl, rfl, rfl⟩⟩
theorem checkMap_deep (A : Option Addr) (n c : Nat) (w : World) : Calls Tryd.prog 48 #[.slice A n c, .int .i64 21] w (Ans (some ([], 3)) w) := by
  go_enter Tryd.func48, Tryd.ntmps48
  go_wp2
  go_ret
  exact ⟨Below.refl _ _, .inr ⟨[], 3, _, rfl, rfl, rfl⟩⟩

/-- The six cells of a value, at a place, one by one. -/
theorem cells6 {w : World} {b off : Nat} {cs : Array Value} {k : Int} {y : Bool} {n : Int} {t : ByteArray} {a a' : Value} (hc : ∀ j, j < 6 → w.cell? ⟨b, off + j, none⟩ = cs[j]?) (e : cs = #[.int .i64 k, .bool y, .int .i64 n, .string t, a, a']) :
    w.cell? ⟨b, off, none⟩ = some (.int .i64 k) ∧ w.cell? ⟨b, off + 1, none⟩ = some (.bool y) ∧ w.cell? ⟨b, off + 2, none⟩ = some (.int .i64 n) ∧ w.cell? ⟨b, off + 3, none⟩ = some (.string t) ∧ w.cell? ⟨b, off + 4, none⟩ = some a ∧ w.cell? ⟨b, off + 5, none⟩ = some a' := by
  subst e
  exact ⟨hc 0 (by omega), hc 1 (by omega), hc 2 (by omega), hc 3 (by omega), hc 4 (by omega), hc 5 (by omega)⟩

def ListRel (w : World) (f : V → Option (List ByteArray × Int)) (l : List V) (k : Nat) (i : Value) (wr : World) : Prop :=
  ∃ j : Nat, j + k = l.length ∧ i = .int .i64 j ∧ Below w.heap.size w wr ∧ chkL f j (l.drop j) = chkL f 0 l

set_option maxHeartbeats 4000000 in
theorem checkList_any (d : Nat) (hd : d ≤ 20) (ih : CheckSaid d) (l : List V) (A : Option Addr) (c B : Nat) (w : World) (hv : ValL w (· < B) 1000000 l A 0) (hlen : l.length ≤ 1000000) (hB : B ≤ w.heap.size) (hG : Glob w) :
    Calls Tryd.prog 47 #[.slice A l.length c, .int .i64 (20 - (d : Int))] w (Ans (chkL (chk d) 0 l) w) := by
  have hd1 : ¬ (20 : Int) < 20 - (d : Int) := by omega
  obtain ⟨R, hR⟩ : ∃ R, chkL (chk d) 0 l = R := ⟨_, rfl⟩
  rw [hR]
  have HR := Lib.hid hR
  have HV := Lib.hid hv
  clear hR hv
  go_enter Tryd.func47, Tryd.ntmps47
  go_wp2_with fail
  go_loopg [13] l.length (ListRel w (chk d) l)
  case atStart => exact ⟨0, by simp, rfl, Below.refl _ _, rfl⟩
  case round =>
    obtain ⟨j, hk, rfl, hb, hrest⟩ := hrel
    have HK := Lib.hid (And.intro hk hrest)
    clear hk hrest
    by_cases hlt : j < l.length
    · obtain ⟨b, off, cs, rfl, hbl, hcell, hval⟩ := HV.out.get j hlt
      have hcell' : ∀ q, q < 6 → wr.cell? ⟨b, off + j * 6 + q, none⟩ = cs[q]? := fun q hq => (hb.cell (by simp; omega)).trans (by simpa using hcell q hq)
      cases hvj : l[j] with
      | mk k y n t l' m' =>
      rw [hvj] at hval
      have hval' := hval
      rw [Val] at hval'
      obtain ⟨A1, c1, A2, c2, rfl, -, -, -⟩ := hval'
      obtain ⟨x0, x1, x2, x3, x4, x5⟩ := cells6 hcell' rfl
      have HX := Lib.hid (And.intro hvj hval)
      clear hvj hval hcell hcell'
      go_wp2_with fail
      have hb1 := hb.alloc hb.size (.cells #[.int .i64 k, .bool y, .int .i64 n, .string t, .slice A1 l'.length c1, .slice A2 m'.length c2] 39)
      refine (ih _ _ B _ (HX.out.2.keep (fun p hp => hb1.cell (Nat.lt_of_lt_of_le hp hB)) (fun _ h => h)) (by have := hb.size; simp; omega) (hG.below hb1)).mono ?_
      rintro e w1 ⟨hb2, ⟨hn, rfl⟩ | ⟨p, c', v, hs, rfl, hch⟩⟩
      · have HN := Lib.hid hn
        have hb3 : Below w.heap.size w w1 := hb1.trans (hb2.mono (by have := hb.size; simp; omega))
        clear hn hb1 hb2 x0 x1 x2 x3 x4 x5
        go_wp2_with fail
        go_roundg (l.length - (j + 1))
        case rel =>
          refine ⟨j + 1, by omega, by go_num, hb3, ?_⟩
          rw [← HK.out.2, List.drop_eq_getElem_cons hlt, chkL, HX.out.1, HN.out]
        case measure => have := HK.out.1; omega
      · have HS := Lib.hid hs
        have HC := Lib.hid hch
        obtain ⟨T, x, rfl⟩ := hch.held
        have hb3 : Below w.heap.size w w1 := hb1.trans (hb2.mono (by have := hb.size; simp; omega))
        clear hs hch hb1 hb2 x0 x1 x2 x3 x4 x5
        go_wp2_with fail
        refine (itoa_any j _ (by omega) (hG.below hb3)).mono ?_
        rintro e w2 ⟨rfl, hb4⟩
        go_wp2_with fail
        refine (within_any (itoaB j) _ c' _ w2 (HC.out.below hb4)).mono ?_
        rintro e w3 ⟨⟨v', rfl, hch'⟩, hb5⟩
        have HC' := Lib.hid hch'
        obtain ⟨T', x', rfl⟩ := hch'.held
        clear hch'
        go_wp2_with fail
        go_ret
        refine ⟨hb3.trans ((hb4.mono hb3.size).trans (hb5.mono (Nat.le_trans hb3.size hb4.size))), .inr ⟨itoaB j :: p, c', _, ?_, rfl, HC'.out⟩⟩
        rw [← HR.out, ← HK.out.2, List.drop_eq_getElem_cons hlt, chkL, HX.out.1, HS.out]
    · go_wp2_with fail
      go_ret
      refine ⟨hb, .inl ⟨?_, rfl⟩⟩
      rw [← HR.out, ← HK.out.2, List.drop_of_length_le (by omega), chkL]
end Go.Proofs.YtpehddbpingobaaDoor
