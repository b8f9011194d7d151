/-
  The document's check of a value, the plain part and the kinds without parts: it answers what chk says, as a code and a path.
-/
import Derived.Test.YtigegjeikkopjaaDoorFew
import Derived.Test.YtigegjeikkopjaaDoorLawTexts2
import Derived.Deep.RegionHeld3
namespace Go.Proofs.YtigegjeikkopjaaDoor
open Go.RowKit Go.Lib
set_option linter.unusedVariables false
set_option linter.unusedSimpArgs false

/-- The path of an error, each part with / ahead. -/
def pth : List ByteArray → ByteArray
  | [] => ⟨#[]⟩
  | s :: r => (⟨#[47]⟩ ++ s) ++ pth r
def refCode : Option (List ByteArray × Int) → Int
  | none => 0
  | some (_, c) => c
def refPath : Option (List ByteArray × Int) → ByteArray
  | none => ⟨#[]⟩
  | some (p, _) => pth p
def RefAns (r : Option (List ByteArray × Int)) (w : World) (e : Ending) (w' : World) : Prop := e = .returned (.agg #[.int .i64 (refCode r), .int .i64 (-1), .string (refPath r)]) ∧ Below w.heap.size w w'

def GoodR (d : Nat) (r : Option (List ByteArray × Int)) : Prop := ∀ p c, r = some (p, c) → c ≠ 0 ∧ (pth p).size ≤ d * 1000050
theorem chkL_good {d : Nat} {f : V → Option (List ByteArray × Int)} : ∀ (l : List V) (i : Nat), (∀ v ∈ l, GoodR d (f v)) → i + l.length ≤ 1000000 → GoodR (d + 1) (chkL f i l)
  | [], i, _, _ => fun p c h => by simp [chkL] at h
  | v :: r, i, hf, hi => fun p c h => by
    rw [chkL] at h
    cases hv : f v with
    | none => rw [hv] at h; exact chkL_good r (i + 1) (fun x hx => hf x (List.mem_cons_of_mem _ hx)) (by simp only [List.length_cons] at hi; omega) p c h
    | some pc =>
      obtain ⟨p', c'⟩ := pc
      rw [hv] at h
      simp only [Option.some.injEq, Prod.mk.injEq] at h
      obtain ⟨rfl, rfl⟩ := h
      have := hf v (List.mem_cons_self ..) p' c' hv
      have h1 := itoaB_small i (by simp only [List.length_cons] at hi; omega)
      refine ⟨this.1, ?_⟩
      have h47 : (ByteArray.mk #[47]).size = 1 := rfl
      rw [pth, ByteArray.size_append, ByteArray.size_append, h47, Nat.succ_mul]
      omega
theorem chkKey_ne {s : ByteArray} {q : Option ByteArray} {c : Int} (h : chkKey s q = some c) : c ≠ 0 := by
  unfold chkKey at h
  split at h
  · injection h with h; omega
  · split at h
    · cases h
    · split at h
      · injection h with h; omega
      · split at h
        · injection h with h; omega
        · cases h
theorem chkM_good {d : Nat} {f : V → Option (List ByteArray × Int)} : ∀ (l : List (ByteArray × V)) (q : Option ByteArray), (∀ x ∈ l, x.1.size ≤ 1000000 ∧ GoodR d (f x.2)) → GoodR (d + 1) (chkM f q l)
  | [], q, _ => fun p c h => by simp [chkM] at h
  | (s, v) :: r, q, hf => fun p c h => by
    have h47 : (ByteArray.mk #[47]).size = 1 := rfl
    have h0 : (ByteArray.mk #[]).size = 0 := rfl
    have hs := hf (s, v) (List.mem_cons_self ..)
    rw [chkM] at h
    cases hk : chkKey s q with
    | some c' =>
      rw [hk] at h
      simp only [Option.some.injEq, Prod.mk.injEq] at h
      obtain ⟨rfl, rfl⟩ := h
      refine ⟨chkKey_ne hk, ?_⟩
      rw [pth, pth, ByteArray.size_append, ByteArray.size_append, h47, h0, Nat.succ_mul]
      have := hs.1
      dsimp only at this
      omega
    | none =>
      rw [hk] at h
      cases hv : f v with
      | none => rw [hv] at h; exact chkM_good r (some s) (fun x hx => hf x (List.mem_cons_of_mem _ hx)) p c h
      | some pc =>
        obtain ⟨p', c'⟩ := pc
        rw [hv] at h
        simp only [Option.some.injEq, Prod.mk.injEq] at h
        obtain ⟨rfl, rfl⟩ := h
        have := hs.2 p' c' hv
        refine ⟨this.1, ?_⟩
        rw [pth, ByteArray.size_append, ByteArray.size_append, h47, Nat.succ_mul]
        have := hs.1
        dsimp only at this
        omega
theorem VOkL.mem {M : Nat} : ∀ {l : List V}, VOkL M l → ∀ v ∈ l, VOk M v
  | v :: r, h, x, hx => by
    rcases List.mem_cons.1 hx with rfl | hx
    · exact h.1
    · exact VOkL.mem h.2 x hx
theorem VOkM.mem {M : Nat} : ∀ {l : List (ByteArray × V)}, VOkM M l → ∀ x ∈ l, x.1.size ≤ M ∧ VOk M x.2
  | (s, v) :: r, h, x, hx => by
    rcases List.mem_cons.1 hx with rfl | hx
    · exact ⟨h.1, h.2.1⟩
    · exact VOkM.mem h.2.2 x hx
theorem chkHead_good {D : Nat} {fl : List V → Option (List ByteArray × Int)} {fm : List (ByteArray × V) → Option (List ByteArray × Int)} : ∀ v, (∀ k y n t l m, v = .mk k y n t l m → GoodR D (fl l) ∧ GoodR D (fm m)) → GoodR D (chkHead fl fm v)
  | .mk k y n t l m, h => fun p c hh => by
    have h0 : (pth []).size = 0 := rfl
    obtain ⟨h1, h2⟩ := h k y n t l m rfl
    have hz : ∀ c', some (([] : List ByteArray), c') = some (p, c) → c' ≠ 0 → c ≠ 0 ∧ (pth p).size ≤ D * 1000050 := fun c' e hc => by
      injection e with e; injection e with e1 e2; subst e1 e2; exact ⟨hc, by omega⟩
    rw [chkHead] at hh
    by_cases k0 : k = 0 ∨ k = 1
    · rw [if_pos k0] at hh; cases hh
    rw [if_neg k0] at hh
    by_cases k2 : k = 2
    · rw [if_pos k2] at hh
      by_cases hn : n < -9007199254740991 ∨ 9007199254740991 < n
      · rw [if_pos hn] at hh; exact hz 4 hh (by omega)
      · rw [if_neg hn] at hh; cases hh
    rw [if_neg k2] at hh
    by_cases k3 : k = 3
    · rw [if_pos k3] at hh
      by_cases hn : validB t = true
      · rw [if_pos hn] at hh; cases hh
      · rw [if_neg hn] at hh; exact hz 5 hh (by omega)
    rw [if_neg k3] at hh
    by_cases k4 : k = 4
    · rw [if_pos k4] at hh; exact h1 p c hh
    rw [if_neg k4] at hh
    by_cases k5 : k = 5
    · rw [if_pos k5] at hh; exact h2 p c hh
    rw [if_neg k5] at hh
    exact hz 9 hh (by omega)
theorem chk_good : ∀ (d : Nat) (v : V), VOk 1000000 v → GoodR d (chk d v)
  | 0, v, h => by
    rw [chk]
    exact chkHead_good v fun k y n t l m e => ⟨fun p c h => by injection h with h; injection h with e1 e2; subst e1 e2; exact ⟨by omega, by show (pth []).size ≤ _; exact Nat.zero_le _⟩, fun p c h => by injection h with h; injection h with e1 e2; subst e1 e2; exact ⟨by omega, by show (pth []).size ≤ _; exact Nat.zero_le _⟩⟩
  | d + 1, v, h => by
    rw [chk]
    refine chkHead_good v fun k y n t l m e => ?_
    subst e
    obtain ⟨ht, hl, hm, hvl, hvm⟩ := h
    exact ⟨chkL_good l 0 (fun x hx => chk_good d x (hvl.mem x hx)) (by omega), chkM_good m none (fun x hx => ⟨(hvm.mem x hx).1, chk_good d x.2 (hvm.mem x hx).2⟩)⟩

set_option maxRecDepth 100000 in
set_option maxHeartbeats 4000000 in
/-- The kinds without parts, at whatever depth; and those that are too deep. -/
theorem refcheck_plain (fl : List V → Option (List ByteArray × Int)) (fm : List (ByteArray × V) → Option (List ByteArray × Int)) (k : Int) (y : Bool) (n : Int) (t : ByteArray) (l : List V) (m : List (ByteArray × V)) (a a' : Value) (dp : Int) (w : World) (ht : t.size ≤ 1000000)
    (hk : (k ≠ 4 ∧ k ≠ 5) ∨ (dp = 20 ∧ fl l = some ([], 3) ∧ fm m = some ([], 3))) :
    Calls Tryd.prog 40 #[.agg #[.int .i64 k, .bool y, .int .i64 n, .string t, a, a'], .int .i64 dp] w (RefAns (chkHead fl fm (.mk k y n t l m)) w) := by
  have hb0 : Below w.heap.size w ((w.alloc (.cells #[.int .i64 k, .bool y, .int .i64 n, .string t, a, a'] 25)).alloc (.cells #[.int .i64 0, .int .i64 0, .string ⟨#[]⟩] 29)) := ((Below.refl _ _).alloc (Nat.le_refl _) _).alloc (by simp) _
  have hE0 : EBlk ((w.alloc (.cells #[.int .i64 k, .bool y, .int .i64 n, .string t, a, a'] 25)).alloc (.cells #[.int .i64 0, .int .i64 0, .string ⟨#[]⟩] 29)) (w.heap.size + 1) 0 0 ⟨#[]⟩ := by
    have := EBlk.new (w.alloc (.cells #[.int .i64 k, .bool y, .int .i64 n, .string t, a, a'] 25)) 0 0 ⟨#[]⟩
    simpa using this
  have fin : ∀ (W : World) (r : Option (List ByteArray × Int)), Below w.heap.size w W → chkHead fl fm (.mk k y n t l m) = r → RefAns (chkHead fl fm (.mk k y n t l m)) w (.returned (.agg #[.int .i64 (refCode r), .int .i64 (-1), .string (refPath r)])) W := fun W r hW hr => by rw [hr]; exact ⟨rfl, hW⟩
  obtain ⟨R, hR⟩ : ∃ R, chkHead fl fm (.mk k y n t l m) = R := ⟨_, rfl⟩
  rw [hR] at fin ⊢
  have FIN := Lib.hid fin
  have HR := Lib.hid hR
  have H0 := Lib.hid (And.intro hb0 hE0)
  clear fin hR hb0 hE0
  by_cases e0 : k = 0
  · subst e0
    go_enter Tryd.func40, Tryd.ntmps40
    go_wp2_with fail
    refine (none_any _).mono ?_
    rintro e W ⟨rfl, hb⟩
    obtain ⟨⟨x0, x1, x2⟩, y0, y1, y2⟩ := H0.out.2.below hb (by simp)
    have hz : w.heap.size + 1 < W.heap.size := lt_of_cell x0
    have HB := Lib.hid (H0.out.1.trans (hb.mono (by simp; omega)))
    clear hb
    go_wp2_with fail
    exact bodyPost_ret (v := .agg #[.int .i64 0, .int .i64 (-1), .string ⟨#[]⟩]) (by simp [results, Tryd.results40, go_sem, x0, x1, x2, y0, y1, y2]) rfl (FIN.out _ none (((HB.out.setCell (by simp) _).setCell (by simp) _).setCell (by simp) _) (by rw [← HR.out]; simp [chkHead]))
  by_cases e1 : k = 1
  · subst e1
    go_enter Tryd.func40, Tryd.ntmps40
    go_wp2_with fail
    refine (none_any _).mono ?_
    rintro e W ⟨rfl, hb⟩
    obtain ⟨⟨x0, x1, x2⟩, y0, y1, y2⟩ := H0.out.2.below hb (by simp)
    have hz : w.heap.size + 1 < W.heap.size := lt_of_cell x0
    have HB := Lib.hid (H0.out.1.trans (hb.mono (by simp; omega)))
    clear hb
    go_wp2_with fail
    exact bodyPost_ret (v := .agg #[.int .i64 0, .int .i64 (-1), .string ⟨#[]⟩]) (by simp [results, Tryd.results40, go_sem, x0, x1, x2, y0, y1, y2]) rfl (FIN.out _ none (((HB.out.setCell (by simp) _).setCell (by simp) _).setCell (by simp) _) (by rw [← HR.out]; simp [chkHead]))
  by_cases e2 : k = 2
  · subst e2
    by_cases g2 : 9007199254740991 < n
    · go_enter Tryd.func40, Tryd.ntmps40
      go_wp2_with fail
      refine (err_any 4 _).mono ?_
      rintro e W ⟨rfl, hb⟩
      obtain ⟨⟨x0, x1, x2⟩, y0, y1, y2⟩ := H0.out.2.below hb (by simp)
      have hz : w.heap.size + 1 < W.heap.size := lt_of_cell x0
      have HB := Lib.hid (H0.out.1.trans (hb.mono (by simp; omega)))
      clear hb
      go_wp2_with fail
      exact bodyPost_ret (v := .agg #[.int .i64 4, .int .i64 (-1), .string ⟨#[]⟩]) (by simp [results, Tryd.results40, go_sem, x0, x1, x2, y0, y1, y2]) rfl (FIN.out _ (some ([], 4)) (((HB.out.setCell (by simp) _).setCell (by simp) _).setCell (by simp) _) (by rw [← HR.out]; simp [chkHead, g2]))
    have g2' : decide (9007199254740991 < n) = false := decide_eq_false g2
    by_cases g1 : n < -9007199254740991
    · go_enter Tryd.func40, Tryd.ntmps40
      go_wp2_with fail
      refine (err_any 4 _).mono ?_
      rintro e W ⟨rfl, hb⟩
      obtain ⟨⟨x0, x1, x2⟩, y0, y1, y2⟩ := H0.out.2.below hb (by simp)
      have hz : w.heap.size + 1 < W.heap.size := lt_of_cell x0
      have HB := Lib.hid (H0.out.1.trans (hb.mono (by simp; omega)))
      clear hb
      go_wp2_with fail
      exact bodyPost_ret (v := .agg #[.int .i64 4, .int .i64 (-1), .string ⟨#[]⟩]) (by simp [results, Tryd.results40, go_sem, x0, x1, x2, y0, y1, y2]) rfl (FIN.out _ (some ([], 4)) (((HB.out.setCell (by simp) _).setCell (by simp) _).setCell (by simp) _) (by rw [← HR.out]; simp [chkHead, g1]))
    · go_enter Tryd.func40, Tryd.ntmps40
      go_wp2_with fail
      refine (none_any _).mono ?_
      rintro e W ⟨rfl, hb⟩
      obtain ⟨⟨x0, x1, x2⟩, y0, y1, y2⟩ := H0.out.2.below hb (by simp)
      have hz : w.heap.size + 1 < W.heap.size := lt_of_cell x0
      have HB := Lib.hid (H0.out.1.trans (hb.mono (by simp; omega)))
      clear hb
      go_wp2_with fail
      exact bodyPost_ret (v := .agg #[.int .i64 0, .int .i64 (-1), .string ⟨#[]⟩]) (by simp [results, Tryd.results40, go_sem, x0, x1, x2, y0, y1, y2]) rfl (FIN.out _ none (((HB.out.setCell (by simp) _).setCell (by simp) _).setCell (by simp) _) (by rw [← HR.out, chkHead, if_neg (by omega), if_pos rfl, if_neg (by omega)]))
  by_cases e3 : k = 3
  · subst e3
    have HU := Lib.hid (fun W => utf8_any t W (by omega))
    cases hB' : validB t
    · rw [hB'] at HU
      have HV := Lib.hid hB'
      clear hB'
      go_enter Tryd.func40, Tryd.ntmps40
      go_wp2_with fail
      refine (HU.out _).mono ?_
      rintro e W0 ⟨rfl, rfl⟩
      go_wp2_with fail
      refine (err_any 5 _).mono ?_
      rintro e W ⟨rfl, hb⟩
      obtain ⟨⟨x0, x1, x2⟩, y0, y1, y2⟩ := H0.out.2.below hb (by simp)
      have hz : w.heap.size + 1 < W.heap.size := lt_of_cell x0
      have HB := Lib.hid (H0.out.1.trans (hb.mono (by simp; omega)))
      clear hb
      go_wp2_with fail
      exact bodyPost_ret (v := .agg #[.int .i64 5, .int .i64 (-1), .string ⟨#[]⟩]) (by simp [results, Tryd.results40, go_sem, x0, x1, x2, y0, y1, y2]) rfl (FIN.out _ (some ([], 5)) (((HB.out.setCell (by simp) _).setCell (by simp) _).setCell (by simp) _) (by rw [← HR.out]; simp [chkHead, HV.out]))
    · rw [hB'] at HU
      have HV := Lib.hid hB'
      clear hB'
      go_enter Tryd.func40, Tryd.ntmps40
      go_wp2_with fail
      refine (HU.out _).mono ?_
      rintro e W0 ⟨rfl, rfl⟩
      go_wp2_with fail
      refine (none_any _).mono ?_
      rintro e W ⟨rfl, hb⟩
      obtain ⟨⟨x0, x1, x2⟩, y0, y1, y2⟩ := H0.out.2.below hb (by simp)
      have hz : w.heap.size + 1 < W.heap.size := lt_of_cell x0
      have HB := Lib.hid (H0.out.1.trans (hb.mono (by simp; omega)))
      clear hb
      go_wp2_with fail
      exact bodyPost_ret (v := .agg #[.int .i64 0, .int .i64 (-1), .string ⟨#[]⟩]) (by simp [results, Tryd.results40, go_sem, x0, x1, x2, y0, y1, y2]) rfl (FIN.out _ none (((HB.out.setCell (by simp) _).setCell (by simp) _).setCell (by simp) _) (by rw [← HR.out]; simp [chkHead, HV.out]))
  by_cases e4 : k = 4
  · subst e4
    obtain ⟨rfl, hfl, hfm⟩ : dp = 20 ∧ fl l = some ([], 3) ∧ fm m = some ([], 3) := by
      rcases hk with h | h
      · exact absurd rfl h.1
      · exact h
    have HF := Lib.hid hfl
    clear hfl hfm hk
    go_enter Tryd.func40, Tryd.ntmps40
    go_wp2_with fail
    refine (err_any 3 _).mono ?_
    rintro e W ⟨rfl, hb⟩
    obtain ⟨⟨x0, x1, x2⟩, y0, y1, y2⟩ := H0.out.2.below hb (by simp)
    have hz : w.heap.size + 1 < W.heap.size := lt_of_cell x0
    have HB := Lib.hid (H0.out.1.trans (hb.mono (by simp; omega)))
    clear hb
    go_wp2_with fail
    exact bodyPost_ret (v := .agg #[.int .i64 3, .int .i64 (-1), .string ⟨#[]⟩]) (by simp [results, Tryd.results40, go_sem, x0, x1, x2, y0, y1, y2]) rfl (FIN.out _ (some ([], 3)) (((HB.out.setCell (by simp) _).setCell (by simp) _).setCell (by simp) _) (by rw [← HR.out]; simp [chkHead, HF.out]))
  by_cases e5 : k = 5
  · subst e5
    obtain ⟨rfl, hfl, hfm⟩ : dp = 20 ∧ fl l = some ([], 3) ∧ fm m = some ([], 3) := by
      rcases hk with h | h
      · exact absurd rfl h.2
      · exact h
    have HF := Lib.hid hfm
    clear hfl hfm hk
    go_enter Tryd.func40, Tryd.ntmps40
    go_wp2_with fail
    refine (err_any 3 _).mono ?_
    rintro e W ⟨rfl, hb⟩
    obtain ⟨⟨x0, x1, x2⟩, y0, y1, y2⟩ := H0.out.2.below hb (by simp)
    have hz : w.heap.size + 1 < W.heap.size := lt_of_cell x0
    have HB := Lib.hid (H0.out.1.trans (hb.mono (by simp; omega)))
    clear hb
    go_wp2_with fail
    exact bodyPost_ret (v := .agg #[.int .i64 3, .int .i64 (-1), .string ⟨#[]⟩]) (by simp [results, Tryd.results40, go_sem, x0, x1, x2, y0, y1, y2]) rfl (FIN.out _ (some ([], 3)) (((HB.out.setCell (by simp) _).setCell (by simp) _).setCell (by simp) _) (by rw [← HR.out]; simp [chkHead, HF.out]))
  · have k0 : (k == 0) = false := beq_eq_false_iff_ne.2 e0
    have k1 : (k == 1) = false := beq_eq_false_iff_ne.2 e1
    have k2 : (k == 2) = false := beq_eq_false_iff_ne.2 e2
    have k3 : (k == 3) = false := beq_eq_false_iff_ne.2 e3
    have k4 : (k == 4) = false := beq_eq_false_iff_ne.2 e4
    have k5 : (k == 5) = false := beq_eq_false_iff_ne.2 e5
    have HK : Hid (chkHead fl fm (.mk k y n t l m) = some ([], 9)) := by
      show _ = _
      rw [chkHead, if_neg (by omega), if_neg e2, if_neg e3, if_neg e4, if_neg e5]
    clear hk e0 e1 e2 e3 e4 e5
    go_enter Tryd.func40, Tryd.ntmps40
    go_wp2_with fail
    refine (err_any 9 _).mono ?_
    rintro e W ⟨rfl, hb⟩
    obtain ⟨⟨x0, x1, x2⟩, y0, y1, y2⟩ := H0.out.2.below hb (by simp)
    have hz : w.heap.size + 1 < W.heap.size := lt_of_cell x0
    have HB := Lib.hid (H0.out.1.trans (hb.mono (by simp; omega)))
    clear hb
    go_wp2_with fail
    exact bodyPost_ret (v := .agg #[.int .i64 9, .int .i64 (-1), .string ⟨#[]⟩]) (by simp [results, Tryd.results40, go_sem, x0, x1, x2, y0, y1, y2]) rfl (FIN.out _ (some ([], 9)) (((HB.out.setCell (by simp) _).setCell (by simp) _).setCell (by simp) _) (by rw [← HR.out]; exact HK.out))
end Go.Proofs.YtigegjeikkopjaaDoor
