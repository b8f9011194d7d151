/-
  value.copyAlone, walked: by the kind.
-/
import Derived.Test.YtpehddbpingobaaDoorCopy1
import Derived.Deep.DeepMust
namespace Go.Proofs.YtpehddbpingobaaDoor
open Go.RowKit Go.Lib
set_option linter.unusedVariables false
set_option linter.unusedSimpArgs false

/-- What copyAlone makes of a value: what counts of it; the elements of its list or map in a row of the call's own, as they were. -/
def AloneOut (w : World) (Q : Nat → Prop) (M : Nat) : V → World → C6 → Prop
  | .mk k y n t l m, w', o => (o.k = k ∧ o.y = (if k = 1 then y else false) ∧ o.n = (if k = 2 then n else 0) ∧ o.t = (if k = 3 then t else ⟨#[]⟩)) ∧
    (if k = 4 then (∃ css : List C6, css.length = l.length ∧ (∀ i (h1 : i < l.length) (h2 : i < css.length), Val w Q M l[i] css[i].arr) ∧ w'.ownsRow w.heap.size 39 6 (.slice o.a o.la o.ca) l.length (css.flatMap C6.cells)) else (o.a = none ∧ o.la = 0 ∧ o.ca = 0)) ∧
    (if k = 5 then (∃ css : List C6, css.length = m.length ∧ (∀ i (h1 : i < m.length) (h2 : i < css.length), m[i].1.size ≤ M ∧ Val w Q M m[i].2 css[i].arr) ∧ w'.ownsRow w.heap.size 46 7 (.slice o.b o.lb o.cb) m.length ((m.zip css).flatMap fun p => mem7 p.1.1 p.2)) else (o.b = none ∧ o.lb = 0 ∧ o.cb = 0))

theorem info_Member : (Tryd.prog.info? 46).map (fun i => (i.zero, i.size, i.bytes)) = some (some (.agg #[.string ⟨#[]⟩, .int .i64 0, .bool false, .int .i64 0, .string ⟨#[]⟩, .slice none 0 0, .slice none 0 0]), 7, 104) := by kernel_rfl

theorem add_plain (b off j : Nat) : (⟨b, off, none⟩ : Addr).add j = ⟨b, off + j, none⟩ := by
  unfold Addr.add
  split
  · subst_vars; rfl
  · rfl

theorem block_add (a : Addr) (n : Nat) : (a.add n).block = a.block := by unfold Addr.add; split <;> rfl

def CA (w : World) (Q : Nat → Prop) (M : Nat) (d : V) (e : Ending) (w' : World) : Prop := (∃ o : C6, e = .returned (.agg o.arr) ∧ AloneOut w Q M d w' o) ∧ Below w.heap.size w w'

set_option maxRecDepth 100000 in
set_option maxHeartbeats 4000000 in
theorem copyAlone_any (d : V) (cs : Array Value) (Q : Nat → Prop) (w : World) (hv : Val w Q 1000000 d cs) (hQ : ∀ b, Q b → b < w.heap.size) :
    Calls Tryd.prog 37 #[.agg cs] w (CA w Q 1000000 d) := by
  cases d with
  | mk k y n t l m =>
  rw [Val] at hv
  obtain ⟨A1, c1, A2, c2, rfl, ⟨h1c, h2c, ht, hl, hm, hn1, hn2⟩, hvl, hvm⟩ := hv
  have hb0 : ∀ o1 o2, Below w.heap.size w ((w.alloc o1).alloc o2) := fun o1 o2 => ((Below.refl _ _).alloc (Nat.le_refl _) _).alloc (by simp) _
  have fin : ∀ (o : C6) (w' : World), AloneOut w Q 1000000 (.mk k y n t l m) w' o → Below w.heap.size w w' → CA w Q 1000000 (.mk k y n t l m) (.returned (.agg o.arr)) w' := fun o w' h1 h2 => ⟨⟨o, rfl, h1⟩, h2⟩
  have FIN := Lib.hid fin
  clear fin
  by_cases e1 : k = 1
  · subst e1
    clear hvl hvm
    go_enter Tryd.func37, Tryd.ntmps37
    go_wp2_with fail
    exact bodyPost_ret (by simp [results, Tryd.results37, go_sem]; rfl) rfl (FIN.out ⟨1, y, 0, ⟨#[]⟩, none, 0, 0, none, 0, 0⟩ _ (by simp [AloneOut]) (hb0 _ _))
  by_cases e2 : k = 2
  · subst e2
    clear hvl hvm
    go_enter Tryd.func37, Tryd.ntmps37
    go_wp2_with fail
    exact bodyPost_ret (by simp [results, Tryd.results37, go_sem]; rfl) rfl (FIN.out ⟨2, false, n, ⟨#[]⟩, none, 0, 0, none, 0, 0⟩ _ (by simp [AloneOut]) (hb0 _ _))
  by_cases e3 : k = 3
  · subst e3
    clear hvl hvm
    go_enter Tryd.func37, Tryd.ntmps37
    go_wp2_with fail
    exact bodyPost_ret (by simp [results, Tryd.results37, go_sem]; rfl) rfl (FIN.out ⟨3, false, 0, t, none, 0, 0, none, 0, 0⟩ _ (by simp [AloneOut]) (hb0 _ _))
  by_cases e4 : k = 4
  · subst e4
    obtain ⟨css, hcl, hcv, hcm⟩ := hvl.rows
    have HV := Lib.hid hcv
    clear hvl hvm hcv
    obtain ⟨i0, hi, hz0, hz1, hz2⟩ := info_parts info_Value
    obtain ⟨W0, hW0⟩ : ∃ W0, W0 = (w.alloc (.cells #[.int .i64 4, .bool y, .int .i64 n, .string t, .slice A1 l.length c1, .slice A2 m.length c2] 39)).alloc (.cells #[.int .i64 0, .bool false, .int .i64 0, .string ⟨#[]⟩, .slice none 0 0, .slice none 0 0] 39) := ⟨_, rfl⟩
    have hbW : Below w.heap.size w W0 := hW0 ▸ hb0 _ _
    have hwh : Whole W0 (w.heap.size + 1) 39 #[.int .i64 0, .bool false, .int .i64 0, .string ⟨#[]⟩, .slice none 0 0, .slice none 0 0] := by
      subst hW0
      simpa using Whole.made (w.alloc (.cells #[.int .i64 4, .bool y, .int .i64 n, .string t, .slice A1 l.length c1, .slice A2 m.length c2] 39)) 39 #[.int .i64 0, .bool false, .int .i64 0, .string ⟨#[]⟩, .slice none 0 0, .slice none 0 0]
    have hsz : W0.heap.size = w.heap.size + 2 := by subst hW0; simp
    have HW := Lib.hid (And.intro hbW (And.intro hwh hsz))
    subst hW0
    clear hbW hwh hsz
    cases A1 with
    | none =>
      have hln : l = [] := by
        cases h0 : l with
        | nil => rfl
        | cons x r => obtain ⟨b, off, e, -⟩ := hcm (by rw [h0]; simp); cases e
      subst hln
      obtain rfl := hn1 rfl
      have hcs : css = [] := List.eq_nil_of_length_eq_zero hcl
      subst hcs
      clear hcm hcl hn1
      go_enter Tryd.func37, Tryd.ntmps37
      go_wp2_with (at_builtin; go_must (refine wpList_append_own_none rfl _ _ 36 rfl w.heap.size 39 i0 6 Tryd.underlying36 hi _ 0 [] rfl (World.ownsRow_nil _ _ _ _) rfl ?_))
      exact bodyPost_ret (by simp [results, Tryd.results37, go_sem]; rfl) rfl (FIN.out ⟨4, false, 0, ⟨#[]⟩, none, 0, 0, none, 0, 0⟩ _ ⟨⟨rfl, by simp, by simp, by simp⟩, by rw [if_pos rfl]; exact ⟨[], rfl, by simp, World.ownsRow_nil _ _ _ _⟩, by simp⟩ (hb0 _ _))
    | some ad =>
      have hnews : ∀ j u, (css.flatMap C6.cells)[j]? = some u → w.cell? (ad.add j) = some u ∧ ad.block < w.heap.size := fun j u hu => by
        have hne : l ≠ [] := fun h0 => by subst h0; have : css = [] := List.eq_nil_of_length_eq_zero hcl; subst this; simp at hu
        obtain ⟨b, off, e, hq, hc⟩ := hcm hne
        injection e with e
        subst e
        exact ⟨by rw [add_plain]; exact hc j u hu, hQ _ hq⟩
      have HN := Lib.hid (And.intro hcl hnews)
      clear hcm hcl hnews
      go_enter Tryd.func37, Tryd.ntmps37
      go_wp2_with (first
        | (at_builtin; go_must (refine wpList_append_own _ rfl _ _ 36 rfl (w.heap.size + 2) 39 i0 (.agg #[.int .i64 0, .bool false, .int .i64 0, .string ⟨#[]⟩, .slice none 0 0, .slice none 0 0]) 6 88 Tryd.underlying36 hi hz0 hz1 hz2 rfl (by decide) (.slice none 0 0) 0 [] rfl (World.ownsRow_nil _ _ _ _) ad l.length _ (css.flatMap C6.cells) rfl (by have hcl := HN.out.1; rw [flat_len C6.cells 6 C6.length, hcl]) (fun j u hu => by obtain ⟨h1, h2⟩ := HN.out.2 j u hu; rw [HW.out.1.cell (by rw [block_add]; exact h2)]; exact h1) (fun u hu => by obtain ⟨p, -, hp⟩ := List.mem_flatMap.1 hu; exact p.one u hp) (by unfold maxLen; omega) (by omega) (by simp) ?_); intro v' w3 hown' hgrow3 hnil3
           have hform : ∃ a' n' c', v' = .slice a' n' c' := by
             rcases Go.Joins.ownsRow_forms hown' with ⟨rfl, _⟩ | ⟨g, cap, rfl⟩ <;> exact ⟨_, _, _, rfl⟩
           obtain ⟨a', n', c', rfl⟩ := hform
           have X : Hid (w3.ownsRow (w.heap.size + 2) 39 6 (.slice a' n' c') (0 + l.length) ([] ++ (css.flatMap C6.cells)) ∧ Below w.heap.size w w3) := ⟨hown', Below.grown HW.out.1 hgrow3 (by simp; omega) (fun j hj => by cases hj)⟩
           have hwh := HW.out.2.1.grown hgrow3 (fun e => by cases e)
           have z0 := hwh.lt
           obtain ⟨x0, x1, x2, x3, x4, x5⟩ := hwh.six
           have f0 := hwh.frozen 0
           have f1 := hwh.frozen 1
           have f2 := hwh.frozen 2
           have f3 := hwh.frozen 3
           have f4 := hwh.frozen 4
           have f5 := hwh.frozen 5
           clear hown' hgrow3 hnil3 hwh))
      have hX := X.out
      simp only [Nat.zero_add, List.nil_append] at hX
      exact bodyPost_ret (v := .agg #[.int .i64 4, .bool false, .int .i64 0, .string ⟨#[]⟩, .slice a' n' c', .slice none 0 0]) (by simp [results, Tryd.results37, go_sem, x0, x1, x2, x3, x4, x5]) rfl (FIN.out ⟨4, false, 0, ⟨#[]⟩, a', n', c', none, 0, 0⟩ _ ⟨⟨rfl, by simp, by simp, by simp⟩, by rw [if_pos rfl]; exact ⟨css, HN.out.1, HV.out, Go.Joins.ownsRow_le (ownsRow_setCell_below (ownsRow_setCell_below (ownsRow_setCell_below (ownsRow_setCell_below (ownsRow_setCell_below (ownsRow_setCell_below hX.1 (by simp) _) (by simp) _) (by simp) _) (by simp) _) (by simp) _) (by simp) _) (by omega)⟩, by simp⟩ ((((((hX.2.setCell (by simp) _).setCell (by simp) _).setCell (by simp) _).setCell (by simp) _).setCell (by simp) _).setCell (by simp) _))
  by_cases e5 : k = 5
  · subst e5
    obtain ⟨css, hcl, hcv, hcm⟩ := hvm.rows
    have HV := Lib.hid hcv
    clear hvl hvm hcv
    obtain ⟨i0, hi, hz0, hz1, hz2⟩ := info_parts info_Member
    obtain ⟨W0, hW0⟩ : ∃ W0, W0 = (w.alloc (.cells #[.int .i64 5, .bool y, .int .i64 n, .string t, .slice A1 l.length c1, .slice A2 m.length c2] 39)).alloc (.cells #[.int .i64 0, .bool false, .int .i64 0, .string ⟨#[]⟩, .slice none 0 0, .slice none 0 0] 39) := ⟨_, rfl⟩
    have hbW : Below w.heap.size w W0 := hW0 ▸ hb0 _ _
    have hwh : Whole W0 (w.heap.size + 1) 39 #[.int .i64 0, .bool false, .int .i64 0, .string ⟨#[]⟩, .slice none 0 0, .slice none 0 0] := by
      subst hW0
      simpa using Whole.made (w.alloc (.cells #[.int .i64 5, .bool y, .int .i64 n, .string t, .slice A1 l.length c1, .slice A2 m.length c2] 39)) 39 #[.int .i64 0, .bool false, .int .i64 0, .string ⟨#[]⟩, .slice none 0 0, .slice none 0 0]
    have hsz : W0.heap.size = w.heap.size + 2 := by subst hW0; simp
    have HW := Lib.hid (And.intro hbW (And.intro hwh hsz))
    subst hW0
    clear hbW hwh hsz
    cases A2 with
    | none =>
      have hln : m = [] := by
        cases h0 : m with
        | nil => rfl
        | cons x r => obtain ⟨b, off, e, -⟩ := hcm (by rw [h0]; simp); cases e
      subst hln
      obtain rfl := hn2 rfl
      have hcs : css = [] := List.eq_nil_of_length_eq_zero hcl
      subst hcs
      clear hcm hcl hn2
      go_enter Tryd.func37, Tryd.ntmps37
      go_wp2_with (at_builtin; go_must (refine wpList_append_own_none rfl _ _ 37 rfl w.heap.size 46 i0 7 Tryd.underlying37 hi _ 0 [] rfl (World.ownsRow_nil _ _ _ _) rfl ?_))
      exact bodyPost_ret (by simp [results, Tryd.results37, go_sem]; rfl) rfl (FIN.out ⟨5, false, 0, ⟨#[]⟩, none, 0, 0, none, 0, 0⟩ _ ⟨⟨rfl, by simp, by simp, by simp⟩, by simp, by rw [if_pos rfl]; exact ⟨[], rfl, by simp, World.ownsRow_nil _ _ _ _⟩⟩ (hb0 _ _))
    | some ad =>
      have hnews : ∀ j u, ((m.zip css).flatMap fun p => mem7 p.1.1 p.2)[j]? = some u → w.cell? (ad.add j) = some u ∧ ad.block < w.heap.size := fun j u hu => by
        have hne : m ≠ [] := fun h0 => by subst h0; have : css = [] := List.eq_nil_of_length_eq_zero hcl; subst this; simp at hu
        obtain ⟨b, off, e, hq, hc⟩ := hcm hne
        injection e with e
        subst e
        exact ⟨by rw [add_plain]; exact hc j u hu, hQ _ hq⟩
      have HN := Lib.hid (And.intro hcl hnews)
      clear hcm hcl hnews
      go_enter Tryd.func37, Tryd.ntmps37
      go_wp2_with (first
        | (at_builtin; go_must (refine wpList_append_own _ rfl _ _ 37 rfl (w.heap.size + 2) 46 i0 (.agg #[.string ⟨#[]⟩, .int .i64 0, .bool false, .int .i64 0, .string ⟨#[]⟩, .slice none 0 0, .slice none 0 0]) 7 104 Tryd.underlying37 hi hz0 hz1 hz2 rfl (by decide) (.slice none 0 0) 0 [] rfl (World.ownsRow_nil _ _ _ _) ad m.length _ ((m.zip css).flatMap fun p => mem7 p.1.1 p.2) rfl (by have hcl := HN.out.1; rw [flat_len (fun p : (ByteArray × V) × C6 => mem7 p.1.1 p.2) 7 (fun _ => rfl), List.length_zip, hcl, Nat.min_self]) (fun j u hu => by obtain ⟨h1, h2⟩ := HN.out.2 j u hu; rw [HW.out.1.cell (by rw [block_add]; exact h2)]; exact h1) (fun u hu => by obtain ⟨p, -, hp⟩ := List.mem_flatMap.1 hu; exact mem7_one _ _ u hp) (by unfold maxLen; omega) (by omega) (by simp) ?_); intro v' w3 hown' hgrow3 hnil3
           have hform : ∃ a' n' c', v' = .slice a' n' c' := by
             rcases Go.Joins.ownsRow_forms hown' with ⟨rfl, _⟩ | ⟨g, cap, rfl⟩ <;> exact ⟨_, _, _, rfl⟩
           obtain ⟨a', n', c', rfl⟩ := hform
           have X : Hid (w3.ownsRow (w.heap.size + 2) 46 7 (.slice a' n' c') (0 + m.length) ([] ++ ((m.zip css).flatMap fun p => mem7 p.1.1 p.2)) ∧ Below w.heap.size w w3) := ⟨hown', Below.grown HW.out.1 hgrow3 (by simp; omega) (fun j hj => by cases hj)⟩
           have hwh := HW.out.2.1.grown hgrow3 (fun e => by cases e)
           have z0 := hwh.lt
           obtain ⟨x0, x1, x2, x3, x4, x5⟩ := hwh.six
           have f0 := hwh.frozen 0
           have f1 := hwh.frozen 1
           have f2 := hwh.frozen 2
           have f3 := hwh.frozen 3
           have f4 := hwh.frozen 4
           have f5 := hwh.frozen 5
           clear hown' hgrow3 hnil3 hwh))
      have hX := X.out
      simp only [Nat.zero_add, List.nil_append] at hX
      exact bodyPost_ret (v := .agg #[.int .i64 5, .bool false, .int .i64 0, .string ⟨#[]⟩, .slice none 0 0, .slice a' n' c']) (by simp [results, Tryd.results37, go_sem, x0, x1, x2, x3, x4, x5]) rfl (FIN.out ⟨5, false, 0, ⟨#[]⟩, none, 0, 0, a', n', c'⟩ _ ⟨⟨rfl, by simp, by simp, by simp⟩, by simp, by rw [if_pos rfl]; exact ⟨css, HN.out.1, HV.out, Go.Joins.ownsRow_le (ownsRow_setCell_below (ownsRow_setCell_below (ownsRow_setCell_below (ownsRow_setCell_below (ownsRow_setCell_below (ownsRow_setCell_below hX.1 (by simp) _) (by simp) _) (by simp) _) (by simp) _) (by simp) _) (by simp) _) (by omega)⟩⟩ ((((((hX.2.setCell (by simp) _).setCell (by simp) _).setCell (by simp) _).setCell (by simp) _).setCell (by simp) _).setCell (by simp) _))
  · have k1 : (k == 1) = false := beq_eq_false_iff_ne.2 e1
    have k2 : (k == 2) = false := beq_eq_false_iff_ne.2 e2
    have k3 : (k == 3) = false := beq_eq_false_iff_ne.2 e3
    have k4 : (k == 4) = false := beq_eq_false_iff_ne.2 e4
    have k5 : (k == 5) = false := beq_eq_false_iff_ne.2 e5
    have HA := Lib.hid (show ∀ w', AloneOut w Q 1000000 (.mk k y n t l m) w' ⟨k, false, 0, ⟨#[]⟩, none, 0, 0, none, 0, 0⟩ from fun w' => ⟨⟨rfl, by simp [e1], by simp [e2], by simp [e3]⟩, by rw [if_neg e4]; simp, by rw [if_neg e5]; simp⟩)
    clear e1 e2 e3 e4 e5 hvl hvm
    go_enter Tryd.func37, Tryd.ntmps37
    go_wp2_with fail
    exact bodyPost_ret (by simp [results, Tryd.results37, go_sem]; rfl) rfl (FIN.out ⟨k, false, 0, ⟨#[]⟩, none, 0, 0, none, 0, 0⟩ _ (HA.out _) (hb0 _ _))
end Go.Proofs.YtpehddbpingobaaDoor
