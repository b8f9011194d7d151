/-
  The plain part of value.Members: what a finished copy of a map gives the sorting, and what stands behind the sorting. No walk stands here.
-/
import Derived.Test.YtpehddbpingobaaDoorSort2
namespace Go.Proofs.YtpehddbpingobaaDoor
open Go.RowKit Go.Lib Go.Shelf Go.Sort
set_option linter.unusedVariables false
set_option linter.unusedSimpArgs false

theorem kSize_mem : ∀ {kids : List (ByteArray × V)} (i : Nat) (h : i < kids.length), vsize kids[i].2 ≤ kSize kids
  | (s, v) :: r, 0, h => by simp only [List.getElem_cons_zero, kSize]; omega
  | (s, v) :: r, i + 1, h => by
    have := kSize_mem (kids := r) i (by simpa using h)
    simp only [List.getElem_cons_succ, kSize]; omega
theorem VOkM.key {M : Nat} : ∀ {l : List (ByteArray × V)}, VOkM M l → ∀ i (h : i < l.length), l[i].1.size ≤ M ∧ VOk M l[i].2
  | (s, v) :: r, hok, 0, h => ⟨hok.1, hok.2.1⟩
  | (s, v) :: r, hok, i + 1, h => VOkM.key hok.2.2 i (by simpa using h)

/-- The members' rows: keys and values, the values in blocks that Q says. -/
def Kids (W : World) (Q : Nat → Prop) (d : List KVC) : Prop := ∀ p ∈ d, p.1.1.size ≤ 1000000 ∧ Val W Q 1000000 p.1.2 p.2.arr

theorem Made.members {w W : World} {ms : List (ByteArray × V)} {o : C6} (h : Made w W (.mk 5 false 0 ⟨#[]⟩ [] ms) o) (hn : ms ≠ []) :
    ∃ g cap css, o = ⟨5, false, 0, ⟨#[]⟩, none, 0, 0, some ⟨g, 0, none⟩, ms.length, cap⟩ ∧ ms.length ≤ cap ∧ ms.length ≤ 1000000 ∧ w.heap.size ≤ g ∧ g < W.heap.size ∧ css.length = ms.length ∧
      Row7 W g 0 ((canonM ms).zip css) ∧ Kids W (fun b => (w.heap.size ≤ b ∧ b < W.heap.size) ∧ b ≠ g) ((canonM ms).zip css) := by
  obtain ⟨H, hI, hal, hok⟩ := h
  obtain ⟨ok, oy, on_, ot, oa, ola, oca, ob, olb, ocb⟩ := o
  obtain ⟨⟨e1, e2, e3, e4⟩, h2, h3⟩ := hal
  obtain ⟨-, -, hlm, -, hvm⟩ := hok
  dsimp only at e1 e2 e3 e4 h2 h3
  subst e1
  rw [if_neg (by omega)] at e2 e3 e4 h2
  rw [if_pos rfl] at h3
  subst e2 e3 e4
  obtain ⟨rfl, rfl, rfl⟩ := h2
  obtain ⟨r1, r2, r3, r4⟩ := h3
  subst r1
  obtain ⟨g, rfl, hg⟩ := r4 hn
  obtain ⟨hb, css, hc, hel⟩ := hI g _ _ hg
  have hcl : css.length = ms.length := hc.1
  refine ⟨g, ocb, css, rfl, r2, hlm, hb, hI.lt hg, hcl, fun i hi q hq => ⟨?_, ?_⟩, fun p hp => ?_⟩
  · have hi' : i < ms.length := by rw [List.length_zip, canonM_length] at hi; omega
    have := hc.cell i q hi' (by omega) (by simpa [esz] using hq)
    rw [List.getElem_zip, canonM_get ms i (by rw [canonM_length]; exact hi') hi']
    simpa [esz, elem, encM] using this
  · obtain ⟨-, cur, hcur, -⟩ := hc
    exact Whole.frozen hcur _
  · obtain ⟨i, hi, rfl⟩ := List.getElem_of_mem hp
    have hi' : i < ms.length := by rw [List.length_zip, canonM_length] at hi; omega
    rw [List.getElem_zip, canonM_get ms i (by rw [canonM_length]; exact hi') hi']
    refine ⟨(hvm.key i hi').1, ?_⟩
    rcases hel i hi' (by omega) with ⟨-, h5⟩ | ⟨h5, -⟩
    · refine Alone.val hI (K := kSize ms) (fun b mp kids hb' hk => ⟨⟨(hI b mp kids hb').1, hI.lt hb'⟩, fun e => ?_⟩) _ _ h5 (hvm.key i hi').2 (kSize_mem i hi')
      subst e
      rw [hg] at hb'
      injection hb' with hb'
      injection hb' with e1 e2
      subst e2
      omega
    · exact absurd trivial h5
theorem Made.empty {w W : World} {o : C6} (h : Made w W (.mk 5 false 0 ⟨#[]⟩ [] []) o) : ∃ b cap, o = ⟨5, false, 0, ⟨#[]⟩, none, 0, 0, b, 0, cap⟩ ∧ (b = none → cap = 0) := by
  obtain ⟨H, hI, hal, hok⟩ := h
  obtain ⟨ok, oy, on_, ot, oa, ola, oca, ob, olb, ocb⟩ := o
  obtain ⟨⟨e1, e2, e3, e4⟩, h2, h3⟩ := hal
  dsimp only at e1 e2 e3 e4 h2 h3
  subst e1
  rw [if_neg (by omega)] at e2 e3 e4 h2
  rw [if_pos rfl] at h3
  subst e2 e3 e4
  obtain ⟨rfl, rfl, rfl⟩ := h2
  obtain ⟨r1, r2, r3, r4⟩ := h3
  subst r1
  exact ⟨_, _, rfl, r3⟩

theorem Kids.perm {W : World} {Q : Nat → Prop} {d d' : List KVC} (h : Kids W Q d) (hp : d'.Perm d) : Kids W Q d' := fun p hm => h p (hp.mem_iff.1 hm)
theorem Kids.keep {W W' : World} {Q Q' : Nat → Prop} {d : List KVC} (h : Kids W Q d) (hc : ∀ p : Addr, Q p.block → W'.cell? p = W.cell? p) (hQ : ∀ b, Q b → Q' b) : Kids W' Q' d := fun p hm => ⟨(h p hm).1, (h p hm).2.keep hc hQ⟩
theorem Row7.cell0 {W : World} {g : Nat} {d : List KVC} (h : Row7 W g 0 d) (i : Nat) (hi : i < d.length) : W.cell? ⟨g, i * 7, none⟩ = some (.string d[i].1.1) := by
  have := (h i hi 0 (by omega)).1
  simpa [encM, mem7] using this
theorem Row7.cells {W : World} {g : Nat} {d : List KVC} (h : Row7 W g 0 d) (i : Nat) (hi : i < d.length) : ∀ q, q < 6 → W.cell? ⟨g, i * 7 + (1 + q), none⟩ = d[i].2.arr[q]? := fun q hq => by
  have := (h i hi (1 + q) (by omega)).1
  rw [C6.arr_get]
  simpa [encM, mem7, Nat.add_comm 1 q, Nat.add_assoc] using this
theorem Row7.keep {W W' : World} {g : Nat} {d : List KVC} (h : Row7 W g 0 d) (hc : ∀ q, W'.cell? ⟨g, q, none⟩ = W.cell? ⟨g, q, none⟩) (hf : ∀ q, W'.frozen? ⟨g, q, none⟩ = W.frozen? ⟨g, q, none⟩) : Row7 W' g 0 d := fun i hi q hq => ⟨(hc _).trans (h i hi q hq).1, (hf _).trans (h i hi q hq).2⟩
/-- A sorted row is a map. -/
theorem Row7.val {W : World} {g cap : Nat} {Q : Nat → Prop} {d : List KVC} (h : Row7 W g 0 d) (hk : Kids W Q d) (hg : Q g) (hcap : d.length ≤ cap) (hl : d.length ≤ 1000000) :
    Val W Q 1000000 (.mk 5 false 0 ⟨#[]⟩ [] (d.map (·.1))) #[.int .i64 5, .bool false, .int .i64 0, .string ⟨#[]⟩, .slice none 0 0, .slice (some ⟨g, 0, none⟩) d.length cap] := by
  rw [Val]
  refine ⟨none, 0, some ⟨g, 0, none⟩, cap, by simp, ⟨by simp, by simpa using hcap, by simp [ByteArray.size], by simp, by simpa using hl, fun _ => rfl, fun e => by cases e⟩, by rw [ValL]; trivial, ?_⟩
  refine ValM.mk_ fun j hj => ?_
  have hj' : j < d.length := by simpa using hj
  refine ⟨g, 0, d[j].2.arr, rfl, hg, ?_, ?_, fun q hq => ?_, ?_⟩
  · rw [List.getElem_map]; exact (hk _ (List.getElem_mem hj')).1
  · rw [List.getElem_map]; simpa using h.cell0 j hj'
  · have := h.cells j hj' q hq
    simpa [Nat.zero_add] using this
  · rw [List.getElem_map]; exact (hk _ (List.getElem_mem hj')).2

/-- What Members answers: a map in the order of its keys; or a key that stands in it twice, the least. -/
def SortedM (ms : List (ByteArray × V)) : Prop := ∀ i j (hi : i < ms.length) (hj : j < ms.length), i < j → Op.bytesLess ms[j].1.data.toList ms[i].1.data.toList = false
def NoTwice (ms : List (ByteArray × V)) (n : Nat) : Prop := ∀ i (h : i + 1 < ms.length), i + 1 < n → ms[i].1 ≠ ms[i + 1].1
def MemAns (w w' : World) (ms : List (ByteArray × V)) (e : Ending) : Prop :=
  ∃ ms' : List (ByteArray × V), ms'.Perm (canonM ms) ∧ SortedM ms' ∧
    ((∃ o : C6, e = .returned (.tuple #[.agg o.arr, .nilIface]) ∧ NoTwice ms' ms'.length ∧ Val w' (fun b => w.heap.size ≤ b ∧ b < w'.heap.size) 1000000 (.mk 5 false 0 ⟨#[]⟩ [] ms') o.arr) ∨
     (∃ i v, ∃ h : i + 1 < ms'.length, e = .returned (.tuple #[.agg #[.int .i64 0, .bool false, .int .i64 0, .string ⟨#[]⟩, .slice none 0 0, .slice none 0 0], v]) ∧ NoTwice ms' (i + 1) ∧ ms'[i].1 = ms'[i + 1].1 ∧ Chain w' [(-1, ms'[i + 1].1)] 6 v))
end Go.Proofs.YtpehddbpingobaaDoor
