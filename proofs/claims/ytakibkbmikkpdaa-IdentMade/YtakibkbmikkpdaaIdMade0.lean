/-
  Names, plain: a name that is put together of parts is one just if the parts may be. No walk stands here.
-/
import Derived.Test.YtakibkbmikkpdaaId0
namespace Go.Proofs.Ytakibkbmikkpdaa
open Go.RowKit Go.Lib
set_option linter.unusedVariables false
set_option linter.unusedSimpArgs false

theorem ahead_join : ∀ {l : List UInt8} {r : List UInt8}, l.contains 58 = false → aheadL (l ++ 58 :: r) = l
  | [], r, _ => by simp [aheadL]
  | c :: l, r, h => by
    rw [List.contains_cons, Bool.or_eq_false_iff] at h
    have hc : (c == 58) = false := by
      have := h.1
      rw [beq_eq_false_iff_ne] at this ⊢
      exact Ne.symm this
    have ih := ahead_join (r := r) h.2
    unfold aheadL at ih ⊢
    rw [List.cons_append, List.takeWhile_cons, hc]
    simp [ih]
def ofL (l : List UInt8) : ByteArray := ⟨l.toArray⟩
theorem ofL_size (l : List UInt8) : (ofL l).size = l.length := List.size_toArray
theorem ahead_ofL {l r : List UInt8} (h : l.contains 58 = false) : aheadB (ofL (l ++ 58 :: r)) = ofL l ∧ behindB (ofL (l ++ 58 :: r)) = ofL r ∧ hasB (ofL (l ++ 58 :: r)) 58 = true := by
  have e : (ofL (l ++ 58 :: r)).data.toList = l ++ 58 :: r := rfl
  refine ⟨?_, ?_, ?_⟩
  · rw [aheadB, e, ahead_join h]; rfl
  · rw [behindB, e, ahead_join h, List.drop_append]
    have : (l ++ 58 :: r).drop (l.length + 1) = r := by
      rw [List.drop_append, List.drop_eq_nil_of_le (by omega)]
      simp
    rw [← List.drop_append, this]
    rfl
  · rw [hasB, e, List.contains_append, List.contains_cons]
    simp
theorem ahead_plain {l : List UInt8} (h : l.contains 58 = false) : aheadB (ofL l) = ofL l ∧ hasB (ofL l) 58 = false := by
  have e : (ofL l).data.toList = l := rfl
  exact ⟨by rw [aheadB, e, ahead_none h]; rfl, by rw [hasB, e]; exact h⟩
theorem rest_ofL (c : UInt8) (t : List UInt8) : restB (ofL (c :: t)) = ofL t ∧ firstB (ofL (c :: t)) = c := by
  constructor
  · apply ByteArray.ext
    apply Array.toList_inj.1
    have hr : ∀ s : ByteArray, (restB s).data.toList = s.data.toList.drop 1 := fun s => by
      rw [restB]
      simp
      rw [List.take_of_length_le]
      simp
    rw [hr]
    rfl
  · rfl
theorem all_ofL {l : List UInt8} {a b : Nat} {L : ByteArray} (h : l.all (hasB L) = true) : allB (ofL l) a b L = (decide (a ≤ l.length) && decide (l.length ≤ b)) := by
  have e : (ofL l).data.toList = l := rfl
  rw [allB, ofL_size, e, h, Bool.and_true]
def tailL : Option (List UInt8) → List UInt8
  | none => []
  | some z => 58 :: z
def portOk : Option (List UInt8) → Bool
  | none => true
  | some z => decide (1 ≤ z.length) && decide (z.length ≤ 5)
/-- The name of these parts. -/
def madeL (c : UInt8) (x y : List UInt8) (d : Option (List UInt8)) : List UInt8 := c :: (x ++ 58 :: (y ++ tailL d))
theorem made_server {y : List UInt8} {d : Option (List UInt8)} (hy : y.contains 58 = false) (hy2 : y.all (hasB srvL) = true) (hd : ∀ z, d = some z → z.all (hasB digL) = true) :
    isServer (ofL (y ++ tailL d)) = ((decide (1 ≤ y.length) && decide (y.length ≤ 50)) && portOk d) := by
  cases d with
  | none =>
    rw [tailL, List.append_nil]
    obtain ⟨h1, h2⟩ := ahead_plain hy
    rw [isServer, h1, h2, all_ofL hy2]
    rfl
  | some z =>
    rw [tailL]
    obtain ⟨h1, h2, h3⟩ := ahead_ofL (r := z) hy
    rw [isServer, h1, h2, h3, all_ofL hy2, all_ofL (hd z rfl)]
    rfl
theorem made_is {k : Nat} {c : UInt8} {x y : List UInt8} {d : Option (List UInt8)} (hk : signKind c = k) (hk0 : k ≠ 0) (hx : x.contains 58 = false) (hx2 : x.all (hasB (signL c)) = true) (hy : y.contains 58 = false) (hy2 : y.all (hasB srvL) = true) (hd : ∀ z, d = some z → z.all (hasB digL) = true) :
    isName k (ofL (madeL c x y d)) = ((decide (1 ≤ x.length) && decide (x.length ≤ 50)) && ((decide (1 ≤ y.length) && decide (y.length ≤ 50)) && portOk d)) := by
  obtain ⟨h1, h2⟩ := rest_ofL c (x ++ 58 :: (y ++ tailL d))
  obtain ⟨h3, h4, h5⟩ := ahead_ofL (r := y ++ tailL d) hx
  have hsz : (ofL (madeL c x y d)).size ≠ 0 := by rw [ofL_size, madeL]; simp
  have hkr : k = 1 ∨ k = 2 ∨ k = 3 := by
    subst hk
    rcases sign_cases c hk0 with rfl | rfl | rfl
    · exact .inl (by decide)
    · exact .inr (.inl (by decide))
    · exact .inr (.inr (by decide))
  have hN : nameKind (ofL (madeL c x y d)) = if ((decide (1 ≤ x.length) && decide (x.length ≤ 50)) && ((decide (1 ≤ y.length) && decide (y.length ≤ 50)) && portOk d)) = true then k else 0 := by
    rw [nameKind, if_neg hsz]
    unfold madeL
    rw [h1, h2, h3, h4, h5, all_ofL hx2, made_server hy hy2 hd, Bool.true_and, hk]
  have hname : isName (k : Int) (ofL (madeL c x y d)) = ((nameKind (ofL (madeL c x y d)) : Int) == (k : Int)) := by
    rw [isName, if_pos (by omega)]
  rw [hname, hN]
  generalize ((decide (1 ≤ x.length) && decide (x.length ≤ 50)) && ((decide (1 ≤ y.length) && decide (y.length ≤ 50)) && portOk d)) = b
  cases b with
  | true => simp
  | false =>
    rw [if_neg (by decide), beq_eq_false_iff_ne]
    omega
end Go.Proofs.Ytakibkbmikkpdaa
