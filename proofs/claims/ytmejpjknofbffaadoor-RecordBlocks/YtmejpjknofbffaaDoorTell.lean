/-
  What Tell answers of an error that is a code behind faults: the code, the first place, the path; of no error: none.
-/
import Derived.Test.YtmejpjknofbffaaDoorAsTop
import Derived.Laws.ResultCell
import Derived.Deep.RegionHeld
import Derived.Outline
namespace Go.Proofs.YtmejpjknofbffaaDoor
open Go.RowKit Go.Extern.Stop Go.Stop Go.Extern

/-- One cell is put; all else that was there stays. -/
def Put (t : Addr) (v : Value) (w w' : World) : Prop :=
  w'.cell? t = some v ∧ (∀ p : Addr, p.block < w.heap.size → p ≠ t → w'.cell? p = w.cell? p) ∧ (∀ p : Addr, p.block < w.heap.size → w'.frozen? p = w.frozen? p) ∧ w.heap.size ≤ w'.heap.size ∧
  ∀ (B : Nat) (W : World), Below B W w → B ≤ t.block → B ≤ w.heap.size → Below B W w'
theorem put_alloc4 {t : Addr} {v old : Value} {w : World} (ht : w.cell? t = some old) (a b c d : Obj) : Put t v w (((((w.alloc a).alloc b).alloc c).alloc d).setCell t v) := by
  have htl := lt_of_cell ht
  have hc : ∀ p : Addr, p.block < w.heap.size → ((((w.alloc a).alloc b).alloc c).alloc d).cell? p = w.cell? p := fun p hp => by
    rw [World.cell?_alloc_lt _ _ p (by simp; omega), World.cell?_alloc_lt _ _ p (by simp; omega), World.cell?_alloc_lt _ _ p (by simp; omega), World.cell?_alloc_lt _ _ p hp]
  refine ⟨World.cell?_setCell_same _ _ _ ((hc t htl).trans ht), fun p hp hne => ?_, fun p hp => ?_, by simp [World.setCell]; omega, fun B W hb hB hs => ?_⟩
  · rw [World.cell?_setCell_other _ _ _ _ (fun e => hne e.symm), hc p hp]
  · rw [World.frozen?_setCell, World.frozen?_alloc_old _ _ p (by simp; omega), World.frozen?_alloc_old _ _ p (by simp; omega), World.frozen?_alloc_old _ _ p (by simp; omega), World.frozen?_alloc_old _ _ p (by omega)]
  · exact ((((hb.alloc hs _).alloc (by simp; omega) _).alloc (by simp; omega) _).alloc (by simp; omega) _).setCell hB _

def ErrVar (w : World) : Prop := w.cell? ⟨0, 0, none⟩ = some (.iface 83 (.agg #[.pointer (some ⟨7, 30, none⟩)]))
theorem ErrVar.below {w w' : World} (h : ErrVar w) (hb : Below w.heap.size w w') : ErrVar w' := by
  unfold ErrVar at *
  rw [hb.cell (lt_of_cell h)]
  exact h

theorem as_code_put (l : List (Int × ByteArray)) (c : Int) (v : Value) (t : Addr) (old : Value) (w : World) (hch : Chain w l c v) (hg : ErrVar w) (ht : w.cell? t = some old) (hf : w.frozen? t = false) :
    Calls Tryd.prog 19 #[v, .iface 54 (.pointer (some t))] w fun e w' => e = .returned (.bool true) ∧ Put t (.int .i64 c) w w' :=
  (as_code l c v t old w hch hg ht hf).mono fun _ _ ⟨he, hw⟩ => ⟨he, hw ▸ put_alloc4 ht _ _ _ _⟩
theorem as_fault_put (b : Nat) (t : Addr) (old : Value) (w : World) (hg : ErrVar w) (ht : w.cell? t = some old) (hf : w.frozen? t = false) :
    Calls Tryd.prog 19 #[.iface 55 (.pointer (some ⟨b, 0, none⟩)), .iface 56 (.pointer (some t))] w fun e w' => e = .returned (.bool true) ∧ Put t (.pointer (some ⟨b, 0, none⟩)) w w' :=
  (as_fault b t old w hg ht hf).mono fun _ _ ⟨he, hw⟩ => ⟨he, hw ▸ put_alloc4 ht _ _ _ _⟩
theorem as_none_below (c : Int) (t : Addr) (old : Value) (w : World) (hg : ErrVar w) (ht : w.cell? t = some old) (hf : w.frozen? t = false) :
    Calls Tryd.prog 19 #[.iface 52 (.int .i64 c), .iface 56 (.pointer (some t))] w fun e w' => e = .returned (.bool false) ∧ Below w.heap.size w w' :=
  (as_none c t old w hg ht hf).mono fun _ _ ⟨he, hw⟩ => ⟨he, hw ▸ (((Below.refl _ _).alloc (Nat.le_refl _) _).alloc (by simp) _).alloc (by simp; omega) _⟩

theorem none_any (w : World) : Calls Tryd.prog 14 #[] w fun e w' => e = .returned (.agg #[.int .i64 0, .int .i64 (-1), .string ⟨#[]⟩]) ∧ Below w.heap.size w w' := by
  go_enter Tryd.func14, Tryd.ntmps14
  go_wp2
  exact bodyPost_ret (v := .agg #[.int .i64 0, .int .i64 (-1), .string ⟨#[]⟩]) (by simp [results, Tryd.results14, go_sem]) rfl ⟨rfl, (Below.refl _ _).alloc (Nat.le_refl _) _⟩

theorem bcell {W w1 : World} (hb : Below W.heap.size W w1) : (∀ b o, b < W.heap.size → w1.cell? ⟨b, o, none⟩ = W.cell? ⟨b, o, none⟩) ∧ (∀ b o, b < W.heap.size → w1.frozen? ⟨b, o, none⟩ = W.frozen? ⟨b, o, none⟩) :=
  ⟨fun b o h => hb.cell (p := ⟨b, o, none⟩) h, fun b o h => hb.frozen (p := ⟨b, o, none⟩) h⟩

theorem tell_nil (w : World) : Calls Tryd.prog 8 #[.nilIface] w fun e w' => e = .returned (.agg #[.int .i64 0, .int .i64 (-1), .string ⟨#[]⟩]) ∧ Below w.heap.size w w' := by
  go_enter Tryd.func8, Tryd.ntmps8
  go_wp2_with fail
  refine (none_any _).mono ?_
  rintro e w1 ⟨rfl, hb⟩
  obtain ⟨hc, hf⟩ := bcell hb
  have hz : w.heap.size < w1.heap.size := by have := hb.size; simp at this; omega
  go_wp2_with fail
  exact bodyPost_ret (v := .agg #[.int .i64 0, .int .i64 (-1), .string ⟨#[]⟩]) (by simp [results, Tryd.results8, go_sem, hc, hz]) rfl ⟨rfl, by
    have hB : Below w.heap.size w w1 := ((Below.refl _ _).alloc (Nat.le_refl _) _).trans (hb.mono (by simp))
    repeat (first | exact hB | refine Below.setCell ?_ (by simp <;> omega) _ | refine Below.alloc ?_ (by simp <;> omega) _ | refine Below.drew ?_)⟩

/-- The three cells of an answer of the kind E. -/
def EBlk (w : World) (g : Nat) (a b : Int) (s : ByteArray) : Prop :=
  (w.cell? ⟨g, 0, none⟩ = some (.int .i64 a) ∧ w.cell? ⟨g, 1, none⟩ = some (.int .i64 b) ∧ w.cell? ⟨g, 2, none⟩ = some (.string s)) ∧ (w.frozen? ⟨g, 0, none⟩ = false ∧ w.frozen? ⟨g, 1, none⟩ = false ∧ w.frozen? ⟨g, 2, none⟩ = false)
theorem EBlk.lt {w : World} {g : Nat} {a b : Int} {s : ByteArray} (h : EBlk w g a b s) : g < w.heap.size := lt_of_cell h.1.1
theorem EBlk.keep {w w' : World} {g : Nat} {a b : Int} {s : ByteArray} (h : EBlk w g a b s) (hc : ∀ o, w'.cell? ⟨g, o, none⟩ = w.cell? ⟨g, o, none⟩) (hf : ∀ o, w'.frozen? ⟨g, o, none⟩ = w.frozen? ⟨g, o, none⟩) : EBlk w' g a b s :=
  ⟨⟨(hc 0).trans h.1.1, (hc 1).trans h.1.2.1, (hc 2).trans h.1.2.2⟩, (hf 0).trans h.2.1, (hf 1).trans h.2.2.1, (hf 2).trans h.2.2.2⟩
theorem EBlk.put {w w' : World} {t : Addr} {v : Value} {g : Nat} {a b : Int} {s : ByteArray} (h : EBlk w g a b s) (hp : Put t v w w') (hne : g ≠ t.block) : EBlk w' g a b s :=
  h.keep (fun o => hp.2.1 _ h.lt (fun e => hne (by rw [← e]))) (fun o => hp.2.2.1 _ h.lt)
theorem EBlk.alloc {w : World} {g : Nat} {a b : Int} {s : ByteArray} (h : EBlk w g a b s) (o : Obj) : EBlk (w.alloc o) g a b s :=
  h.keep (fun _ => World.cell?_alloc_lt _ _ _ h.lt) (fun _ => World.frozen?_alloc_old _ _ _ (Nat.ne_of_lt h.lt))
theorem EBlk.below {w w' : World} {g : Nat} {a b : Int} {s : ByteArray} (h : EBlk w g a b s) {B : Nat} (hb : Below B w w') (hB : g < B) : EBlk w' g a b s :=
  h.keep (fun _ => hb.cell hB) (fun _ => hb.frozen hB)
theorem EBlk.drew {w : World} {g : Nat} {a b : Int} {s : ByteArray} (h : EBlk w g a b s) : EBlk w.drew g a b s := h
theorem EBlk.other {w : World} {g : Nat} {a b : Int} {s : ByteArray} (h : EBlk w g a b s) {p : Addr} (hne : p.block ≠ g) (v : Value) : EBlk (w.setCell p v) g a b s :=
  h.keep (fun _ => World.cell?_setCell_far _ _ _ _ hne) (fun _ => World.frozen?_setCell _ _ _ _)
theorem EBlk.set0 {w : World} {g : Nat} {a b : Int} {s : ByteArray} (h : EBlk w g a b s) (x : Int) : EBlk (w.setCell ⟨g, 0, none⟩ (.int .i64 x)) g x b s :=
  ⟨⟨World.cell?_setCell_same _ _ _ h.1.1, by rw [World.cell?_setCell_other _ _ _ _ (by simp)]; exact h.1.2.1, by rw [World.cell?_setCell_other _ _ _ _ (by simp)]; exact h.1.2.2⟩, by simp [h.2.1], by simp [h.2.2.1], by simp [h.2.2.2]⟩
theorem EBlk.set1 {w : World} {g : Nat} {a b : Int} {s : ByteArray} (h : EBlk w g a b s) (x : Int) : EBlk (w.setCell ⟨g, 1, none⟩ (.int .i64 x)) g a x s :=
  ⟨⟨by rw [World.cell?_setCell_other _ _ _ _ (by simp)]; exact h.1.1, World.cell?_setCell_same _ _ _ h.1.2.1, by rw [World.cell?_setCell_other _ _ _ _ (by simp)]; exact h.1.2.2⟩, by simp [h.2.1], by simp [h.2.2.1], by simp [h.2.2.2]⟩
theorem EBlk.set2 {w : World} {g : Nat} {a b : Int} {s : ByteArray} (h : EBlk w g a b s) (x : ByteArray) : EBlk (w.setCell ⟨g, 2, none⟩ (.string x)) g a b x :=
  ⟨⟨by rw [World.cell?_setCell_other _ _ _ _ (by simp)]; exact h.1.1, by rw [World.cell?_setCell_other _ _ _ _ (by simp)]; exact h.1.2.1, World.cell?_setCell_same _ _ _ h.1.2.2⟩, by simp [h.2.1], by simp [h.2.2.1], by simp [h.2.2.2]⟩
theorem EBlk.new (w : World) (a b : Int) (s : ByteArray) : EBlk (w.alloc (.cells #[.int .i64 a, .int .i64 b, .string s] 26)) w.heap.size a b s :=
  ⟨⟨by simp, by simp, by simp⟩, by simp, by simp, by simp⟩

/-- What Tell makes of the rest of a chain, from a place and a path on. -/
def tellGo (n : Int) (p : ByteArray) : List (Int × ByteArray) → Int × ByteArray
  | [] => (n, p)
  | (m, s) :: r => tellGo (if 0 ≤ m ∧ n < 0 then m else n) (if s.size ≠ 0 ∨ m < 0 then p ++ (⟨#[47]⟩ ++ s) else p) r
def chainLen : List (Int × ByteArray) → Nat
  | [] => 0
  | (_, s) :: r => 1 + s.size + chainLen r

def TellRel (w : World) (g3 g5 : Nat) (l : List (Int × ByteArray)) (c : Int) (k : Nat) (e : Value) (wr : World) : Prop :=
  ∃ (l' : List (Int × ByteArray)) (n : Int) (p : ByteArray) (q : Option Addr), l'.length = k ∧ Chain w l' c e ∧ tellGo n p l' = tellGo (-1) ⟨#[]⟩ l ∧ p.size + chainLen l' ≤ 1000000000 ∧
    EBlk wr w.heap.size 0 0 ⟨#[]⟩ ∧ EBlk wr g3 c n p ∧ wr.cell? ⟨g5, 0, none⟩ = some (.pointer q) ∧ wr.frozen? ⟨g5, 0, none⟩ = false ∧ Below w.heap.size w wr

theorem tell_step {w w' : World} {g3 g5 : Nat} {l r : List (Int × ByteArray)} {c n m n' : Int} {p s p' : ByteArray} {q : Option Addr} {e : Value} {k : Nat}
    (hR : Chain w r c e ∧ ((m, s) :: r).length = k ∧ tellGo n p ((m, s) :: r) = tellGo (-1) ⟨#[]⟩ l) (hL : p.size + chainLen ((m, s) :: r) ≤ 1000000000)
    (hn : (if 0 ≤ m ∧ n < 0 then m else n) = n') (hp : (if s.size ≠ 0 ∨ m < 0 then p ++ (⟨#[47]⟩ ++ s) else p) = p')
    (hE0 : EBlk w' w.heap.size 0 0 ⟨#[]⟩) (hE1 : EBlk w' g3 c n' p') (hq : w'.cell? ⟨g5, 0, none⟩ = some (.pointer q)) (hf : w'.frozen? ⟨g5, 0, none⟩ = false) (hB : Below w.heap.size w w') :
    TellRel w g3 g5 l c r.length e w' := by
  refine ⟨r, n', p', q, rfl, hR.1, ?_, ?_, hE0, hE1, hq, hf, hB⟩
  · have := hR.2.2
    rw [← this, tellGo, hn, hp]
  · simp only [chainLen] at hL
    have h1 : (ByteArray.mk #[47]).size = 1 := rfl
    subst hp
    split
    · rw [ByteArray.size_append, ByteArray.size_append]; omega
    · omega
theorem size_of_nil {s : ByteArray} (h : s.toList = []) : s.size = 0 := by
  have h2 : s.toList.length = 0 := by rw [h]; rfl
  rw [Go.ByteArray.toList_eq, Array.length_toList] at h2
  exact h2
theorem size_of_some {s : ByteArray} (h : ¬ s.toList = []) : s.size ≠ 0 := fun h0 => h (List.eq_nil_of_length_eq_zero (by rw [Go.ByteArray.toList_eq, Array.length_toList]; exact h0))

set_option maxHeartbeats 4000000 in
theorem tell_chain (l : List (Int × ByteArray)) (c : Int) (v : Value) (w : World) (hch : Chain w l c v) (hg : ErrVar w) (hl : chainLen l ≤ 1000000000) :
    Calls Tryd.prog 8 #[v] w fun e w' => e = .returned (.agg #[.int .i64 c, .int .i64 (tellGo (-1) ⟨#[]⟩ l).1, .string (tellGo (-1) ⟨#[]⟩ l).2]) ∧ Below w.heap.size w w' := by
  have HC := Lib.hid hch
  obtain ⟨T, x, rfl⟩ := hch.held
  clear hch
  go_enter Tryd.func8, Tryd.ntmps8
  go_wp2_with fail
  refine (none_any _).mono ?_
  rintro e w1 ⟨rfl, hb⟩
  have hB : Below w.heap.size w w1 := ((Below.refl _ _).alloc (Nat.le_refl _) _).trans (hb.mono (by simp))
  have E0 : EBlk w1 w.heap.size 0 0 ⟨#[]⟩ := (EBlk.new w 0 0 ⟨#[]⟩).below hb (by simp)
  have hz : w.heap.size < w1.heap.size := E0.lt
  clear hb
  have HE0 := Lib.hid E0
  clear E0
  go_wp2_with fail
  refine (as_code_put l c _ ⟨w1.heap.size + 1, 0, none⟩ (.int .i64 0) _ (HC.out.below ((hB.alloc (by omega) _).alloc (by simp; omega) _)) ?_ (by simp) (by simp)).mono ?_
  · unfold ErrVar
    rw [((hB.alloc (by omega) _).alloc (by simp; omega) _).cell (lt_of_cell hg)]
    exact hg
  rintro e w2 ⟨rfl, hp⟩
  have E0 : EBlk w2 w.heap.size 0 0 ⟨#[]⟩ := ((HE0.out.alloc _).alloc _).put hp (by simp; omega)
  have E1 : EBlk w2 w1.heap.size (-1) (-1) ⟨#[]⟩ := ((EBlk.new w1 (-1) (-1) ⟨#[]⟩).alloc _).put hp (by simp)
  have hB2 : Below w.heap.size w w2 := hp.2.2.2.2 _ _ ((hB.alloc (by omega) _).alloc (by simp; omega) _) (by simp; omega) (by simp; omega)
  have hc2 := hp.1
  have hz2 : w1.heap.size + 1 < w2.heap.size := by have := hp.2.2.2.1; simp at this; omega
  have HE := Lib.hid (And.intro E0 E1)
  have e0 := E1.1.1
  have f0 := E1.2.1
  clear hp HE0 E0 E1 hB
  go_wp2_with fail
  go_loopg [0] l.length (TellRel w w1.heap.size w2.heap.size l c)
  case atStart =>
    have hE := HE.out
    refine ⟨l, -1, ⟨#[]⟩, none, rfl, HC.out, rfl, by have h0 : (ByteArray.mk #[]).size = 0 := rfl; omega, ?_, ?_, ?_, ?_, ?_⟩
    · exact (hE.1.other (by simp; omega) _).alloc _
    · exact (hE.2.set0 c).alloc _
    · rw [World.cell?_alloc_at _ _ _ _ (by simp [World.setCell])]; rfl
    · rw [World.frozen?_alloc_at _ _ _ _ (by simp [World.setCell])]
    · exact (hB2.setCell (by simp; omega) _).alloc (by simp [World.setCell]; omega) _
  case round =>
    obtain ⟨l', n, p, q, hk, hc', htell, hlen, hE0, hE1, hq, hqf, hBr⟩ := hrel
    have hgr : ErrVar wr := by unfold ErrVar; rw [hBr.cell (lt_of_cell hg)]; exact hg
    have hzr : w2.heap.size < wr.heap.size := lt_of_cell hq
    clear hB2 hc2 e0 f0 HE HC
    cases l' with
    | nil =>
      obtain rfl : _ = _ := hc'
      have HT := Lib.hid htell
      have HE := Lib.hid (And.intro hE0 hE1)
      have HQ := Lib.hid (And.intro hq hqf)
      clear hE0 hE1 hq hqf htell hk
      go_wp2_with fail
      refine (as_none_below c ⟨w2.heap.size, 0, none⟩ (.pointer q) wr hgr HQ.out.1 HQ.out.2).mono ?_
      rintro e w3 ⟨rfl, hb3⟩
      have hE := HE.out
      have E0 := hE.1.below hb3 hE.1.lt
      have E1 := hE.2.below hb3 hE.2.lt
      obtain ⟨⟨x0, x1, x2⟩, y0, y1, y2⟩ := E0
      obtain ⟨⟨z0, z1, z2⟩, _⟩ := E1
      have hB3 : Below w.heap.size w w3 := hBr.trans (hb3.mono (by omega))
      have hz3 := hb3.size
      clear HE HQ hb3 hgr
      go_wp2
      have hT := HT.out
      simp only [tellGo] at hT
      rw [← hT]
      refine bodyPost_ret (v := .agg #[.int .i64 c, .int .i64 n, .string p]) (by simp [results, Tryd.results8, go_sem, x0, x1, x2]) rfl ⟨rfl, ?_⟩
      repeat (first | exact hB3 | refine Below.setCell ?_ (by simp <;> omega) _ | refine Below.alloc ?_ (by simp <;> omega) _ | refine Below.drew ?_)
    | cons hd r =>
      obtain ⟨m, s⟩ := hd
      obtain ⟨b, why, rfl, c0, c1, c2, hr⟩ := hc'
      have hbl := lt_of_cell c0
      obtain ⟨T', x', rfl⟩ := hr.held
      have HR := Lib.hid (And.intro hr (And.intro hk htell))
      have HE := Lib.hid (And.intro hE0 hE1)
      have HQ := Lib.hid (And.intro hq hqf)
      have HCC := Lib.hid (And.intro c0 (And.intro c1 c2))
      clear hE0 hE1 hq hqf htell hk hr c0 c1 c2
      go_wp2_with fail
      refine (as_fault_put b ⟨w2.heap.size, 0, none⟩ (.pointer q) wr hgr HQ.out.1 HQ.out.2).mono ?_
      rintro e w3 ⟨rfl, hp⟩
      have hE := HE.out
      have hcc := HCC.out
      have hbr : b < wr.heap.size := by have := hBr.size; omega
      have hbn : b ≠ w2.heap.size := by omega
      have c0 : w3.cell? ⟨b, 0, none⟩ = some (.int .i64 m) := (hp.2.1 _ hbr (fun e => hbn (congrArg Addr.block e))).trans ((hBr.cell hbl).trans hcc.1)
      have c1 : w3.cell? ⟨b, 1, none⟩ = some (.string s) := (hp.2.1 _ hbr (fun e => hbn (congrArg Addr.block e))).trans ((hBr.cell hbl).trans hcc.2.1)
      have c2 : w3.cell? ⟨b, 2, none⟩ = some (.iface T' x') := (hp.2.1 _ hbr (fun e => hbn (congrArg Addr.block e))).trans ((hBr.cell hbl).trans hcc.2.2)
      have E0 := hE.1.put hp (by simp; omega)
      have E1 := hE.2.put hp (by simp; omega)
      have hq3 := hp.1
      have hf3 : w3.frozen? ⟨w2.heap.size, 0, none⟩ = false := (hp.2.2.1 _ hzr).trans HQ.out.2
      have hB3 : Below w.heap.size w w3 := hp.2.2.2.2 _ _ hBr (by simp; omega) (by omega)
      have hz3 := hp.2.2.2.1
      have HX := Lib.hid (And.intro E0 (And.intro E1 (And.intro hq3 hf3)))
      obtain ⟨⟨z0, z1, z2⟩, v0, v1, v2⟩ := E1
      clear HE HQ HCC hE hcc hp E0 hgr hbn hf3 v0
      have hs2 : p.size + (1 + s.size) ≤ 1000000000 := by simp only [chainLen] at hlen; omega
      have HL := Lib.hid hlen
      clear hlen
      by_cases hm : m < 0
      · go_wp2
        all_goals
          go_region
          go_wp2
          go_roundg r.length
          case rel =>
            obtain ⟨X0, X1, X2, X3⟩ := HX.out
            refine tell_step (q := some ⟨b, 0, none⟩) HR.out HL.out (if_neg (by omega)) (if_pos (.inr hm)) ?_ ?_ ?_ ?_ ?_
            · exact (X0.other (by simp; omega) _).drew
            · exact (X1.set2 _).drew
            · exact (World.cell?_setCell_far _ _ _ _ (by simp; omega)).trans X2
            · exact (World.frozen?_setCell _ _ _ _).trans X3
            · exact (hB3.setCell (by simp; omega) _).drew
          case measure => have := HR.out.2.1; simp at this; omega
      · by_cases hn : n < 0
        · go_wp2
          · go_roundg r.length
            case rel =>
              obtain ⟨X0, X1, X2, X3⟩ := HX.out
              refine tell_step (q := some ⟨b, 0, none⟩) HR.out HL.out (if_pos ⟨by omega, hn⟩) (if_neg (by have := size_of_nil (s := s) (by assumption); omega)) ?_ ?_ ?_ ?_ ?_
              · exact X0.other (by simp; omega) _
              · exact X1.set1 _
              · exact (World.cell?_setCell_far _ _ _ _ (by simp; omega)).trans X2
              · exact (World.frozen?_setCell _ _ _ _).trans X3
              · exact hB3.setCell (by simp; omega) _
            case measure => have := HR.out.2.1; simp at this; omega
          · go_region
            go_wp2
            go_roundg r.length
            case rel =>
              obtain ⟨X0, X1, X2, X3⟩ := HX.out
              refine tell_step (q := some ⟨b, 0, none⟩) HR.out HL.out (if_pos ⟨by omega, hn⟩) (if_pos (.inl (size_of_some (by assumption)))) ?_ ?_ ?_ ?_ ?_
              · exact ((X0.other (by simp; omega) _).other (by simp; omega) _).drew
              · exact ((X1.set1 _).set2 _).drew
              · exact (World.cell?_setCell_far _ _ _ _ (by simp; omega)).trans ((World.cell?_setCell_far _ _ _ _ (by simp; omega)).trans X2)
              · exact (World.frozen?_setCell _ _ _ _).trans ((World.frozen?_setCell _ _ _ _).trans X3)
              · exact ((hB3.setCell (by simp; omega) _).setCell (by simp; omega) _).drew
            case measure => have := HR.out.2.1; simp at this; omega
        · go_wp2
          · go_roundg r.length
            case rel =>
              obtain ⟨X0, X1, X2, X3⟩ := HX.out
              exact tell_step (q := some ⟨b, 0, none⟩) HR.out HL.out (if_neg (by omega)) (if_neg (by have := size_of_nil (s := s) (by assumption); omega)) X0 X1 X2 X3 hB3
            case measure => have := HR.out.2.1; simp at this; omega
          · go_region
            go_wp2
            go_roundg r.length
            case rel =>
              obtain ⟨X0, X1, X2, X3⟩ := HX.out
              refine tell_step (q := some ⟨b, 0, none⟩) HR.out HL.out (if_neg (by omega)) (if_pos (.inl (size_of_some (by assumption)))) ?_ ?_ ?_ ?_ ?_
              · exact (X0.other (by simp; omega) _).drew
              · exact (X1.set2 _).drew
              · exact (World.cell?_setCell_far _ _ _ _ (by simp; omega)).trans X2
              · exact (World.frozen?_setCell _ _ _ _).trans X3
              · exact (hB3.setCell (by simp; omega) _).drew
            case measure => have := HR.out.2.1; simp at this; omega
end Go.Proofs.YtmejpjknofbffaaDoor
