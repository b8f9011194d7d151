/-
  Pieces: what is wrong with one, by the document; told of the program's error.
-/
import Derived.Test.YtmejpjknofbffaaDoorRe2
import Derived.Test.YtmejpjknofbffaaDoorErrIn
import Derived.Test.YtmejpjknofbffaaDoorTell
import Derived.Deep.DeepMust
import Derived.Laws.ResultCell
import Derived.Deep.MidRow
namespace Go.Proofs.YtmejpjknofbffaaDoor
open Go.RowKit Go.Lib
set_option linter.unusedVariables false
set_option linter.unusedSimpArgs false

def eC (p : Pc) : Int := if p.bad = 0 then 0 else 8
def eP (p : Pc) : ByteArray := if p.bad = 0 then ⟨#[]⟩ else ⟨#[47]⟩ ++ fieldOf p.bad
/-- What the document's Check answers. -/
def eV (p : Pc) : Value := .agg #[.int .i64 (eC p), .int .i64 (-1), .string (eP p)]
theorem eV_no {p : Pc} (h : p.bad = 0) : eV p = .agg #[.int .i64 0, .int .i64 (-1), .string ⟨#[]⟩] := by rw [eV, eC, eP, if_pos h, if_pos h]
theorem eV_yes {p : Pc} (n : Nat) (h : p.bad = n) (h0 : n ≠ 0) : eV p = .agg #[.int .i64 8, .int .i64 (-1), .string (inPath (fieldOf n) 8 ⟨#[]⟩)] := by
  rw [eV, eC, eP, if_neg (by omega), if_neg (by omega), inPath, if_neg (by decide), h, show (⟨#[]⟩ : ByteArray) = ByteArray.empty from rfl, ByteArray.append_empty]
theorem results_cell1 {fn : Func} {p : Tmp} {ty : TypeId} (h : fn.results = #[.cell p ty]) (tmps : Array Value) (P : Program) (w : World) :
    (results fn tmps).run P w = ((asAddr (tmps.getD p undef)).run P w).andThen fun a w₁ => (loadVar ty a).run P w₁ := by
  simp only [results, h]
  simp [Sem.run_bind, Result.andThen]
theorem ret_cell1 {P : Program} {fn : Func} {R : Ending → World → Prop} {a : Act} {w : World} {p : Tmp} {ty : TypeId} {d : TypeDesc} (cs : List Value) (b : Nat) (hf : fn.results = #[.cell p ty]) (hp : a.tmps.getD p undef = .pointer (some ⟨b, 0, none⟩)) (hc : w.rangeAt b 0 cs)
    (hu : P.underlying ty = some d) (hd : d.isRow = true) (hi : (P.info? ty).map (·.size) = some cs.length) (hde : a.defers = []) (hR : R (.returned (.agg cs.toArray)) w) : bodyPost P fn R .ret a w := by
  refine bodyPost_ret (v := .agg cs.toArray) ?_ hde hR
  rw [results_cell1 hf, hp]
  simp [asAddr, run_loadVar_mid w b 0 ty cs d hc hu hd hi]
theorem ret_E {fn : Func} {R : Ending → World → Prop} {a : Act} {w : World} {p : Tmp} (g : Nat) (x y : Int) (s : ByteArray) (hf : fn.results = #[.cell p 26]) (hp : a.tmps.getD p undef = .pointer (some ⟨g, 0, none⟩)) (he : EBlk w g x y s) (hde : a.defers = [])
    (hR : R (.returned (.agg #[.int .i64 x, .int .i64 y, .string s])) w) : bodyPost Tryd.prog fn R .ret a w := by
  refine ret_cell1 [.int .i64 x, .int .i64 y, .string s] g hf hp (fun j v hv => ?_) Tryd.underlying26 rfl (by kernel_rfl) hde hR
  obtain ⟨⟨e0, e1, e2⟩, -⟩ := he
  match j, hv with
  | 0, hv => cases hv; exact e0
  | 1, hv => cases hv; exact e1
  | 2, hv => cases hv; exact e2
theorem keepE {w W1 : World} {A : Obj} (h1 : Below ((w.alloc A).alloc (.cells #[.int .i64 0, .int .i64 0, .string ⟨#[]⟩] 26)).heap.size ((w.alloc A).alloc (.cells #[.int .i64 0, .int .i64 0, .string ⟨#[]⟩] 26)) W1) :
    Below w.heap.size w W1 ∧ EBlk W1 (w.heap.size + 1) 0 0 ⟨#[]⟩ := by
  have e := EBlk.new (w.alloc A) 0 0 ⟨#[]⟩
  have hs : (w.alloc A).heap.size = w.heap.size + 1 := by simp
  rw [hs] at e
  refine ⟨(((Below.refl _ _).alloc (Nat.le_refl _) _).alloc (by rw [hs]; omega) _).trans (h1.mono (by simp; omega)), e.below h1 (by simp)⟩
theorem keepE2 {w W1 W2 : World} {A : Obj} (h1 : Below ((w.alloc A).alloc (.cells #[.int .i64 0, .int .i64 0, .string ⟨#[]⟩] 26)).heap.size ((w.alloc A).alloc (.cells #[.int .i64 0, .int .i64 0, .string ⟨#[]⟩] 26)) W1) (h2 : Below W1.heap.size W1 W2) :
    Below w.heap.size w W2 ∧ EBlk W2 (w.heap.size + 1) 0 0 ⟨#[]⟩ := by
  obtain ⟨a, b⟩ := keepE h1
  exact ⟨a.trans (h2.mono a.size), b.below h2 b.lt⟩
set_option maxHeartbeats 4000000 in
set_option maxRecDepth 100000 in
theorem refrcheck_any (p : Pc) (w : World) (hf : p.Fit) :
    Calls Tryd.prog 5 #[p.dv] w fun e w' => e = .returned (eV p) ∧ Below w.heap.size w w' := by
  have h0 := eV_no (p := p)
  have h1 := eV_yes (p := p)
  obtain ⟨V, hV⟩ : ∃ V, eV p = V := ⟨_, rfl⟩
  rw [hV] at h0 h1 ⊢
  clear hV
  obtain ⟨kd, ep, nu, pa, ps, da⟩ := p
  obtain ⟨hk, he, hn, ha, hs, hd⟩ := hf
  simp only at hk he hn ha hs hd
  unfold Pc.dv
  unfold Pc.bad at h0 h1
  simp only at h0 h1 ⊢
  obtain ⟨l, hl⟩ : ∃ l : Nat, da.length = l := ⟨_, rfl⟩
  obtain ⟨S, hS⟩ : ∃ S : ByteArray, (⟨da.toArray⟩ : ByteArray) = S := ⟨_, rfl⟩
  have hz : S.size = l := by rw [← hl, ← hS]; exact List.size_toArray
  rw [hl] at hd h0 h1
  rw [hS]
  clear hS hl
  have H0 := Lib.hid h0
  have H1 := Lib.hid h1
  clear h0 h1
  have HI := Lib.hid (fun (f : ByteArray) (hf : f.size ≤ 10) W => in_any f ⟨#[]⟩ 8 (-1) W (by omega) (by decide))
  go_enter Tryd.func5, Tryd.ntmps5
  go_wp2_with (first
    | (go_at_call 14; go_must (refine (none_any _).mono ?_; rintro e W2 ⟨rfl, hb1⟩; obtain ⟨hb, hE⟩ := keepE hb1; have HE := Lib.hid hE; obtain ⟨⟨e0, e1, e2⟩, f0, f1, f2⟩ := hE; have HB := Lib.hid hb; clear hb hb1))
    | (go_at_call 16; go_must (refine (err_any _ _).mono ?_; rintro e W1 ⟨rfl, hb1⟩; have HB1 := Lib.hid hb1; clear hb1))
    | (go_at_call 15; go_must (refine (HI.out _ (by decide) _).mono ?_; rintro e W2 ⟨rfl, hb2⟩; obtain ⟨hb, hE⟩ := keepE2 HB1.out hb2; have HE := Lib.hid hE; obtain ⟨⟨e0, e1, e2⟩, f0, f1, f2⟩ := hE; have HB := Lib.hid hb; clear hb hb2 HB1)))
  all_goals refine ret_E (w.heap.size + 1) _ _ _ rfl rfl (((HE.out.set0 _).set1 _).set2 _) rfl ⟨?_, by repeat (first | exact HB.out | refine Below.setCell ?_ (by simp) _)⟩
  all_goals clear HB HI HE e0 e1 e2 f0 f1 f2
  all_goals
    first
    | (rw [H0.out (by rw [if_neg (by omega), if_neg (by omega), if_neg (by omega), if_neg (by omega), if_neg (by omega), if_neg (by omega)])]; done)
    | (rw [H1.out 1 (by rw [if_pos (by omega)]) (by decide)]; rfl)
    | (rw [H1.out 2 (by rw [if_neg (by omega), if_pos (by omega)]) (by decide)]; rfl)
    | (rw [H1.out 3 (by rw [if_neg (by omega), if_neg (by omega), if_pos (by omega)]) (by decide)]; rfl)
    | (rw [H1.out 4 (by rw [if_neg (by omega), if_neg (by omega), if_neg (by omega), if_pos (by omega)]) (by decide)]; rfl)
    | (rw [H1.out 5 (by rw [if_neg (by omega), if_neg (by omega), if_neg (by omega), if_neg (by omega), if_pos (by omega)]) (by decide)]; rfl)
    | (rw [H1.out 6 (by rw [if_neg (by omega), if_neg (by omega), if_neg (by omega), if_neg (by omega), if_neg (by omega), if_pos (by omega)]) (by decide)]; rfl)
/-- The program's error, told. -/
theorem tell_chk (p : Pc) (w : World) (ev : Value) (h : ChkAns p w ev) (hE : ErrVar w) : Calls Tryd.prog 8 #[ev] w fun e w' => e = .returned (eV p) ∧ Below w.heap.size w w' := by
  rcases h with ⟨h0, rfl⟩ | ⟨h0, hc⟩
  · rw [eV_no h0]
    exact tell_nil w
  · have hf : (fieldOf p.bad).size ≤ 6 := by
      unfold fieldOf
      split <;> decide
    refine (tell_chain _ _ _ _ hc hE (by simp [chainLen]; omega)).mono fun e w' he => ?_
    obtain ⟨rfl, hb⟩ := he
    refine ⟨?_, hb⟩
    rw [eV, eC, eP, if_neg h0, if_neg h0]
    simp [tellGo]
    exact ByteArray.empty_append
end Go.Proofs.YtmejpjknofbffaaDoor
