/-
  The document's Split, walked.
-/
import Derived.Test.YthkcimojemofgaaDoorRd1
import Derived.Test.YthkcimojemofgaaDoorRj0
import Derived.Test.YthkcimojemofgaaDoorStp
import Derived.Test.YthkcimojemofgaaDoorReA
import Derived.Test.YthkcimojemofgaaDoorRe7
namespace Go.Proofs.YthkcimojemofgaaDoor
open Go.RowKit Go.Lib
set_option linter.unusedVariables false
set_option linter.unusedSimpArgs false

theorem results_tmp_cellE {fn : Func} {u p : Tmp} {ty : TypeId} (h : fn.results = #[.tmp u, .cell p ty]) (tmps : Array Value) (P : Program) (w : World) :
    (results fn tmps).run P w = ((asAddr (tmps.getD p undef)).run P w).andThen fun a w₁ => ((loadVar ty a).run P w₁).andThen fun x w₂ => .ok (.tuple #[tmps.getD u undef, x]) w₂ := by
  simp only [results, h]
  simp [Sem.run_bind, Result.andThen]
theorem ret_tE {fn : Func} {R : Ending → World → Prop} {a : Act} {w : World} {u p : Tmp} (g : Nat) (x y : Int) (s : ByteArray) (hf : fn.results = #[.tmp u, .cell p 26]) (hp : a.tmps.getD p undef = .pointer (some ⟨g, 0, none⟩)) (he : HdD w g [.int .i64 x, .int .i64 y, .string s]) (hde : a.defers = [])
    (hR : R (.returned (.tuple #[a.tmps.getD u undef, .agg #[.int .i64 x, .int .i64 y, .string s]])) w) : bodyPost Tryd.prog fn R .ret a w := by
  refine bodyPost_ret (v := .tuple #[a.tmps.getD u undef, .agg #[.int .i64 x, .int .i64 y, .string s]]) ?_ hde hR
  rw [results_tmp_cellE hf, hp]
  simp [asAddr, run_loadVar_mid w g 0 26 [.int .i64 x, .int .i64 y, .string s] _ he.1 Tryd.underlying26 rfl (by kernel_rfl)]
/-- What the document's Split answers. -/
def RSAns (w : World) (kd ep nu : Int) (x : List UInt8) (e : Ending) (w' : World) : Prop :=
  (8400 < x.length ∧ e = .returned (.tuple #[.slice none 0 0, .agg #[.int .i64 2, .int .i64 (-1), .string ⟨#[]⟩]]) ∧ Below w.heap.size w w') ∨
  (x.length ≤ 8400 ∧ hbad kd ep nu ≠ 0 ∧ e = .returned (.tuple #[.slice none 0 0, eV (pieceN kd ep nu x 0)]) ∧ Below w.heap.size w w') ∨
  (x.length ≤ 8400 ∧ hbad kd ep nu = 0 ∧ ∃ g c, e = .returned (.tuple #[.slice (some ⟨g, 0, none⟩) (partsN x.length) c, .agg #[.int .i64 0, .int .i64 (-1), .string ⟨#[]⟩]]) ∧ Dps w' (some ⟨g, 0, none⟩) (splitL kd ep nu x) ∧ Below w.heap.size w w')
set_option maxRecDepth 100000 in
set_option maxHeartbeats 4000000 in
theorem rs_long (kd ep nu : Int) (x : List UInt8) (hx : 8400 < x.length) (hm : x.length ≤ 9223372036854775807) (w : World) : Calls Tryd.prog 20 #[.int .i64 kd, .int .i64 ep, .int .i64 nu, .string ⟨x.toArray⟩] w (RSAns w kd ep nu x) := by
  have HX := Lib.hid hx
  obtain ⟨S, hS⟩ : ∃ S : ByteArray, (⟨x.toArray⟩ : ByteArray) = S := ⟨_, rfl⟩
  have hz : S.size = x.length := by rw [← hS]; exact List.size_toArray
  obtain ⟨n, hn⟩ : ∃ n : Nat, x.length = n := ⟨_, rfl⟩
  rw [hn] at hz hx
  rw [hS]
  have d1 : decide ((8400 : Int) < (n : Int)) = true := decide_eq_true (by omega)
  have d2 : decide (8400 < n) = true := decide_eq_true hx
  have HNew := Lib.hid (hd_new w [.int .i64 0, .int .i64 0, .string ⟨#[]⟩] 26)
  clear hn hS hx
  go_enter Tryd.func20, Tryd.ntmps20
  go_wp2_with (first
    | (go_at_call 24; go_must (refine (err_any _ _).mono ?_; rintro e W1 ⟨rfl, hb1⟩; have hh := HNew.out.keep (by simp) hb1; have HH := Lib.hid hh; have HB := Lib.hid ((new_below w _).trans (hb1.mono (by simp))); have e0 := hh.cell 0 _ rfl; have e1 := hh.cell 1 _ rfl; have e2 := hh.cell 2 _ rfl; have f0 := hh.2 0 (by decide); have f1 := hh.2 1 (by decide); have f2 := hh.2 2 (by decide); clear hb1 hh)))
  have h9 := ((HH.out.put 0 (by decide) (.int .i64 2)).put 1 (by decide) (.int .i64 (-1))).put 2 (by decide) (.string ⟨#[]⟩)
  exact ret_tE w.heap.size 2 (-1) ⟨#[]⟩ rfl rfl h9 rfl (Or.inl ⟨HX.out, rfl, ((HB.out.setCell (Nat.le_refl _) _).setCell (Nat.le_refl _) _).setCell (Nat.le_refl _) _⟩)
theorem append_exec2 {P : Program} {w w' : World} {x y : Operand} {tx ty T : TypeId} {d : Option Nat} {ps : String} {af : Array Edge} {g : Option (Nat × Bool)} (a : Act) {v1 v2 v : Value} (h1 : a.eval x = v1) (h2 : a.eval y = v2) (h : (Builtin.append_ #[tx, ty] T #[v1, v2]).run P w = .ok v w') :
    (execOp a.eval ⟨d, .call { callee := .builtin .append, args := #[x, y], argTypes := #[tx, ty] }, T, ps, af, g⟩).run P w = .ok (.value v) w' := by
  simp [execOp, resolve, invoke, builtin, h1, h2, h, Result.andThen]
theorem size_dp6 : (Tryd.prog.info? 23).map (fun i => (i.zero, i.size, i.bytes)) = some (some (.agg (dcs zeroPc).toArray), 6, 56) := by kernel_rfl
theorem build_oneD (a b c d e : Int) (s : ByteArray) (w : World) : (Instr.buildSlice 50 1 #[(0, .agg #[.int .i64 a, .int .i64 b, .int .i64 c, .int .i64 d, .int .i64 e, .string s])]).run Tryd.prog w = .ok (.slice (some ⟨w.heap.size, 0, none⟩) 1 1) (w.alloc (.cells #[.int .i64 a, .int .i64 b, .int .i64 c, .int .i64 d, .int .i64 e, .string s] 23)) := by kernel_rfl
theorem dcs_one' (p : Pc) : ∀ u ∈ dcs p, u.oneCell' = true := fun v hv => by
  simp only [dcs, List.mem_cons, List.not_mem_nil, or_false] at hv
  rcases hv with rfl | rfl | rfl | rfl | rfl | rfl <;> rfl
theorem own_keepP {w w' : World} {B : Nat} {e : TypeId} {size : Nat} {v : Value} {n : Nat} {xs : List Value} (h : w.ownsRow B e size v n xs) (hb : Below w.heap.size w w') : w'.ownsRow B e size v n xs := own_keepR h hb
theorem flatd_get : ∀ (zs : List Pc) (i j : Nat) (h : i < zs.length), j < 6 → (zs.flatMap dcs)[i * 6 + j]? = (dcs zs[i])[j]?
  | z :: r, 0, j, h, hj => by
    rw [List.flatMap_cons, List.getElem?_append_left (by show 0 * 6 + j < 6; omega)]
    simp
  | z :: r, i + 1, j, h, hj => by
    have ih := flatd_get r i j (by simpa using h) hj
    rw [List.flatMap_cons, List.getElem?_append_right (by show 6 ≤ (i + 1) * 6 + j; omega), show (dcs z).length = 6 from rfl, show (i + 1) * 6 + j - 6 = i * 6 + j by omega, ih]
    simp
def SpR (w : World) (kd ep nu : Int) (x : List UInt8) (kk : Nat) (v i : Value) (wr : World) : Prop :=
  ∃ k : Nat, k + kk = partsN x.length ∧ i = .int .i64 (k : Int) ∧ wr.ownsRow (w.heap.size + 1) 23 6 v k (((splitL kd ep nu x).take k).flatMap dcs) ∧ HdD wr w.heap.size [.int .i64 0, .int .i64 0, .string ⟨#[]⟩] ∧ Below w.heap.size w wr ∧ (0 < k → hbad kd ep nu = 0)
set_option maxRecDepth 100000 in
set_option maxHeartbeats 8000000 in
theorem rs_main (kd ep nu : Int) (x : List UInt8) (hx : x.length ≤ 8400) (hk : -9223372036854775808 ≤ kd ∧ kd ≤ 9223372036854775807) (he : -9223372036854775808 ≤ ep ∧ ep ≤ 9223372036854775807) (hu : -9223372036854775808 ≤ nu ∧ nu ≤ 9223372036854775807) (w : World) :
    Calls Tryd.prog 20 #[.int .i64 kd, .int .i64 ep, .int .i64 nu, .string ⟨x.toArray⟩] w (RSAns w kd ep nu x) := by
  obtain ⟨S, hS⟩ : ∃ S : ByteArray, (⟨x.toArray⟩ : ByteArray) = S := ⟨_, rfl⟩
  have hz : S.size = x.length := by rw [← hS]; exact List.size_toArray
  obtain ⟨n, hn⟩ : ∃ n : Nat, x.length = n := ⟨_, rfl⟩
  obtain ⟨m, hm⟩ : ∃ m, partsN n = m := ⟨_, rfl⟩
  have hm1 : 1 ≤ m := by rw [← hm]; exact parts_pos n
  have hm2 : m ≤ 200 := by rw [← hm]; exact parts_le (by omega)
  have hq : max (1 : Int) (((n : Int) + 41) / 42) = (m : Int) := by rw [← hm]; unfold partsN; omega
  have HS := Lib.hid hS
  have HX := Lib.hid (And.intro hx (And.intro hn (And.intro hm (And.intro hk (And.intro he hu)))))
  rw [hn] at hz hx
  rw [hS]
  have d1 : decide ((8400 : Int) < (n : Int)) = false := decide_eq_false (by omega)
  have d2 : decide (8400 < n) = false := decide_eq_false (by omega)
  have HNew := Lib.hid (hd_new w [.int .i64 0, .int .i64 0, .string ⟨#[]⟩] 26)
  clear hn hS hm hk he hu
  go_enter Tryd.func20, Tryd.ntmps20
  go_wp2_with fail
  go_loopg [11, 25] m (SpR w kd ep nu x)
  case atStart => exact ⟨0, by rw [HX.out.2.1, HX.out.2.2.1]; omega, rfl, by simpa using World.ownsRow_nil _ _ _ _, HNew.out, new_below w _, fun h => absurd h (Nat.lt_irrefl 0)⟩
  case round =>
    obtain ⟨k, hk, rfl, how, hh, hb, hk0⟩ := hrel
    rw [HX.out.2.1, HX.out.2.2.1] at hk
    by_cases hlt : k < m
    · have d3 : decide ((k : Int) < (m : Int)) = true := decide_eq_true (by omega)
      obtain ⟨mm, hmm⟩ : ∃ mm, min ((k + 1) * 42) n = mm := ⟨_, rfl⟩
      have hmn : min (n : Int) (42 * (k : Int) + 42) = (mm : Int) := by omega
      have hm42 : m = max 1 ((n + 41) / 42) := by rw [← HX.out.2.2.1]; rfl
      have hkm : k * 42 ≤ mm := by omega
      obtain ⟨T, hT⟩ : ∃ T : ByteArray, (⟨(cutL x (k * 42) mm).toArray⟩ : ByteArray) = T := ⟨_, rfl⟩
      have hsl : ∀ W, Sem.run Tryd.prog (Instr.slice 9 (.string S) (some (.int .i64 (42 * (k : Int)))) (some (.int .i64 (mm : Int))) none) W = .ok (.string T) W := fun W => by
        rw [run_slice_string (h := Tryd.underlying9) (h0 := by omega) (h1 := by omega) (h2 := by rw [hz]; omega), show (42 * (k : Int)).toNat = k * 42 by omega, show ((mm : Int)).toNat = mm by omega, ← HS.out, ← hT]
        congr 1
        congr 1
        apply ByteArray.ext
        rw [ByteArray.data_extract]
        simp [cutL, List.drop_take]
      have hpk : pieceN kd ep nu x k = ⟨kd, ep, nu, k, m, cutL x (k * 42) mm⟩ := by rw [pieceN, HX.out.2.1, HX.out.2.2.1, hmm]
      have hfit : (pieceN kd ep nu x k).Fit := split_fit (by rw [HX.out.2.1]; omega) HX.out.2.2.2.1 HX.out.2.2.2.2.1 HX.out.2.2.2.2.2 _ (by
        have hl : k < (splitL kd ep nu x).length := by rw [split_len, HX.out.2.1, HX.out.2.2.1]; exact hlt
        have := List.getElem_mem hl
        rwa [split_at] at this)
      have hbk : (pieceN kd ep nu x k).bad = hbad kd ep nu := piece_bad _ _ _ _ _ (by rw [HX.out.2.1]; omega) (by rw [HX.out.2.1, HX.out.2.2.1]; exact hlt)
      have hb0 : (pieceN kd ep nu x 0).bad = hbad kd ep nu := piece_bad _ _ _ _ _ (by rw [HX.out.2.1]; omega) (by rw [HX.out.2.1, HX.out.2.2.1]; omega)
      have hev : eV (pieceN kd ep nu x k) = eV (pieceN kd ep nu x 0) := by unfold eV eC eP; rw [hbk, hb0]
      have hCk := fun W => refrcheck_any (pieceN kd ep nu x k) W hfit
      have hdv : (pieceN kd ep nu x k).dv = .agg #[.int .i64 kd, .int .i64 ep, .int .i64 nu, .int .i64 (k : Int), .int .i64 (m : Int), .string T] := by rw [hpk, ← hT]; rfl
      rw [hdv] at hCk
      have hec0 : hbad kd ep nu = 0 → eC (pieceN kd ep nu x k) = 0 ∧ eP (pieceN kd ep nu x k) = ⟨#[]⟩ := fun h => by rw [eC, eP, hbk, if_pos h, if_pos h]; exact ⟨rfl, rfl⟩
      have hec1 : hbad kd ep nu ≠ 0 → eC (pieceN kd ep nu x k) = 8 := fun h => by rw [eC, hbk, if_neg h]
      unfold eV at hCk
      obtain ⟨ec, hec⟩ : ∃ z, eC (pieceN kd ep nu x k) = z := ⟨_, rfl⟩
      obtain ⟨es, hes⟩ : ∃ z, eP (pieceN kd ep nu x k) = z := ⟨_, rfl⟩
      rw [hec, hes] at hCk
      rw [hec, hes] at hec0
      rw [hec] at hec1
      have HCk := Lib.hid hCk
      have HEv := Lib.hid (show eV (pieceN kd ep nu x 0) = .agg #[.int .i64 ec, .int .i64 (-1), .string es] by rw [← hev, eV, hec, hes])
      have HEc := Lib.hid (And.intro hec0 hec1)
      have HPk := Lib.hid (And.intro hpk hT)
      have HR := Lib.hid (And.intro hk (And.intro how (And.intro hh hb)))
      clear hk how hh hb hk0 hmm hm42 hT hpk hfit hbk hb0 hev hCk hdv hec0 hec1 hec hes
      go_upto_region 10 with (first
        | (go_at_call 10; go_must (with_reducible refine (HCk.out _).mono ?_; rintro e W3 ⟨rfl, hb3⟩; have HB3 := Lib.hid hb3; clear hb3)))
      obtain ⟨W4, hW4⟩ : ∃ W4, W4 = W3.alloc (.cells #[.int .i64 ec, .int .i64 (-1), .string es] 26) := ⟨_, rfl⟩
      rw [← hW4]
      have b34 : Below W3.heap.size W3 W4 := by rw [hW4]; exact new_below W3 _
      have hE4 : HdD W4 W3.heap.size [.int .i64 ec, .int .i64 (-1), .string es] := by rw [hW4]; exact hd_new W3 _ _
      have b3 := HB3.out.trans (b34.mono HB3.out.size)
      have hP4 : HdD W4 wr.heap.size [.int .i64 kd, .int .i64 ep, .int .i64 nu, .int .i64 (k : Int), .int .i64 (m : Int), .string T] := (hd_new wr [.int .i64 kd, .int .i64 ep, .int .i64 nu, .int .i64 (k : Int), .int .i64 (m : Int), .string T] 23).keep (by simp) b3
      have b4 : Below wr.heap.size wr W4 := (new_below wr _).trans (b3.mono (by simp))
      have hH4 : HdD W4 w.heap.size [.int .i64 0, .int .i64 0, .string ⟨#[]⟩] := HR.out.2.2.1.keep (HR.out.2.2.1.lt (by decide)) b4
      have HH4 := Lib.hid hH4
      have HB4 := Lib.hid (HR.out.2.2.2.trans (b4.mono HR.out.2.2.2.size))
      have HO4 := Lib.hid (own_keepP HR.out.2.1 b4)
      have HL4 := Lib.hid (hP4.lt (by simp))
      have r0 := hE4.cell 0 _ rfl
      have r1 := hE4.cell 1 _ rfl
      have r2 := hE4.cell 2 _ rfl
      clear hW4 b34 b3 hE4 HB3
      by_cases hbd : hbad kd ep nu = 0
      · obtain ⟨rfl, rfl⟩ := HEc.out.1 hbd
        have HBd := Lib.hid hbd
        have p0 := hP4.cell 0 _ rfl
        have p1 := hP4.cell 1 _ rfl
        have p2 := hP4.cell 2 _ rfl
        have p3 := hP4.cell 3 _ rfl
        have p4 := hP4.cell 4 _ rfl
        have p5 := hP4.cell 5 _ rfl
        have hb1 := build_oneD kd ep nu (k : Int) (m : Int) T W4
        obtain ⟨i8, hi8, hz0, hz1, hz2⟩ := info_parts size_dp6
        have hnr := new_range W4 #[.int .i64 kd, .int .i64 ep, .int .i64 nu, .int .i64 (k : Int), .int .i64 (m : Int), .string T] 23
        have hb5 : Below w.heap.size w (W4.alloc (.cells #[.int .i64 kd, .int .i64 ep, .int .i64 nu, .int .i64 (k : Int), .int .i64 (m : Int), .string T] 23)) := HB4.out.alloc HB4.out.size _
        have hdc : dcs (pieceN kd ep nu x k) = [.int .i64 kd, .int .i64 ep, .int .i64 nu, .int .i64 (k : Int), .int .i64 (m : Int), .string T] := by rw [HPk.out.1, ← HPk.out.2]; rfl
        have ho5 := own_keepP HO4.out (new_below W4 (.cells #[.int .i64 kd, .int .i64 ep, .int .i64 nu, .int .i64 (k : Int), .int .i64 (m : Int), .string T] 23))
        obtain ⟨v', w', hr, ho, hg3, -⟩ := app_gen (P := Tryd.prog) (w.heap.size + 1) 50 50 23 i8 _ 6 56 Tryd.underlying50 hi8 hz0 hz1 hz2 rfl (by decide) _ k _ ho5 (some ⟨W4.heap.size, 0, none⟩) 1 1 (dcs (pieceN kd ep nu x k)) ⟨rfl, fun _ => ⟨_, rfl, fun j u hu => by rw [Addr.add_mid]; exact hnr j u (by rw [hdc] at hu; exact hu)⟩⟩ (dcs_one' _) (by simp only [maxLen]; omega) (by omega) (by have := HH4.out.lt (show 0 < 3 by decide); rw [new_size]; omega)
        have HO5 := Lib.hid ho
        have HB5 := Lib.hid (show Below w.heap.size w w' from hb5.grown hg3 hb5.size (fun g hg => Nat.le_of_succ_le (ho5.lt g hg).1))
        have HH5 := Lib.hid (show HdD w' w.heap.size [.int .i64 0, .int .i64 0, .string ⟨#[]⟩] from (HH4.out.keep (HH4.out.lt (by decide)) (new_below W4 _)).same (hg3.block _ (by have := HH4.out.lt (show 0 < 3 by decide); rw [new_size]; omega) (fun e => by have h := (ho5.lt _ e.symm).1; omega)))
        clear hP4 b4 hH4 hbd i8 hi8 hz0 hz1 hz2 hnr hb5 hdc ho5 ho hg3
        go_wp2_with ((with_reducible refine at_slot 53 ?_); go_must (refine wpList_runH rfl v' w' ?_ ?_; exact append_exec2 _ rfl rfl hr; intro W6 HW6))
        go_roundg (m - (k + 1))
        case rel =>
          refine ⟨k + 1, by rw [HX.out.2.1, HX.out.2.2.1]; have := HR.out.1; omega, by go_num, ?_, by rw [HW6.out]; exact HH5.out, by rw [HW6.out]; exact HB5.out, fun _ => HBd.out⟩
          rw [HW6.out, List.take_succ_eq_append_getElem (by rw [split_len, HX.out.2.1, HX.out.2.2.1]; exact hlt), split_at, List.flatMap_append]
          simpa using HO5.out
        case measure => have := HR.out.1; omega
      · have h8 := HEc.out.2 hbd
        subst h8
        have HBd := Lib.hid hbd
        have z0 := hH4.cell 0 _ rfl
        have z1 := hH4.cell 1 _ rfl
        have z2 := hH4.cell 2 _ rfl
        have f0 := hH4.2 0 (by decide)
        have f1 := hH4.2 1 (by decide)
        have f2 := hH4.2 2 (by decide)
        clear hP4 b4 hH4 hbd
        go_upto_region 11 with (fail)
        go_region
        go_wp2_with fail
        have h9 := ((HH4.out.put 0 (by decide) (.int .i64 8)).put 1 (by decide) (.int .i64 (-1))).put 2 (by decide) (.string es)
        refine ret_tE w.heap.size 8 (-1) es rfl rfl h9 rfl (Or.inr (Or.inl ⟨HX.out.1, HBd.out, ?_, ?_⟩))
        · rw [HEv.out]
          rfl
        · exact (((HB4.out.setCell (Nat.le_refl _) _).setCell (Nat.le_refl _) _).setCell (Nat.le_refl _) _).drew
    · obtain rfl : k = m := by omega
      have d3 : decide ((k : Int) < (k : Int)) = false := decide_eq_false (by omega)
      have hbz := hk0 hm1
      have hlen : (splitL kd ep nu x).length = k := by rw [split_len, HX.out.2.1, HX.out.2.2.1]
      rw [show (splitL kd ep nu x).take k = splitL kd ep nu x from List.take_of_length_le (by omega)] at how
      have hvb : ∃ g, u11.ownBlock = some g := by
        rcases how.2 with ⟨-, h0⟩ | ⟨g, cap, cur, e, -⟩
        · omega
        · exact ⟨g, by rw [e]; rfl⟩
      obtain ⟨g, cap, rfl, hg1, hg2, -, -, hra, -⟩ := own_out how hvb
      have HD := Lib.hid (show Dps wr (some ⟨g, 0, none⟩) (splitL kd ep nu x) from fun h0 => ⟨g, 0, rfl, fun i hi j v hj => by
        have hj6 : j < 6 := (List.getElem?_eq_some_iff.1 hj).1
        have := hra (i * 6 + j) v (by rw [flatd_get _ _ _ hi hj6]; exact hj)
        rw [← Nat.add_assoc] at this
        exact this⟩)
      have HR := Lib.hid (And.intro hh (And.intro hb (And.intro hbz hg1)))
      clear how hh hb hk0 hvb hg1 hg2 hra hbz hlen hk
      go_wp2_with (first
        | (go_at_call 25; go_must (refine (none_any _).mono ?_; rintro e W3 ⟨rfl, hb3⟩; have HB3 := Lib.hid hb3; have hh3 := HR.out.1.keep (HR.out.1.lt (by decide)) hb3; have HH3 := Lib.hid hh3; have z0 := hh3.cell 0 _ rfl; have z1 := hh3.cell 1 _ rfl; have z2 := hh3.cell 2 _ rfl; have f0 := hh3.2 0 (by decide); have f1 := hh3.2 1 (by decide); have f2 := hh3.2 2 (by decide); clear hb3 hh3)))
      have h9 := ((HH3.out.put 0 (by decide) (.int .i64 0)).put 1 (by decide) (.int .i64 (-1))).put 2 (by decide) (.string ⟨#[]⟩)
      have hne : w.heap.size ≠ g := by have := HR.out.2.2.2; omega
      refine ret_tE w.heap.size 0 (-1) ⟨#[]⟩ rfl rfl h9 rfl (Or.inr (Or.inr ⟨HX.out.1, HR.out.2.2.1, g, cap, ?_, ?_, ?_⟩))
      · rw [HX.out.2.1, HX.out.2.2.1]
        rfl
      · intro h0
        obtain ⟨g', q', e, h⟩ := (HD.out.keep HB3.out) h0
        cases e
        exact ⟨g, 0, rfl, fun i hi j v hj => by
          rw [World.cell?_setCell_far _ _ _ _ (by exact hne), World.cell?_setCell_far _ _ _ _ (by exact hne), World.cell?_setCell_far _ _ _ _ (by exact hne)]
          exact h i hi j v hj⟩
      · have hb := HR.out.2.1.trans (HB3.out.mono HR.out.2.1.size)
        exact ((hb.setCell (Nat.le_refl _) _).setCell (Nat.le_refl _) _).setCell (Nat.le_refl _) _
theorem rs_any (kd ep nu : Int) (x : List UInt8) (hm : x.length ≤ 9223372036854775807) (hk : -9223372036854775808 ≤ kd ∧ kd ≤ 9223372036854775807) (he : -9223372036854775808 ≤ ep ∧ ep ≤ 9223372036854775807) (hu : -9223372036854775808 ≤ nu ∧ nu ≤ 9223372036854775807) (w : World) :
    Calls Tryd.prog 20 #[.int .i64 kd, .int .i64 ep, .int .i64 nu, .string ⟨x.toArray⟩] w (RSAns w kd ep nu x) := by
  by_cases h : 8400 < x.length
  · exact rs_long kd ep nu x h hm w
  · exact rs_main kd ep nu x (by omega) hk he hu w
end Go.Proofs.YthkcimojemofgaaDoor
