/-
  The document's piece as the program's; whether a piece is the document's: the laws' functions, walked.
-/
import Derived.Test.YtmejpjknofbffaaDoorCvx
import Derived.Test.YtmejpjknofbffaaDoorRe6
import Derived.Test.YtmejpjknofbffaaDoorRe5
import Derived.Test.YtmejpjknofbffaaDoorReA0
import Derived.Test.YtmejpjknofbffaaDoorRd1
import Derived.Lib.ConvBytes
namespace Go.Proofs.YtmejpjknofbffaaDoor
open Go.RowKit Go.Lib
set_option linter.unusedVariables false
set_option linter.unusedSimpArgs false

/-- Bytes made of a text. -/
theorem bytes_row (w : World) (x : List UInt8) : NewBs w (bytesWorld w 5 ⟨x.toArray⟩) x (.slice (some ⟨w.heap.size, 0, none⟩) x.length (grownCap w x.length 0 5)) ∧ Below w.heap.size w (bytesWorld w 5 ⟨x.toArray⟩) := by
  have hz : (⟨x.toArray⟩ : ByteArray).size = x.length := List.size_toArray
  refine ⟨⟨_, _, rfl, fun _ => ⟨_, rfl, fun j v hv => ?_⟩, ?_, fun ad e => by cases e; exact ⟨_, rfl, Nat.le_refl _, by rw [bytesWorld_size]; omega⟩, fun e => by cases e⟩, ?_⟩
  · have hj : j < x.length := by
      have := (List.getElem?_eq_some_iff.1 hv).1
      rwa [bcs_len] at this
    rw [Addr.add_mid, Nat.zero_add, bytesWorld_cell w _ _ j (by omega)]
    rw [bcs_get, List.getElem?_eq_getElem hj] at hv
    rw [← hv]
    simp [List.getD_eq_getElem?_getD, List.getElem?_eq_getElem hj]
  · exact grownCap_ge _ _ _ _
  · exact (Below.refl _ _).grown (row := none) ⟨rfl, rfl, rfl, by rw [bytesWorld_size]; omega, fun k hk _ => bytesWorld_at_old w _ _ k hk⟩ (Nat.le_refl _) (fun k hk => by cases hk)
theorem wpList_convH {P : Program} {ops : Array Oper} {rest : List Oper} {o : Oper} {a : Act} {w : World} {Q : Exit → Act → World → Prop} (hgd : o.guard = none) (tx ty : TypeId) (x : Operand) (ho : o.op = .convert tx ty x) (v1 : Value) (hx : a.eval x = v1) (R : Value → World → Prop)
    (hr : ∃ v w1, (convert tx ty v1).run P w = .ok v w1 ∧ R v w1) (h : ∀ v w', R v w' → wpList P ops Q rest (a.put o.dst v) w') : wpList P ops Q (o :: rest) a w := by
  obtain ⟨v, w1, hr, hR⟩ := hr
  refine wpList_runH hgd v w1 ?_ (fun w' hw => by rw [hw.out]; exact h v w1 hR)
  simp [execOp, ho, hx, hr, Result.andThen]
theorem conv_row (x : List UInt8) (W : World) : ∃ v w1, (convert 9 28 (.string ⟨x.toArray⟩)).run Tryd.prog W = .ok v w1 ∧ ∃ A c, v = .slice A x.length c ∧ NewBs W w1 x (.slice A x.length c) ∧ Below W.heap.size W w1 := by
  have hz : (⟨x.toArray⟩ : ByteArray).size = x.length := List.size_toArray
  have h := Lib.run_convert_string_bytes (P := Tryd.prog) W 9 28 5 ⟨x.toArray⟩ Tryd.underlying9 Tryd.underlying28 Tryd.underlying5
  rw [hz] at h
  exact ⟨_, _, h, _, _, rfl, (bytes_row W x).1, (bytes_row W x).2⟩
theorem NewBs.put {w W1 W2 : World} {x : List UInt8} {v : Value} {b : Nat} {vs : List Value} (h : NewBs W1 W2 x v) (hw : w.heap.size ≤ W1.heap.size) (hb : b < W1.heap.size) : NewBs w (W2.setCells b 0 vs) x v := by
  obtain ⟨A, c, rfl, h1, h2, h3, h4⟩ := h
  refine ⟨A, c, rfl, fun h0 => ?_, h2, fun ad e => ?_, h4⟩
  · obtain ⟨ad, e, hc⟩ := h1 h0
    obtain ⟨g, e1, e2, e3⟩ := h3 ad e
    subst e1
    refine ⟨_, e, fun j v hv => ?_⟩
    have := hc j v hv
    rw [Addr.add_mid] at this ⊢
    rw [World.cell?_of_block (heap_setCells _ _ _ _ _ (by show g ≠ b; omega))]
    exact this
  · obtain ⟨g, e1, e2, e3⟩ := h3 ad e
    exact ⟨g, e1, by omega, by rw [size_setCells]; exact e3⟩
theorem str_none (A : Option Addr) (c : Nat) (w : World) : Sem.run Tryd.prog (convert 28 9 (.slice A ([] : List UInt8).length c)) w = .ok (.string ⟨#[]⟩) w := by
  rw [show ([] : List UInt8).length = 0 from rfl, run_convert_bytes_string w 28 9 5 A 0 c Tryd.underlying28 Tryd.underlying5 Tryd.underlying9]
  cases A <;> rfl
theorem real_keep {w W2 : World} {X : Obj} (hb2 : Below ((w.alloc X).alloc (.cells (pcs zeroPc none 0).toArray 33)).heap.size ((w.alloc X).alloc (.cells (pcs zeroPc none 0).toArray 33)) W2) : HdD W2 (w.heap.size + 1) (pcs zeroPc none 0) ∧ Below w.heap.size w W2 := by
  have h := hd_new (w.alloc X) (pcs zeroPc none 0) 33
  have hs : (w.alloc X).heap.size = w.heap.size + 1 := by simp
  rw [hs] at h
  exact ⟨h.keep (by simp) hb2, (((Below.refl _ _).alloc (Nat.le_refl _) _).alloc (by rw [hs]; omega) _).trans (hb2.mono (by simp; omega))⟩
set_option maxHeartbeats 4000000 in
set_option maxRecDepth 100000 in
theorem real_pc (p : Pc) (w : World) :
    Calls Tryd.prog 6 #[p.dv] w fun e w' => ∃ A c, e = .returned (p.pv A c) ∧ NewBs w w' p.da (.slice A p.da.length c) ∧ Below w.heap.size w w' := by
  obtain ⟨kd, ep, nu, pa, ps, da⟩ := p
  unfold Pc.dv
  simp only
  have HC := Lib.hid (conv_row da)
  obtain ⟨S, hS⟩ : ∃ S : ByteArray, (⟨da.toArray⟩ : ByteArray) = S := ⟨_, rfl⟩
  rw [hS] at HC ⊢
  clear hS
  go_enter Tryd.func6, Tryd.ntmps6
  go_wp2_with (first
    | ((with_reducible refine at_slot 15 ?_); go_must (refine wpList_convH rfl 9 28 _ rfl _ rfl _ (HC.out _) ?_; rintro _ W2 ⟨A2, c2, rfl, hn2, hb2⟩; have hk := real_keep hb2; have HK := Lib.hid hk; have HN := Lib.hid hn2; clear hk hn2 hb2))
    | ((with_reducible refine at_store 33 ?_); go_must (refine wpList_storeH rfl 33 _ _ rfl (w.heap.size + 1) 0 (pcs ⟨kd, ep, nu, pa, ps, da⟩ A2 c2).toArray ?c1 rfl ?c2 size_pc (pcs_one _ _ _) ?_; (case c1 => first | rfl | (simp [Act.eval]; done)); (case c2 => exact fun j hj => ⟨by rw [HK.out.1.1 j _ (List.getElem?_eq_getElem (by simpa [pcs] using hj))]; rfl, by rw [Nat.zero_add]; exact HK.out.1.2 j (by simpa [pcs] using hj)⟩); intro W3 HW3)))
  have h3 : HdD W3 (w.heap.size + 1) (pcs ⟨kd, ep, nu, pa, ps, da⟩ A2 c2) := by rw [HW3.out]; exact HK.out.1.all rfl
  refine ret_cell1 (pcs ⟨kd, ep, nu, pa, ps, da⟩ A2 c2) (w.heap.size + 1) rfl rfl h3.1 Tryd.underlying33 rfl size_pc rfl ?_
  refine ⟨A2, c2, rfl, ?_, ?_⟩
  · rw [HW3.out]
    exact HN.out.put (by simp; omega) (by simp)
  · rw [HW3.out]
    exact below_setCells HK.out.2 (by omega) _ _
set_option maxHeartbeats 4000000 in
set_option maxRecDepth 100000 in
theorem is_pc (p : Pc) (A : Option Addr) (c : Nat) (w : World) (hB : Bt w A p.da) :
    Calls Tryd.prog 12 #[p.pv A c, p.dv] w fun e w' => e = .returned (.bool true) ∧ Below w.heap.size w w' := by
  have hst : ∀ W, Below w.heap.size w W → Sem.run Tryd.prog (convert 28 9 (.slice A p.da.length c)) W = .ok (.string ⟨p.da.toArray⟩) W := fun W hW => by
    rcases Nat.eq_zero_or_pos p.da.length with h0 | h0
    · have hx : p.da = [] := List.eq_nil_of_length_eq_zero h0
      rw [hx]
      exact str_none A c W
    · obtain ⟨ad, rfl, hc⟩ := hB h0
      have h1 := hc 0 _ (by rw [bcs_get, List.getElem?_eq_getElem h0]; rfl)
      obtain ⟨g, q, s⟩ := ad
      obtain rfl : s = none := by simpa [Addr.add] using World.cell?_spot h1
      exact str_of (hB.keep hW) c
  have HS := Lib.hid hst
  obtain ⟨l, hl⟩ : ∃ l, p.da.length = l := ⟨_, rfl⟩
  obtain ⟨S, hS⟩ : ∃ S : ByteArray, (⟨p.da.toArray⟩ : ByteArray) = S := ⟨_, rfl⟩
  unfold Pc.pv Pc.dv
  rw [hl, hS] at HS
  rw [hl, hS]
  clear hst hB hl hS
  have hr1 := HS.out ((w.alloc (.cells #[.int .i64 p.kd, .int .i64 p.ep, .int .i64 p.nu, .int .i64 p.pa, .int .i64 p.ps, .slice A l c] 33)).alloc (.cells #[.int .i64 p.kd, .int .i64 p.ep, .int .i64 p.nu, .int .i64 p.pa, .int .i64 p.ps, .string S] 23)) (((Below.refl _ _).alloc (Nat.le_refl _) _).alloc (by simp) _)
  go_enter Tryd.func12, Tryd.ntmps12
  go_wp2_with fail
  go_ret
  exact ⟨rfl, ((Below.refl _ _).alloc (Nat.le_refl _) _).alloc (by simp) _⟩
end Go.Proofs.YtmejpjknofbffaaDoor
