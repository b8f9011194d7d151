/-
  The document's Read, walked.
-/
import Derived.Test.YthkcimojemofgaaDoorRd2
import Derived.Test.YthkcimojemofgaaDoorRd1b
import Derived.Test.YthkcimojemofgaaDoorRe7
namespace Go.Proofs.YthkcimojemofgaaDoor
open Go.RowKit Go.Lib
set_option linter.unusedVariables false
set_option linter.unusedSimpArgs false

theorem dcs_one (p : Pc) : (dcs p).toArray.all (·.oneCell') = true := by
  refine all_oneCell_toArray fun v hv => ?_
  simp only [dcs, List.mem_cons, List.not_mem_nil, or_false] at hv
  rcases hv with rfl | rfl | rfl | rfl | rfl | rfl <;> rfl
theorem size_dp : (Tryd.prog.info? 23).map (·.size) = some 6 := by kernel_rfl
theorem zero_dp : (Tryd.prog.info? 23).map (·.zero) = some (some (.agg (dcs zeroPc).toArray)) := by kernel_rfl
/-- What the document's Read answers. -/
def RRAns (w : World) (x : List UInt8) (e : Ending) (w' : World) : Prop := e = .returned (.tuple #[(readA x).dv, .int .u8 (readM x : Int), .int .i64 (readC x)]) ∧ Below w.heap.size w w'
theorem rr_no {w w' : World} {x : List UInt8} {c : Int} (h : readC x = c) (h0 : c ≠ 0) (hb : Below w.heap.size w w') : RRAns w x (.returned (.tuple #[.agg (dcs zeroPc).toArray, .int .u8 0, .int .i64 c])) w' := by
  refine ⟨?_, hb⟩
  rw [readA, readM, h, if_neg h0, if_neg h0]
  rfl
theorem sub_str (x : List UInt8) (a b : Nat) (h : b ≤ x.length) : (⟨x.toArray⟩ : ByteArray).extract a b = ⟨(cutL x a b).toArray⟩ := by
  apply ByteArray.ext
  rw [ByteArray.data_extract]
  simp [cutL, List.drop_take]
set_option maxRecDepth 100000 in
set_option maxHeartbeats 4000000 in
theorem rr_len (x : List UInt8) (hx : x.length ≠ 64) (w : World) : Calls Tryd.prog 18 #[.string ⟨x.toArray⟩] w (RRAns w x) := by
  have hc : readC x = 1 := by rw [readC, if_pos hx]
  have HC := Lib.hid hc
  obtain ⟨S, hS⟩ : ∃ S : ByteArray, (⟨x.toArray⟩ : ByteArray) = S := ⟨_, rfl⟩
  have hz : S.size = x.length := by rw [← hS]; exact List.size_toArray
  obtain ⟨n, hn⟩ : ∃ n : Nat, x.length = n := ⟨_, rfl⟩
  rw [hn] at hz hx
  rw [hS]
  have d1 : ((n : Int) != 64) = true := by rw [bne_iff_ne]; omega
  have d2 : ((n : Int) == 64) = false := by rw [beq_eq_false_iff_ne]; omega
  clear hc hn hS
  have hnew := hd_new w (dcs zeroPc) 23
  have HNew := Lib.hid hnew
  go_enter Tryd.func18, Tryd.ntmps18
  go_wp2_with fail
  exact ret_P zeroPc w.heap.size rfl rfl HNew.out rfl (rr_no HC.out (by decide) (new_below w _))
theorem undrew2 {W W' : World} (h : Below W.drew.heap.size W.drew W') : Below W.heap.size W W' := (Below.drew (Below.refl _ _)).trans h
theorem eq_bytes {a b : List UInt8} (h : (⟨a.toArray⟩ : ByteArray) = ⟨b.toArray⟩) : a = b := by
  have h2 : a.toArray = b.toArray := congrArg ByteArray.data h
  simpa using congrArg Array.toList h2
theorem byte_at {x : List UInt8} {S : ByteArray} (hS : (⟨x.toArray⟩ : ByteArray) = S) (i : Nat) : ∀ h : i < S.size, (S[i]'h).toNat = byteN x i := by
  subst hS
  intro h
  have hi : i < x.length := by
    have : (⟨x.toArray⟩ : ByteArray).size = x.length := List.size_toArray
    omega
  have h1 : (⟨x.toArray⟩ : ByteArray)[i] = x[i] := by
    show x.toArray[i] = x[i]
    simp
  rw [h1, byteN, List.getD_eq_getElem?_getD, List.getElem?_eq_getElem hi]
  rfl
def ZRel (x : List UInt8) (n : Nat) (W1 : World) (kk : Nat) (i : Value) (wr : World) : Prop := ∃ k : Nat, k + kk = 63 ∧ 21 + n ≤ k ∧ i = .int .i64 (k : Int) ∧ (∀ j, 21 + n ≤ j → j < k → x.getD j 0 = 0) ∧ W1 = wr
theorem allZ_yes {x : List UInt8} {n : Nat} (hx : x.length = 64) (h : ∀ j, 21 + n ≤ j → j < 63 → x.getD j 0 = 0) : allZ (cutL x (21 + n) 63) = true := by
  rw [allZ, List.all_eq_true]
  intro c hc
  obtain ⟨i, hi, rfl⟩ := List.getElem_of_mem hc
  have hi' : i < 63 - (21 + n) := by rwa [cutL_len x (by omega)] at hi
  have h1 := h (21 + n + i) (by omega) (by omega)
  have h2 := cutL_get x (l := 21 + n) (h := 63) hi'
  rw [List.getElem?_eq_getElem hi] at h2
  rw [List.getD_eq_getElem?_getD, ← h2] at h1
  simpa using h1
theorem allZ_no {x : List UInt8} {n k : Nat} (hx : x.length = 64) (h1 : 21 + n ≤ k) (h2 : k < 63) (h : x.getD k 0 ≠ 0) : allZ (cutL x (21 + n) 63) = false := by
  rw [allZ, List.all_eq_false]
  have hi' : k - (21 + n) < 63 - (21 + n) := by omega
  have h3 := cutL_get x (l := 21 + n) (h := 63) hi'
  rw [show 21 + n + (k - (21 + n)) = k by omega] at h3
  have hl : k - (21 + n) < (cutL x (21 + n) 63).length := by rw [cutL_len x (by omega)]; exact hi'
  refine ⟨(cutL x (21 + n) 63)[k - (21 + n)], List.getElem_mem hl, ?_⟩
  rw [List.getElem?_eq_getElem hl] at h3
  rw [List.getD_eq_getElem?_getD, ← h3] at h
  simpa using h
theorem one6 (a b c d e : Int) (s : ByteArray) : (#[Value.int .i64 a, .int .i64 b, .int .i64 c, .int .i64 d, .int .i64 e, .string s]).all (·.oneCell') = true := by
  refine all_oneCell_toArray (cs := [Value.int .i64 a, .int .i64 b, .int .i64 c, .int .i64 d, .int .i64 e, .string s]) fun v hv => ?_
  simp only [List.mem_cons, List.not_mem_nil, or_false] at hv
  rcases hv with rfl | rfl | rfl | rfl | rfl | rfl <;> rfl
theorem field_E1 (x y : Int) (s : ByteArray) (W : World) : Sem.run Tryd.prog (Instr.field 26 (.agg #[.int .i64 x, .int .i64 y, .string s]) 0) W = .ok (.int .i64 x) W := by kernel_rfl
theorem sz_cut {x : List UInt8} {a b : Nat} (h : b ≤ x.length) : (⟨(cutL x a b).toArray⟩ : ByteArray).size = b - a := (List.size_toArray).trans (cutL_len x h)
set_option maxRecDepth 100000 in
set_option maxHeartbeats 16000000 in
theorem rr_main (x : List UInt8) (hx : x.length = 64) (w : World) : Calls Tryd.prog 18 #[.string ⟨x.toArray⟩] w (RRAns w x) := by
  obtain ⟨n, hn⟩ : ∃ n, byteN x 12 = n := ⟨_, rfl⟩
  have hn256 : n < 256 := by rw [← hn]; exact UInt8.toNat_lt _
  obtain ⟨m, hm⟩ : ∃ m, min n 42 = m := ⟨_, rfl⟩
  have hm42 : m ≤ 42 := by omega
  have hmi : min (n : Int) 42 = (m : Int) := by omega
  have hsl : sumL x = cutL x 1 13 ++ cutL x 21 (21 + m) := by
    unfold sumL
    rw [show (x.getD 12 0).toNat = n from hn, hm]
  have e13 := sub_str x 13 21 (by omega)
  have e1 := sub_str x 1 13 (by omega)
  have e21 := sub_str x 21 (21 + m) (by omega)
  have e2 := sub_str x 2 6 (by omega)
  have e6 := sub_str x 6 10 (by omega)
  have hHN1 := fun W => number_any4 (cutL x 2 6) (cutL_len x (by omega)) W
  have hHN2 := fun W => number_any4 (cutL x 6 10) (cutL_len x (by omega)) W
  have hHS := fun W => refbsum_any (⟨(sumL x).toArray⟩ : ByteArray) W (by
    have h1 : (⟨(sumL x).toArray⟩ : ByteArray).size = (sumL x).length := List.size_toArray
    rw [h1, hsl, List.length_append, cutL_len x (by omega), cutL_len x (by omega)]
    omega)
  have hcat : (⟨(cutL x 1 13).toArray⟩ : ByteArray) ++ ⟨(cutL x 21 (21 + m)).toArray⟩ = ⟨(sumL x).toArray⟩ := by
    apply ByteArray.ext
    rw [ByteArray.data_append, hsl]
    simp
  have hza : (⟨(cutL x 1 13).toArray⟩ : ByteArray).size = 13 - 1 := sz_cut (by omega)
  have hzb : (⟨(cutL x 21 (21 + m)).toArray⟩ : ByteArray).size = 21 + m - 21 := sz_cut (by omega)
  have hfit : ¬ (9223372036854775807 < (⟨(cutL x 1 13).toArray⟩ : ByteArray).size + (⟨(cutL x 21 (21 + m)).toArray⟩ : ByteArray).size) := by omega
  have hcmp : (⟨(cutL x 13 21).toArray⟩ : ByteArray) = ⟨(be 8 (fnv (sumL x))).toArray⟩ ↔ un (cutL x 13 21) = fnv (sumL x) := by
    have hF := fnv_lt (sumL x)
    constructor
    · intro h
      rw [eq_bytes h]
      exact un_be 8 _ hF
    · intro h
      rw [← h]
      have h8 := be_un (cutL x 13 21)
      rw [cutL_len x (by omega)] at h8
      rw [h8]
  have e0 : (⟨(sumL x).toArray⟩ : ByteArray).data.toList = sumL x := rfl
  rw [e0] at hHS
  obtain ⟨S, hS⟩ : ∃ S : ByteArray, (⟨x.toArray⟩ : ByteArray) = S := ⟨_, rfl⟩
  have hz : S.size = 64 := by rw [← hS, ← hx]; exact List.size_toArray
  have hTD := sub_str x 21 (21 + n)
  have HY := Lib.hid (byte_at hS)
  rw [hS] at e13 e1 e21 e2 e6 hTD ⊢
  obtain ⟨T13, h13⟩ : ∃ T : ByteArray, (⟨(cutL x 13 21).toArray⟩ : ByteArray) = T := ⟨_, rfl⟩
  obtain ⟨TA, hTA⟩ : ∃ T : ByteArray, (⟨(cutL x 1 13).toArray⟩ : ByteArray) = T := ⟨_, rfl⟩
  obtain ⟨TB, hTB⟩ : ∃ T : ByteArray, (⟨(cutL x 21 (21 + m)).toArray⟩ : ByteArray) = T := ⟨_, rfl⟩
  obtain ⟨TS, hTS⟩ : ∃ T : ByteArray, (⟨(sumL x).toArray⟩ : ByteArray) = T := ⟨_, rfl⟩
  obtain ⟨TF, hTF⟩ : ∃ T : ByteArray, (⟨(be 8 (fnv (sumL x))).toArray⟩ : ByteArray) = T := ⟨_, rfl⟩
  obtain ⟨T2, hT2⟩ : ∃ T : ByteArray, (⟨(cutL x 2 6).toArray⟩ : ByteArray) = T := ⟨_, rfl⟩
  obtain ⟨T6, hT6⟩ : ∃ T : ByteArray, (⟨(cutL x 6 10).toArray⟩ : ByteArray) = T := ⟨_, rfl⟩
  obtain ⟨TD, hTDD⟩ : ∃ T : ByteArray, (⟨(cutL x 21 (21 + n)).toArray⟩ : ByteArray) = T := ⟨_, rfl⟩
  obtain ⟨u1, hu1⟩ : ∃ u, un (cutL x 2 6) = u := ⟨_, rfl⟩
  obtain ⟨u2, hu2⟩ : ∃ u, un (cutL x 6 10) = u := ⟨_, rfl⟩
  have hl1 : u1 < 4294967296 := by
    have h := un_lt (cutL x 2 6)
    rw [cutL_len x (by omega), hu1] at h
    exact h
  have hl2 : u2 < 4294967296 := by
    have h := un_lt (cutL x 6 10)
    rw [cutL_len x (by omega), hu2] at h
    exact h
  rw [h13] at e13 hcmp
  rw [hTA] at e1 hcat hfit
  rw [hTB] at e21 hcat hfit
  rw [hTS] at hcat hHS
  rw [hTF] at hHS hcmp
  rw [hT2, hu1] at hHN1
  rw [hT6, hu2] at hHN2
  rw [hT2] at e2
  rw [hT6] at e6
  have HN1 := Lib.hid hHN1
  have HN2 := Lib.hid hHN2
  have HS := Lib.hid hHS
  have HCmp := Lib.hid hcmp
  have HTD := Lib.hid (And.intro hTD hTDD)
  have HX := Lib.hid (And.intro hx (And.intro hn (And.intro hu1 hu2)))
  have HE := Lib.hid (And.intro e2 e6)
  have HE2 := Lib.hid (And.intro e13 (And.intro e1 (And.intro e21 (And.intro hcat hfit))))
  have HLu := Lib.hid (And.intro hl1 hl2)
  have hnew := hd_new w (dcs zeroPc) 23
  have HNew := Lib.hid hnew
  have y0 := HY.out 0
  have y12 := HY.out 12
  have y63 := HY.out 63
  rw [hn] at y12
  obtain ⟨b0, hb0⟩ : ∃ b, byteN x 0 = b := ⟨_, rfl⟩
  obtain ⟨b63, hb63⟩ : ∃ b, byteN x 63 = b := ⟨_, rfl⟩
  rw [hb0] at y0
  rw [hb63] at y63
  have hc2 : b0 = b63 ↔ x.getD 0 0 = x.getD 63 0 := by
    rw [← hb0, ← hb63]
    exact UInt8.toNat_inj
  have hwn : wrap64 (n : Int) = (n : Int) := w64_nat n (by omega)
  have HB0 := Lib.hid hb0
  clear hHN1 hHN2 hHS hcmp hTD hTDD e2 e6 hx hn hu1 hu2 hl1 hl2 hsl e0 hza hzb h13 hTA hTB hTS hTF hT2 hT6 hnew hb0 hb63 hm hS e13 e1 e21 hcat hfit
  go_enter Tryd.func18, Tryd.ntmps18
  go_upto_region 4 with (fail)
  go_region
  by_cases c2 : b0 = b63
  rotate_left
  · have d1 : ((b0 : Int) != (b63 : Int)) = true := by rw [bne_iff_ne]; omega
    have d2 : ((b0 : Int) == (b63 : Int)) = false := by rw [beq_eq_false_iff_ne]; omega
    have HC := Lib.hid (show readC x = 20 by rw [readC, if_neg (by rw [HX.out.1]; simp), if_pos (fun h => c2 (hc2.2 h))])
    clear hc2
    go_wp2_with fail
    exact ret_P zeroPc w.heap.size rfl rfl (HNew.out.keep (by simp) ((Below.refl _ _).drew)) rfl (rr_no HC.out (by decide) (new_below w _).drew)
  have HC2 := Lib.hid (hc2.1 c2)
  have d1 : ((b0 : Int) != (b63 : Int)) = false := by rw [bne_eq_false_iff_eq]; omega
  have d2 : ((b0 : Int) == (b63 : Int)) = true := by rw [beq_iff_eq]; omega
  subst c2
  clear hc2
  go_upto_region 6 with (fail)
  obtain ⟨e13, e1, e21, hcat, hfit⟩ := HE2.out
  have hq1 : ((21 : Int) + (m : Int)).toNat = 21 + m := by omega
  have hq2 : (21 : Int) + (m : Int) ≤ 64 := by omega
  have hq3 : IntKind.i64.wrap ((21 : Int) + (m : Int)) = 21 + (m : Int) := IntWalk.i64_in _ (by omega)
  have hs21 : ∀ W, Sem.run Tryd.prog (Instr.slice 9 (.string S) (some (.int .i64 21)) (some (.int .i64 (21 + (m : Int)))) none) W = .ok (.string TB) W := fun W => by
    rw [run_slice_string (h := Tryd.underlying9) (h0 := by omega) (h1 := by omega) (h2 := by rw [hz]; omega), hq1, show (21 : Int).toNat = 21 from rfl, e21]
  have hnb : Below w.heap.size w (w.alloc (.cells (dcs zeroPc).toArray 23)) := new_below w _
  try rw [d1]
  go_cut [32] from 21 to 32 (fun v32 wx => v32 = .bool (decide (¬ un (cutL x 13 21) = fnv (sumL x))) ∧ Below w.heap.size w wx ∧ HdD wx w.heap.size (dcs zeroPc))
  case first =>
    by_cases c3 : un (cutL x 13 21) = fnv (sumL x)
    · have h3 : T13 = TF := HCmp.out.2 c3
      subst h3
      have HC3 := Lib.hid c3
      clear c3
      go_region_law
        (first
          | (go_simp; go_at_call 35; with_reducible refine (HS.out _).mono ?_; rintro e W1 ⟨rfl, hb1⟩; have HB1 := Lib.hid (undrew2 (undrew2 hb1)); clear hb1))
      all_goals
        go_wp2_with fail
        go_meet
        exact ⟨by rw [decide_eq_false (fun h => h HC3.out)], hnb.trans (HB1.out.mono (by simp)), HNew.out.keep (by simp) HB1.out⟩
    · have h3 : ¬ T13 = TF := fun h => c3 (HCmp.out.1 h)
      have h4 : decide (T13 = TF) = false := decide_eq_false h3
      have h5 : (T13.toList == TF.toList) = false := by
        rw [beq_eq_false_iff_ne]
        intro h
        rw [Go.ByteArray.toList_eq, Go.ByteArray.toList_eq] at h
        exact h3 (ByteArray.ext (Array.toList_inj.1 h))
      have HC3 := Lib.hid c3
      clear c3
      go_region_law
        (first
          | (go_simp; go_at_call 35; with_reducible refine (HS.out _).mono ?_; rintro e W1 ⟨rfl, hb1⟩; have HB1 := Lib.hid (undrew2 (undrew2 hb1)); clear hb1))
      all_goals
        go_wp2_with fail
        go_meet
        exact ⟨by rw [decide_eq_true HC3.out], hnb.trans (HB1.out.mono (by simp)), HNew.out.keep (by simp) HB1.out⟩
  case rest =>
  obtain ⟨rfl, hbx, hhx⟩ := hcut
  have HW := Lib.hid hbx
  have HH := Lib.hid hhx
  obtain ⟨bb, hbb⟩ : ∃ y : Bool, decide (¬ un (cutL x 13 21) = fnv (sumL x)) = y := ⟨_, rfl⟩
  rw [hbb]
  clear hbx hhx hq1 hq2 hq3 hs21 e13 e1 e21 hcat hfit d1 d2 hmi
  cases bb with
  | true =>
    have c3 := of_decide_eq_true hbb
    have HC := Lib.hid (show readC x = 20 by rw [readC, if_neg (by rw [HX.out.1]; simp), if_neg (fun h => h HC2.out), if_pos c3])
    clear c3 hbb
    go_wp2_with (first | ((with_reducible refine at_store 23 ?_); go_must (refine wpList_storeH rfl 23 _ _ rfl w.heap.size 0 (dcs zeroPc).toArray ?c1 rfl (HH.out.th) size_dp (dcs_one _) ?_; (case c1 => first | rfl | (simp [Act.eval]; done)); intro W9 HW9)))
    have h9 : HdD W9 w.heap.size (dcs zeroPc) := by rw [HW9.out]; exact HH.out.all rfl
    refine ret_P zeroPc w.heap.size rfl rfl h9 rfl (rr_no HC.out (by decide) ?_)
    rw [HW9.out]
    exact below_setCells HW.out (Nat.le_refl _) _ _
  | false =>
  have HC3 := Lib.hid (show un (cutL x 13 21) = fnv (sumL x) from Decidable.not_not.1 (of_decide_eq_false hbb))
  clear hbb
  by_cases c4 : 42 < n
  · have d1 : decide ((42 : Int) < (n : Int)) = true := decide_eq_true (by omega)
    have d2 : decide (42 < n) = true := decide_eq_true c4
    have HC := Lib.hid (show readC x = 1 by rw [readC, if_neg (by rw [HX.out.1]; simp), if_neg (fun h => h HC2.out), if_neg (fun h => h HC3.out), if_pos (by rw [HX.out.2.1]; exact c4)])
    go_wp2_with (first | ((with_reducible refine at_store 23 ?_); go_must (refine wpList_storeH rfl 23 _ _ rfl w.heap.size 0 (dcs zeroPc).toArray ?c1 rfl (HH.out.th) size_dp (dcs_one _) ?_; (case c1 => first | rfl | (simp [Act.eval]; done)); intro W9 HW9)))
    have h9 : HdD W9 w.heap.size (dcs zeroPc) := by rw [HW9.out]; exact HH.out.all rfl
    refine ret_P zeroPc w.heap.size rfl rfl h9 rfl (rr_no HC.out (by decide) ?_)
    rw [HW9.out]
    exact below_setCells HW.out (Nat.le_refl _) _ _
  have d1 : decide ((42 : Int) < (n : Int)) = false := decide_eq_false (by omega)
  have d2 : decide (42 < n) = false := decide_eq_false c4
  have hn42 : n ≤ 42 := by omega
  have hq3 : IntKind.i64.wrap ((21 : Int) + (n : Int)) = ((21 + n : Nat) : Int) := by rw [IntWalk.i64_in _ (by omega)]; omega
  have hq4 : wrap64 ((21 : Int) + (n : Int)) = ((21 + n : Nat) : Int) := by rw [show (21 : Int) + (n : Int) = ((21 + n : Nat) : Int) by omega]; exact w64_nat _ (by omega)
  have HC4 := Lib.hid c4
  clear c4
  obtain ⟨W1, hW1⟩ : ∃ W1 : World, W1 = wc := ⟨wc, rfl⟩
  subst hW1
  go_wp2_with fail
  go_loopg [6] (63 - (21 + n)) (ZRel x n W1)
  case atStart => exact ⟨21 + n, by omega, Nat.le_refl _, by first | rfl | go_num, fun j h1 h2 => by omega, rfl⟩
  case round =>
    obtain ⟨k, hk, hkn, rfl, hall, hwr⟩ := hrel
    subst hwr
    by_cases hlt : k < 63
    · have d3 : decide ((k : Int) < 63) = true := decide_eq_true (by omega)
      have d4 : decide (k < 63) = true := decide_eq_true hlt
      have hk64 : (k : Int) < 64 := by omega
      have yk := HY.out k
      obtain ⟨bk, hbk⟩ : ∃ b, byteN x k = b := ⟨_, rfl⟩
      rw [hbk] at yk
      have HK := Lib.hid (And.intro hk (And.intro hkn (And.intro hall (And.intro hbk hlt))))
      clear hk hkn hall hbk y0 y12 y63
      by_cases h0 : bk = 0
      · subst h0
        go_wp2_with fail
        go_roundg (63 - (k + 1))
        case rel =>
          obtain ⟨hk, hkn, hall, hbk, hlt⟩ := HK.out
          refine ⟨k + 1, by omega, by omega, by go_num, fun j h1 h2 => ?_, rfl⟩
          rcases Nat.lt_or_ge j k with h | h
          · exact hall j h1 h
          · obtain rfl : j = k := by omega
            exact UInt8.toNat_inj.1 hbk
        case measure => have := HK.out.1; omega
      · have d5 : ((bk : Int) != 0) = true := by rw [bne_iff_ne]; omega
        have d6 : ((bk : Int) == 0) = false := by rw [beq_eq_false_iff_ne]; omega
        have HC := Lib.hid (show readC x = 1 by
          rw [readC, if_neg (by rw [HX.out.1]; simp), if_neg (fun h => h HC2.out), if_neg (fun h => h HC3.out), if_neg (by rw [HX.out.2.1]; exact HC4.out), if_pos]
          rw [HX.out.2.1]
          exact allZ_no HX.out.1 HK.out.2.1 HK.out.2.2.2.2 (fun e => h0 (by rw [← HK.out.2.2.2.1, byteN, e]; rfl)))
        clear h0
        go_wp2_with (first | ((with_reducible refine at_store 23 ?_); go_must (refine wpList_storeH rfl 23 _ _ rfl w.heap.size 0 (dcs zeroPc).toArray ?c1 rfl (HH.out.th) size_dp (dcs_one _) ?_; (case c1 => first | rfl | (simp [Act.eval]; done)); intro W9 HW9)))
        have h9 : HdD W9 w.heap.size (dcs zeroPc) := by rw [HW9.out]; exact HH.out.all rfl
        refine ret_P zeroPc w.heap.size rfl rfl h9 rfl (rr_no HC.out (by decide) ?_)
        rw [HW9.out]
        exact below_setCells HW.out (Nat.le_refl _) _ _
    · obtain rfl : k = 63 := by omega
      have HZ := Lib.hid (allZ_yes HX.out.1 hall)
      clear hall
      have y1 := HY.out 1
      have y10 := HY.out 10
      have y11 := HY.out 11
      obtain ⟨b1, hb1⟩ : ∃ b, byteN x 1 = b := ⟨_, rfl⟩
      obtain ⟨b10, hb10⟩ : ∃ b, byteN x 10 = b := ⟨_, rfl⟩
      obtain ⟨b11, hb11⟩ : ∃ b, byteN x 11 = b := ⟨_, rfl⟩
      rw [hb1] at y1
      rw [hb10] at y10
      rw [hb11] at y11
      have w1 : wrap64 (b1 : Int) = (b1 : Int) := w64_nat b1 (by rw [← hb1]; have : byteN x 1 < 256 := UInt8.toNat_lt _; omega)
      have w10 : wrap64 (b10 : Int) = (b10 : Int) := w64_nat b10 (by rw [← hb10]; have : byteN x 10 < 256 := UInt8.toNat_lt _; omega)
      have w11 : wrap64 (b11 : Int) = (b11 : Int) := w64_nat b11 (by rw [← hb11]; have : byteN x 11 < 256 := UInt8.toNat_lt _; omega)
      have w1' : IntKind.i64.wrap (b1 : Int) = (b1 : Int) := (IntWalk.i64_left _).trans w1
      have w10' : IntKind.i64.wrap (b10 : Int) = (b10 : Int) := (IntWalk.i64_left _).trans w10
      have w11' : IntKind.i64.wrap (b11 : Int) = (b11 : Int) := (IntWalk.i64_left _).trans w11
      have HBd : b1 < 256 ∧ b10 < 256 ∧ b11 < 256 := ⟨by rw [← hb1]; exact UInt8.toNat_lt _, by rw [← hb10]; exact UInt8.toNat_lt _, by rw [← hb11]; exact UInt8.toNat_lt _⟩
      have HBD := Lib.hid HBd
      have HRP := Lib.hid (show readP x = ⟨b1, u1, u2, b10, b11, cutL x 21 (21 + n)⟩ by
        rw [readP, hb1, hb10, hb11, HX.out.2.1, HX.out.2.2.1, HX.out.2.2.2])
      obtain ⟨e2, e6⟩ := HE.out
      have hsD : ∀ W, Sem.run Tryd.prog (Instr.slice 9 (.string S) (some (.int .i64 21)) (some (.int .i64 (21 + (n : Int)))) none) W = .ok (.string TD) W := fun W => by
        rw [run_slice_string (h := Tryd.underlying9) (h0 := by omega) (h1 := by omega) (h2 := by rw [hz]; omega), show ((21 : Int) + (n : Int)).toNat = 21 + n by omega, show (21 : Int).toNat = 21 from rfl, HTD.out.1 (by rw [HX.out.1]; omega), HTD.out.2]
      clear hb1 hb10 hb11 HBd
      go_upto_region 15 with (fail)
      go_cut [7] from 48 to 67 (fun v7 wx => ∃ gp, v7 = .pointer (some ⟨gp, 0, none⟩) ∧ HdD wx gp [.int .i64 (b1 : Int), .int .i64 (u1 : Int), .int .i64 (u2 : Int), .int .i64 (b10 : Int), .int .i64 (b11 : Int), .string TD] ∧ Below W1.heap.size W1 wx ∧ W1.heap.size ≤ gp)
      case first =>
        have HB := Lib.hid (show Below W1.heap.size W1 W1.drew from (Below.refl _ _).drew)
        refine wp_region_held_drew (S := fun _ => True) (by kernel_rfl) trivial (fun hS => ?_)
        refine wpAnyH_take (i := 0) (v := .string S) rfl (by kernel_rfl) (by kernel_rfl) (by kernel_rfl) (fun _ _ _ h => h) (Or.inl ⟨by rfl, ?_⟩) hS ?_
        · intro w hSw
          go_simp
        try simp only [List.getElem_toArray, List.getElem_cons_succ, List.getElem_cons_zero, Act.put, List.setIfInBounds_toArray, List.set_cons_zero, List.set_cons_succ]
        refine wpAnyH_take (i := 1) (v := .int .u8 (b1 : Int)) rfl (by kernel_rfl) (by kernel_rfl) (by kernel_rfl) (fun _ _ _ h => h) (Or.inl ⟨by rfl, ?_⟩) hS ?_
        · intro w hSw
          go_simp
        try simp only [List.getElem_toArray, List.getElem_cons_succ, List.getElem_cons_zero, Act.put, List.setIfInBounds_toArray, List.set_cons_zero, List.set_cons_succ]
        refine wpAnyH_take (i := 2) (v := .int .i64 (b1 : Int)) rfl (by kernel_rfl) (by kernel_rfl) (by kernel_rfl) (fun _ _ _ h => h) (Or.inl ⟨by rfl, ?_⟩) hS ?_
        · intro w hSw
          go_simp
        try simp only [List.getElem_toArray, List.getElem_cons_succ, List.getElem_cons_zero, Act.put, List.setIfInBounds_toArray, List.set_cons_zero, List.set_cons_succ]
        refine wpAnyH_take (i := 3) (v := .string S) rfl (by kernel_rfl) (by kernel_rfl) (by kernel_rfl) (fun _ _ _ h => h) (Or.inl ⟨by rfl, ?_⟩) hS ?_
        · intro w hSw
          go_simp
        try simp only [List.getElem_toArray, List.getElem_cons_succ, List.getElem_cons_zero, Act.put, List.setIfInBounds_toArray, List.set_cons_zero, List.set_cons_succ]
        refine wpAnyH_take (i := 4) (v := .string T2) rfl (by kernel_rfl) (by kernel_rfl) (by kernel_rfl) (fun _ _ _ h => h) (Or.inl ⟨by rfl, ?_⟩) hS ?_
        · intro w hSw
          go_simp
        try simp only [List.getElem_toArray, List.getElem_cons_succ, List.getElem_cons_zero, Act.put, List.setIfInBounds_toArray, List.set_cons_zero, List.set_cons_succ]
        refine wpAnyH_take (i := 6) (v := .string S) rfl (by kernel_rfl) (by kernel_rfl) (by kernel_rfl) (fun _ _ _ h => h) (Or.inl ⟨by rfl, ?_⟩) hS ?_
        · intro w hSw
          go_simp
        try simp only [List.getElem_toArray, List.getElem_cons_succ, List.getElem_cons_zero, Act.put, List.setIfInBounds_toArray, List.set_cons_zero, List.set_cons_succ]
        refine wpAnyH_take (i := 7) (v := .string T6) rfl (by kernel_rfl) (by kernel_rfl) (by kernel_rfl) (fun _ _ _ h => h) (Or.inl ⟨by rfl, ?_⟩) hS ?_
        · intro w hSw
          go_simp
        try simp only [List.getElem_toArray, List.getElem_cons_succ, List.getElem_cons_zero, Act.put, List.setIfInBounds_toArray, List.set_cons_zero, List.set_cons_succ]
        refine wpAnyH_take (i := 9) (v := .string S) rfl (by kernel_rfl) (by kernel_rfl) (by kernel_rfl) (fun _ _ _ h => h) (Or.inl ⟨by rfl, ?_⟩) hS ?_
        · intro w hSw
          go_simp
        try simp only [List.getElem_toArray, List.getElem_cons_succ, List.getElem_cons_zero, Act.put, List.setIfInBounds_toArray, List.set_cons_zero, List.set_cons_succ]
        refine wpAnyH_take (i := 10) (v := .int .u8 (b10 : Int)) rfl (by kernel_rfl) (by kernel_rfl) (by kernel_rfl) (fun _ _ _ h => h) (Or.inl ⟨by rfl, ?_⟩) hS ?_
        · intro w hSw
          go_simp
        try simp only [List.getElem_toArray, List.getElem_cons_succ, List.getElem_cons_zero, Act.put, List.setIfInBounds_toArray, List.set_cons_zero, List.set_cons_succ]
        refine wpAnyH_take (i := 11) (v := .int .i64 (b10 : Int)) rfl (by kernel_rfl) (by kernel_rfl) (by kernel_rfl) (fun _ _ _ h => h) (Or.inl ⟨by rfl, ?_⟩) hS ?_
        · intro w hSw
          go_simp
        try simp only [List.getElem_toArray, List.getElem_cons_succ, List.getElem_cons_zero, Act.put, List.setIfInBounds_toArray, List.set_cons_zero, List.set_cons_succ]
        refine wpAnyH_take (i := 12) (v := .string S) rfl (by kernel_rfl) (by kernel_rfl) (by kernel_rfl) (fun _ _ _ h => h) (Or.inl ⟨by rfl, ?_⟩) hS ?_
        · intro w hSw
          go_simp
        try simp only [List.getElem_toArray, List.getElem_cons_succ, List.getElem_cons_zero, Act.put, List.setIfInBounds_toArray, List.set_cons_zero, List.set_cons_succ]
        refine wpAnyH_take (i := 13) (v := .int .u8 (b11 : Int)) rfl (by kernel_rfl) (by kernel_rfl) (by kernel_rfl) (fun _ _ _ h => h) (Or.inl ⟨by rfl, ?_⟩) hS ?_
        · intro w hSw
          go_simp
        try simp only [List.getElem_toArray, List.getElem_cons_succ, List.getElem_cons_zero, Act.put, List.setIfInBounds_toArray, List.set_cons_zero, List.set_cons_succ]
        refine wpAnyH_take (i := 14) (v := .int .i64 (b11 : Int)) rfl (by kernel_rfl) (by kernel_rfl) (by kernel_rfl) (fun _ _ _ h => h) (Or.inl ⟨by rfl, ?_⟩) hS ?_
        · intro w hSw
          go_simp
        try simp only [List.getElem_toArray, List.getElem_cons_succ, List.getElem_cons_zero, Act.put, List.setIfInBounds_toArray, List.set_cons_zero, List.set_cons_succ]
        refine wpAnyH_take (i := 15) (v := .string S) rfl (by kernel_rfl) (by kernel_rfl) (by kernel_rfl) (fun _ _ _ h => h) (Or.inl ⟨by rfl, ?_⟩) hS ?_
        · intro w hSw
          go_simp
        try simp only [List.getElem_toArray, List.getElem_cons_succ, List.getElem_cons_zero, Act.put, List.setIfInBounds_toArray, List.set_cons_zero, List.set_cons_succ]
        refine wpAnyH_take (i := 16) (v := .int .i64 (n : Int)) rfl (by kernel_rfl) (by kernel_rfl) (by kernel_rfl) (fun _ _ _ h => h) (Or.inl ⟨by rfl, ?_⟩) hS ?_
        · intro w hSw
          go_simp
        try simp only [List.getElem_toArray, List.getElem_cons_succ, List.getElem_cons_zero, Act.put, List.setIfInBounds_toArray, List.set_cons_zero, List.set_cons_succ]
        refine wpAnyH_take (i := 17) (v := .int .i64 (21 + (n : Int))) rfl (by kernel_rfl) (by kernel_rfl) (by kernel_rfl) (fun _ _ _ h => h) (Or.inl ⟨by rfl, ?_⟩) hS ?_
        · intro w hSw
          go_simp
        try simp only [List.getElem_toArray, List.getElem_cons_succ, List.getElem_cons_zero, Act.put, List.setIfInBounds_toArray, List.set_cons_zero, List.set_cons_succ]
        refine wpAnyH_take (i := 18) (v := .string TD) rfl (by kernel_rfl) (by kernel_rfl) (by kernel_rfl) (fun _ _ _ h => h) (Or.inl ⟨by rfl, ?_⟩) hS ?_
        · intro w hSw
          go_simp
        try simp only [List.getElem_toArray, List.getElem_cons_succ, List.getElem_cons_zero, Act.put, List.setIfInBounds_toArray, List.set_cons_zero, List.set_cons_succ]
        refine wpAnyH_ready (rs := [5, 20]) (by kernel_rfl) (by simp) ?_
        refine AllReadyH.cons rfl (fun K hK => ?_) ?_
        · go_simp
          with_reducible refine (HN1.out _).mono ?_
          rintro e W6 ⟨rfl, hb6⟩
          have HB6 := Lib.hid hb6
          skip
          have HB := Lib.hid (HB.out.trans (HB6.out.mono HB.out.size))
          clear hb6 HB6
          refine hK.out _ _ trivial (fun hS => ?_)
          clear hK K
          try simp only [List.getElem_toArray, List.getElem_cons_succ, List.getElem_cons_zero, Act.put, List.setIfInBounds_toArray, List.set_cons_zero, List.set_cons_succ]
          refine wpAnyH_ready (rs := [8, 20]) (by kernel_rfl) (by simp) ?_
          refine AllReadyH.cons rfl (fun K hK => ?_) ?_
          · go_simp
            with_reducible refine (HN2.out _).mono ?_
            rintro e W6 ⟨rfl, hb6⟩
            have HB6 := Lib.hid hb6
            skip
            have HB := Lib.hid (HB.out.trans (HB6.out.mono HB.out.size))
            clear hb6 HB6
            refine hK.out _ _ trivial (fun hS => ?_)
            clear hK K
            try simp only [List.getElem_toArray, List.getElem_cons_succ, List.getElem_cons_zero, Act.put, List.setIfInBounds_toArray, List.set_cons_zero, List.set_cons_succ]
            refine wpAnyH_take (i := 19) (v := .agg #[.int .i64 (b1 : Int), .int .i64 (u1 : Int), .int .i64 (u2 : Int), .int .i64 (b10 : Int), .int .i64 (b11 : Int), .string TD]) rfl (by kernel_rfl) (by kernel_rfl) (by kernel_rfl) (fun _ _ _ h => h) (Or.inl ⟨by rfl, ?_⟩) hS ?_
            · intro w hSw
              go_simp
            try simp only [List.getElem_toArray, List.getElem_cons_succ, List.getElem_cons_zero, Act.put, List.setIfInBounds_toArray, List.set_cons_zero, List.set_cons_succ]
            refine wpAnyH_ready (rs := [20]) (by kernel_rfl) (by simp) ?_
            refine AllReadyH.cons rfl (fun K hK => ?_) (AllReadyH.nil)
            refine step_allocR rfl 23 rfl (.agg (dcs zeroPc).toArray) zero_dp (fun v W => ∃ g, v = .pointer (some ⟨g, 0, none⟩) ∧ (HdD W g (dcs zeroPc) ∧ W1.heap.size ≤ g) ∧ Below W1.heap.size W1 W) ⟨_, rfl, ⟨hd_new _ _ _, HB.out.size⟩, HB.out.alloc HB.out.size _⟩ ?_
            rintro _ W6 ⟨gp, rfl, ht, hb6⟩
            have HP := Lib.hid ht
            have HB := Lib.hid hb6
            clear ht hb6
            refine hK.out _ _ trivial (fun hS => ?_)
            clear hK K
            try simp only [List.getElem_toArray, List.getElem_cons_succ, List.getElem_cons_zero, Act.put, List.setIfInBounds_toArray, List.set_cons_zero, List.set_cons_succ]
            refine wpAnyH_ready (rs := [21]) (by kernel_rfl) (by simp) ?_
            refine AllReadyH.cons rfl (fun K hK => ?_) (AllReadyH.nil)
            refine step_storeH rfl 23 _ _ rfl gp 0 #[.int .i64 (b1 : Int), .int .i64 (u1 : Int), .int .i64 (u2 : Int), .int .i64 (b10 : Int), .int .i64 (b11 : Int), .string TD] rfl rfl ?_ size_dp (one6 _ _ _ _ _ _) ?_
            · exact HP.out.1.th
            intro W8 HW8
            refine hK.out _ _ trivial (fun hS => ?_)
            clear hK K
            try simp only [List.getElem_toArray, List.getElem_cons_succ, List.getElem_cons_zero, Act.put, List.setIfInBounds_toArray, List.set_cons_zero, List.set_cons_succ]
            refine wpAnyH_done (by kernel_rfl) ?_ _
            go_wp2_with fail
            go_meet
            exact ⟨gp, rfl, by rw [HW8.out]; exact HP.out.1.all rfl, by rw [HW8.out]; exact below_setCells HB.out HP.out.2 _ _, HP.out.2⟩
          refine AllReadyH.cons rfl (fun K hK => ?_) (AllReadyH.nil)
          refine step_allocR rfl 23 rfl (.agg (dcs zeroPc).toArray) zero_dp (fun v W => ∃ g, v = .pointer (some ⟨g, 0, none⟩) ∧ (HdD W g (dcs zeroPc) ∧ W1.heap.size ≤ g) ∧ Below W1.heap.size W1 W) ⟨_, rfl, ⟨hd_new _ _ _, HB.out.size⟩, HB.out.alloc HB.out.size _⟩ ?_
          rintro _ W6 ⟨gp, rfl, ht, hb6⟩
          have HP := Lib.hid ht
          have HB := Lib.hid hb6
          clear ht hb6
          refine hK.out _ _ trivial (fun hS => ?_)
          clear hK K
          try simp only [List.getElem_toArray, List.getElem_cons_succ, List.getElem_cons_zero, Act.put, List.setIfInBounds_toArray, List.set_cons_zero, List.set_cons_succ]
          refine wpAnyH_ready (rs := [8]) (by kernel_rfl) (by simp) ?_
          refine AllReadyH.cons rfl (fun K hK => ?_) (AllReadyH.nil)
          go_simp
          with_reducible refine (HN2.out _).mono ?_
          rintro e W6 ⟨rfl, hb6⟩
          have HB6 := Lib.hid hb6
          have HP := Lib.hid (And.intro (HP.out.1.keep (HP.out.1.lt (by decide)) HB6.out) HP.out.2)
          have HB := Lib.hid (HB.out.trans (HB6.out.mono HB.out.size))
          clear hb6 HB6
          refine hK.out _ _ trivial (fun hS => ?_)
          clear hK K
          try simp only [List.getElem_toArray, List.getElem_cons_succ, List.getElem_cons_zero, Act.put, List.setIfInBounds_toArray, List.set_cons_zero, List.set_cons_succ]
          refine wpAnyH_take (i := 19) (v := .agg #[.int .i64 (b1 : Int), .int .i64 (u1 : Int), .int .i64 (u2 : Int), .int .i64 (b10 : Int), .int .i64 (b11 : Int), .string TD]) rfl (by kernel_rfl) (by kernel_rfl) (by kernel_rfl) (fun _ _ _ h => h) (Or.inl ⟨by rfl, ?_⟩) hS ?_
          · intro w hSw
            go_simp
          try simp only [List.getElem_toArray, List.getElem_cons_succ, List.getElem_cons_zero, Act.put, List.setIfInBounds_toArray, List.set_cons_zero, List.set_cons_succ]
          refine wpAnyH_ready (rs := [21]) (by kernel_rfl) (by simp) ?_
          refine AllReadyH.cons rfl (fun K hK => ?_) (AllReadyH.nil)
          refine step_storeH rfl 23 _ _ rfl gp 0 #[.int .i64 (b1 : Int), .int .i64 (u1 : Int), .int .i64 (u2 : Int), .int .i64 (b10 : Int), .int .i64 (b11 : Int), .string TD] rfl rfl ?_ size_dp (one6 _ _ _ _ _ _) ?_
          · exact HP.out.1.th
          intro W8 HW8
          refine hK.out _ _ trivial (fun hS => ?_)
          clear hK K
          try simp only [List.getElem_toArray, List.getElem_cons_succ, List.getElem_cons_zero, Act.put, List.setIfInBounds_toArray, List.set_cons_zero, List.set_cons_succ]
          refine wpAnyH_done (by kernel_rfl) ?_ _
          go_wp2_with fail
          go_meet
          exact ⟨gp, rfl, by rw [HW8.out]; exact HP.out.1.all rfl, by rw [HW8.out]; exact below_setCells HB.out HP.out.2 _ _, HP.out.2⟩
        refine AllReadyH.cons rfl (fun K hK => ?_) (AllReadyH.nil)
        refine step_allocR rfl 23 rfl (.agg (dcs zeroPc).toArray) zero_dp (fun v W => ∃ g, v = .pointer (some ⟨g, 0, none⟩) ∧ (HdD W g (dcs zeroPc) ∧ W1.heap.size ≤ g) ∧ Below W1.heap.size W1 W) ⟨_, rfl, ⟨hd_new _ _ _, HB.out.size⟩, HB.out.alloc HB.out.size _⟩ ?_
        rintro _ W6 ⟨gp, rfl, ht, hb6⟩
        have HP := Lib.hid ht
        have HB := Lib.hid hb6
        clear ht hb6
        refine hK.out _ _ trivial (fun hS => ?_)
        clear hK K
        try simp only [List.getElem_toArray, List.getElem_cons_succ, List.getElem_cons_zero, Act.put, List.setIfInBounds_toArray, List.set_cons_zero, List.set_cons_succ]
        refine wpAnyH_ready (rs := [5]) (by kernel_rfl) (by simp) ?_
        refine AllReadyH.cons rfl (fun K hK => ?_) (AllReadyH.nil)
        go_simp
        with_reducible refine (HN1.out _).mono ?_
        rintro e W6 ⟨rfl, hb6⟩
        have HB6 := Lib.hid hb6
        have HP := Lib.hid (And.intro (HP.out.1.keep (HP.out.1.lt (by decide)) HB6.out) HP.out.2)
        have HB := Lib.hid (HB.out.trans (HB6.out.mono HB.out.size))
        clear hb6 HB6
        refine hK.out _ _ trivial (fun hS => ?_)
        clear hK K
        try simp only [List.getElem_toArray, List.getElem_cons_succ, List.getElem_cons_zero, Act.put, List.setIfInBounds_toArray, List.set_cons_zero, List.set_cons_succ]
        refine wpAnyH_ready (rs := [8]) (by kernel_rfl) (by simp) ?_
        refine AllReadyH.cons rfl (fun K hK => ?_) (AllReadyH.nil)
        go_simp
        with_reducible refine (HN2.out _).mono ?_
        rintro e W6 ⟨rfl, hb6⟩
        have HB6 := Lib.hid hb6
        have HP := Lib.hid (And.intro (HP.out.1.keep (HP.out.1.lt (by decide)) HB6.out) HP.out.2)
        have HB := Lib.hid (HB.out.trans (HB6.out.mono HB.out.size))
        clear hb6 HB6
        refine hK.out _ _ trivial (fun hS => ?_)
        clear hK K
        try simp only [List.getElem_toArray, List.getElem_cons_succ, List.getElem_cons_zero, Act.put, List.setIfInBounds_toArray, List.set_cons_zero, List.set_cons_succ]
        refine wpAnyH_take (i := 19) (v := .agg #[.int .i64 (b1 : Int), .int .i64 (u1 : Int), .int .i64 (u2 : Int), .int .i64 (b10 : Int), .int .i64 (b11 : Int), .string TD]) rfl (by kernel_rfl) (by kernel_rfl) (by kernel_rfl) (fun _ _ _ h => h) (Or.inl ⟨by rfl, ?_⟩) hS ?_
        · intro w hSw
          go_simp
        try simp only [List.getElem_toArray, List.getElem_cons_succ, List.getElem_cons_zero, Act.put, List.setIfInBounds_toArray, List.set_cons_zero, List.set_cons_succ]
        refine wpAnyH_ready (rs := [21]) (by kernel_rfl) (by simp) ?_
        refine AllReadyH.cons rfl (fun K hK => ?_) (AllReadyH.nil)
        refine step_storeH rfl 23 _ _ rfl gp 0 #[.int .i64 (b1 : Int), .int .i64 (u1 : Int), .int .i64 (u2 : Int), .int .i64 (b10 : Int), .int .i64 (b11 : Int), .string TD] rfl rfl ?_ size_dp (one6 _ _ _ _ _ _) ?_
        · exact HP.out.1.th
        intro W8 HW8
        refine hK.out _ _ trivial (fun hS => ?_)
        clear hK K
        try simp only [List.getElem_toArray, List.getElem_cons_succ, List.getElem_cons_zero, Act.put, List.setIfInBounds_toArray, List.set_cons_zero, List.set_cons_succ]
        refine wpAnyH_done (by kernel_rfl) ?_ _
        go_wp2_with fail
        go_meet
        exact ⟨gp, rfl, by rw [HW8.out]; exact HP.out.1.all rfl, by rw [HW8.out]; exact below_setCells HB.out HP.out.2 _ _, HP.out.2⟩
      case rest =>
        obtain ⟨gp, rfl, hp, hbx, hgp⟩ := hcut
        have hf : Pc.Fit ⟨b1, u1, u2, b10, b11, cutL x 21 (21 + n)⟩ := by
          have := HBD.out
          have := HLu.out
          refine ⟨⟨?_, ?_⟩, ⟨?_, ?_⟩, ⟨?_, ?_⟩, ⟨?_, ?_⟩, ⟨?_, ?_⟩, ?_⟩ <;> simp only <;> try omega
          rw [cutL_len x (by rw [HX.out.1]; omega)]
          omega
        have hCk := fun W => refrcheck_any ⟨b1, u1, u2, b10, b11, cutL x 21 (21 + n)⟩ W hf
        rw [← HRP.out] at hCk
        unfold eV Pc.dv at hCk
        have hdv : (readP x).dv = .agg #[.int .i64 (b1 : Int), .int .i64 (u1 : Int), .int .i64 (u2 : Int), .int .i64 (b10 : Int), .int .i64 (b11 : Int), .string TD] := by rw [HRP.out, ← HTD.out.2]; rfl
        unfold Pc.dv at hdv
        rw [hdv] at hCk
        obtain ⟨ec, hec⟩ : ∃ z, eC (readP x) = z := ⟨_, rfl⟩
        obtain ⟨es, hes⟩ : ∃ z, eP (readP x) = z := ⟨_, rfl⟩
        rw [hec, hes] at hCk
        have HCk := Lib.hid hCk
        have HDv := Lib.hid hdv
        have HEc := Lib.hid hec
        have HPx := Lib.hid (And.intro hp hgp)
        have HWx := Lib.hid (HW.out.trans (hbx.mono HW.out.size))
        have HHx := Lib.hid (HH.out.keep (HH.out.lt (by decide)) hbx)
        have hgl := Lib.hid (HH.out.lt (by decide))
        have q0 := hp.cell 0 _ rfl
        have q1 := hp.cell 1 _ rfl
        have q2 := hp.cell 2 _ rfl
        have q3 := hp.cell 3 _ rfl
        have q4 := hp.cell 4 _ rfl
        have q5 := hp.cell 5 _ rfl
        have hfe := field_E1
        clear hp hbx hgp hf hCk hdv hec hes
        by_cases c6 : ec = 0
        rotate_left
        · have d7 : (ec != 0) = true := by rw [bne_iff_ne]; exact c6
          have d8 : (ec == 0) = false := by rw [beq_eq_false_iff_ne]; exact c6
          have HC := Lib.hid (show readC x = 1 by
            rw [readC, if_neg (by rw [HX.out.1]; simp), if_neg (fun h => h HC2.out), if_neg (fun h => h HC3.out), if_neg (by rw [HX.out.2.1]; exact HC4.out), if_neg (by rw [HX.out.2.1, HZ.out]; simp), if_pos]
            intro h
            have h2 := HEc.out
            rw [eC, if_pos h] at h2
            exact c6 h2.symm)
          clear c6
          go_wp2_with (first
            | (go_at_call 10; go_must (with_reducible refine (HCk.out _).mono ?_; rintro e W6 ⟨rfl, hb6⟩; have HH := Lib.hid (HHx.out.keep (HHx.out.lt (by decide)) hb6); have HW6 := Lib.hid (HWx.out.trans (hb6.mono HWx.out.size)); clear hb6))
            | ((with_reducible refine at_store 23 ?_); go_must (refine wpList_storeH rfl 23 _ _ rfl w.heap.size 0 (dcs zeroPc).toArray ?c1 rfl (HH.out.th) size_dp (dcs_one _) ?_; (case c1 => first | rfl | (simp [Act.eval]; done)); intro W9 HW9)))
          have h9 : HdD W9 w.heap.size (dcs zeroPc) := by rw [HW9.out]; exact HH.out.all rfl
          refine ret_P zeroPc w.heap.size rfl rfl h9 rfl (rr_no HC.out (by decide) ?_)
          rw [HW9.out]
          exact below_setCells HW6.out (Nat.le_refl _) _ _
        subst c6
        have HC := Lib.hid (show readC x = 0 by
          rw [readC, if_neg (by rw [HX.out.1]; simp), if_neg (fun h => h HC2.out), if_neg (fun h => h HC3.out), if_neg (by rw [HX.out.2.1]; exact HC4.out), if_neg (by rw [HX.out.2.1, HZ.out]; simp), if_neg]
          intro h
          have h2 := HEc.out
          rw [eC, if_neg h] at h2
          cases h2)
        go_upto_region 18 with (first
          | (go_at_call 10; go_must (with_reducible refine (HCk.out _).mono ?_; rintro e W6 ⟨rfl, hb6⟩; have HH6 := Lib.hid (HHx.out.keep (HHx.out.lt (by decide)) hb6); have HP6 := Lib.hid (HPx.out.1.keep (HPx.out.1.lt (by simp)) hb6); have HW6 := Lib.hid (HWx.out.trans (hb6.mono HWx.out.size)); clear hb6 q0 q1 q2 q3 q4 q5)))
        refine wp_region_held_drew (S := fun V => V.cell? ⟨gp, 0, none⟩ = some (.int .i64 (b1 : Int)) ∧ V.cell? ⟨gp, 1, none⟩ = some (.int .i64 (u1 : Int)) ∧ V.cell? ⟨gp, 2, none⟩ = some (.int .i64 (u2 : Int)) ∧ V.cell? ⟨gp, 3, none⟩ = some (.int .i64 (b10 : Int)) ∧ V.cell? ⟨gp, 4, none⟩ = some (.int .i64 (b11 : Int)) ∧ V.cell? ⟨gp, 5, none⟩ = some (.string TD)) (by kernel_rfl) ⟨HP6.out.cell 0 _ rfl, HP6.out.cell 1 _ rfl, HP6.out.cell 2 _ rfl, HP6.out.cell 3 _ rfl, HP6.out.cell 4 _ rfl, HP6.out.cell 5 _ rfl⟩ (fun hS => ?_)
        refine wpAnyH_take (i := 0) (v := .agg #[.int .i64 (b1 : Int), .int .i64 (u1 : Int), .int .i64 (u2 : Int), .int .i64 (b10 : Int), .int .i64 (b11 : Int), .string TD]) rfl (by kernel_rfl) (by kernel_rfl) (by kernel_rfl) (fun _ _ _ h => h) (Or.inl ⟨by rfl, ?_⟩) hS ?_
        · intro w hSw
          obtain ⟨x0, x1, x2, x3, x4, x5⟩ := hSw
          go_simp
        try simp only [List.getElem_toArray, List.getElem_cons_succ, List.getElem_cons_zero, Act.put, List.setIfInBounds_toArray, List.set_cons_zero, List.set_cons_succ]
        refine wpAnyH_take (i := 1) (v := .string S) rfl (by kernel_rfl) (by kernel_rfl) (by kernel_rfl) (fun _ _ _ h => h) (Or.inl ⟨by rfl, ?_⟩) hS ?_
        · intro w hSw
          obtain ⟨x0, x1, x2, x3, x4, x5⟩ := hSw
          go_simp
        try simp only [List.getElem_toArray, List.getElem_cons_succ, List.getElem_cons_zero, Act.put, List.setIfInBounds_toArray, List.set_cons_zero, List.set_cons_succ]
        refine wpAnyH_take (i := 2) (v := .int .u8 (b0 : Int)) rfl (by kernel_rfl) (by kernel_rfl) (by kernel_rfl) (fun _ _ _ h => h) (Or.inl ⟨by rfl, ?_⟩) hS ?_
        · intro w hSw
          obtain ⟨x0, x1, x2, x3, x4, x5⟩ := hSw
          go_simp
        try simp only [List.getElem_toArray, List.getElem_cons_succ, List.getElem_cons_zero, Act.put, List.setIfInBounds_toArray, List.set_cons_zero, List.set_cons_succ]
        refine wpAnyH_ready (rs := [3]) (by kernel_rfl) (by simp) ?_
        refine AllReadyH.cons rfl (fun K hK => ?_) (AllReadyH.nil)
        refine step_storeH rfl 23 _ _ rfl w.heap.size 0 #[.int .i64 (b1 : Int), .int .i64 (u1 : Int), .int .i64 (u2 : Int), .int .i64 (b10 : Int), .int .i64 (b11 : Int), .string TD] rfl rfl HH6.out.th size_dp (one6 _ _ _ _ _ _) ?_
        intro W8 HW8
        have h8 : HdD W8 gp [.int .i64 (b1 : Int), .int .i64 (u1 : Int), .int .i64 (u2 : Int), .int .i64 (b10 : Int), .int .i64 (b11 : Int), .string TD] := by
          rw [HW8.out]
          exact HdD.same (w := W6) HP6.out (heap_setCells _ _ _ _ _ (by have := HPx.out.2; have := hgl.out; omega))
        refine hK.out _ _ ⟨h8.cell 0 _ rfl, h8.cell 1 _ rfl, h8.cell 2 _ rfl, h8.cell 3 _ rfl, h8.cell 4 _ rfl, h8.cell 5 _ rfl⟩ (fun hS => ?_)
        clear hK K
        try simp only [List.getElem_toArray, List.getElem_cons_succ, List.getElem_cons_zero, Act.put, List.setIfInBounds_toArray, List.set_cons_zero, List.set_cons_succ]
        refine wpAnyH_take (i := 4) (v := .int .u8 (b0 : Int)) rfl (by kernel_rfl) (by kernel_rfl) (by kernel_rfl) (fun _ _ _ h => h) (Or.inl ⟨by rfl, ?_⟩) hS ?_
        · intro w hSw
          obtain ⟨x0, x1, x2, x3, x4, x5⟩ := hSw
          go_simp
        try simp only [List.getElem_toArray, List.getElem_cons_succ, List.getElem_cons_zero, Act.put, List.setIfInBounds_toArray, List.set_cons_zero, List.set_cons_succ]
        refine wpAnyH_take (i := 5) (v := .int .i64 0) rfl (by kernel_rfl) (by kernel_rfl) (by kernel_rfl) (fun _ _ _ h => h) (Or.inl ⟨by rfl, ?_⟩) hS ?_
        · intro w hSw
          obtain ⟨x0, x1, x2, x3, x4, x5⟩ := hSw
          go_simp
        try simp only [List.getElem_toArray, List.getElem_cons_succ, List.getElem_cons_zero, Act.put, List.setIfInBounds_toArray, List.set_cons_zero, List.set_cons_succ]
        refine wpAnyH_done (by kernel_rfl) ?_ _
        go_wp2_with fail
        have h9 : HdD W8 w.heap.size (dcs (readP x)) := by
          have h : HdD W8 w.heap.size [.int .i64 (b1 : Int), .int .i64 (u1 : Int), .int .i64 (u2 : Int), .int .i64 (b10 : Int), .int .i64 (b11 : Int), .string TD] := by
            rw [HW8.out]
            exact HdD.all (w := W6.drew) (show HdD W6.drew w.heap.size (dcs zeroPc) from HH6.out) rfl
          have e : dcs (readP x) = [.int .i64 (b1 : Int), .int .i64 (u1 : Int), .int .i64 (u2 : Int), .int .i64 (b10 : Int), .int .i64 (b11 : Int), .string TD] := by rw [HRP.out, ← HTD.out.2]; rfl
          rw [e]
          exact h
        refine ret_P (readP x) w.heap.size rfl rfl h9 rfl ⟨?_, ?_⟩
        · rw [readA, readM, HC.out, if_pos rfl, if_pos rfl, HB0.out]
          rfl
        · rw [HW8.out]
          exact below_setCells HW6.out.drew (Nat.le_refl _) _ _
theorem rr_any (x : List UInt8) (hx : x.length ≤ 1000) (w : World) : Calls Tryd.prog 18 #[.string ⟨x.toArray⟩] w (RRAns w x) := by
  by_cases h : x.length = 64
  · exact rr_main x h w
  · exact rr_len x h w
end Go.Proofs.YthkcimojemofgaaDoor
