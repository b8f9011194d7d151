/-
  The program's small functions on a block's bytes: lay, laid, noughts, walked.
-/
import Derived.Test.YtmejpjknofbffaaDoorProg
import Derived.Test.YtmejpjknofbffaaDoorRe0
import Derived.Test.YtmejpjknofbffaaDoorOnlyL
import Derived.WalkKit
import Derived.Lib.Hide
import Derived.Below
import Derived.IntWalk
import Derived.Deep.LoopGhost
import Derived.Laws.BitsAllLaws
import Derived.Deep.MidRow
import Derived.KernelRfl
namespace Go.Proofs.YtmejpjknofbffaaDoor
open Go.RowKit Go.Lib
set_option linter.unusedVariables false
set_option linter.unusedSimpArgs false

/-- A row of bytes of the call's own, whole. -/
def Rb (w : World) (g : Nat) (L : List UInt8) : Prop := w.heap[g]? = some (.cells (bcs L).toArray 5 (0, 0))
theorem Rb.cell {w : World} {g : Nat} {L : List UInt8} (h : Rb w g L) (i : Nat) (hi : i < L.length) : w.cell? ⟨g, i, none⟩ = some (.int .u8 (L[i].toNat : Int)) := by
  have h' : w.heap[g]? = some (.cells (bcs L).toArray 5 (0, 0)) := h
  simp [World.cell?, h', bcs_get, List.getElem?_eq_getElem hi]
theorem Rb.free {w : World} {g : Nat} {L : List UInt8} (h : Rb w g L) (i : Nat) : w.frozen? ⟨g, i, none⟩ = false := by
  have h' : w.heap[g]? = some (.cells (bcs L).toArray 5 (0, 0)) := h
  simp [World.frozen?, h']
theorem Rb.lt {w : World} {g : Nat} {L : List UInt8} (h : Rb w g L) : g < w.heap.size := (Array.getElem?_eq_some_iff.1 h).1
theorem Rb.put {w : World} {g : Nat} {L : List UInt8} (h : Rb w g L) (i : Nat) (c : UInt8) : Rb (w.setCell ⟨g, i, none⟩ (.int .u8 (c.toNat : Int))) g (L.set i c) := by
  have h' : w.heap[g]? = some (.cells (bcs L).toArray 5 (0, 0)) := h
  unfold Rb
  simp [World.setCell, Array.getElem?_modify, h', bcs, List.map_set]
theorem Rb.below {w w' : World} {g : Nat} {L : List UInt8} (h : Rb w g L) (hb : Below w.heap.size w w') : Rb w' g L := (hb.block g h.lt).trans h
theorem set_mid (L R : List UInt8) (p : Nat) (c : UInt8) (hp : p < L.length) : (L.take (p + 1) ++ R).set p c = L.take p ++ c :: R := by
  rw [List.take_succ_eq_append_getElem hp, List.append_assoc, List.set_append_right _ _ (by simp; omega)]
  simp [Nat.min_eq_left (Nat.le_of_lt hp)]
theorem Rb.there {w : World} {g : Nat} {L : List UInt8} (h : Rb w g L) {q n : Nat} (hn : q + n ≤ L.length) : w.there g q n := fun j hj => ⟨by rw [h.cell (q + j) (by omega)]; rfl, h.free _⟩
theorem Rb.puts {g : Nat} : ∀ (x : List UInt8) {w : World} {L : List UInt8} (q : Nat), Rb w g L → q + x.length ≤ L.length → Rb (w.setCells g q (bcs x)) g (L.take q ++ x ++ L.drop (q + x.length))
  | [], w, L, q, h, _ => by simpa [bcs, World.setCells] using h
  | c :: r, w, L, q, h, hl => by
    simp only [List.length_cons] at hl
    have h1 := Rb.puts r (q + 1) (h.put q c) (by simp; omega)
    have e2 := set_mid L [] q c (by omega)
    rw [List.append_nil] at e2
    rw [List.take_set, e2, List.drop_set_of_lt (by omega), show q + 1 + r.length = q + (r.length + 1) by omega, List.append_assoc] at h1
    simpa [bcs, World.setCells] using h1
def LayRel (w : World) (g q k n : Nat) (L : List UInt8) (kk : Nat) (u i : Value) (wr : World) : Prop :=
  ∃ j : Nat, j + kk = k ∧ i = .int .i64 j ∧ u = .int .u64 (n / 256 ^ j : Nat) ∧ Rb wr g (L.take (q + (k - j)) ++ be j n ++ L.drop (q + k)) ∧ Only g w wr
set_option maxHeartbeats 2000000 in
set_option maxRecDepth 100000 in
theorem lay_any (w : World) (g q k n cp : Nat) (L : List UInt8) (hn : n < 18446744073709551616) (h : Rb w g L) (hq : q + k ≤ L.length) (hL : L.length ≤ 1000) :
    Calls Tryd.prog 17 #[.slice (some ⟨g, q, none⟩) k cp, .int .u64 n] w fun e w' => e = .returned (.tuple #[]) ∧ Rb w' g (layL L q k n) ∧ Only g w w' := by
  go_enter Tryd.func17, Tryd.ntmps17
  go_wp2_with fail
  go_loopg [1, 7] k (LayRel w g q k n L)
  case atStart => exact ⟨0, by simp, rfl, by simp, by simpa [be] using h, Only.refl g w⟩
  case round =>
    obtain ⟨j, hk, rfl, rfl, hr, ho⟩ := hrel
    by_cases hlt : j < k
    · obtain ⟨u, hu⟩ : ∃ u, n / 256 ^ j = u := ⟨_, rfl⟩
      have hu64 : u < 18446744073709551616 := by rw [← hu]; exact Nat.lt_of_le_of_lt (Nat.div_le_self _ _) hn
      have hhead := be_head j n
      rw [hu] at hhead ⊢
      have hput := hr.put (q + (k - (j + 1))) (UInt8.ofNat (u % 256))
      have hset : (L.take (q + (k - j)) ++ be j n ++ L.drop (q + k)).set (q + (k - (j + 1))) (UInt8.ofNat (u % 256)) = L.take (q + (k - (j + 1))) ++ be (j + 1) n ++ L.drop (q + k) := by
        rw [show q + (k - j) = q + (k - (j + 1)) + 1 by omega, List.append_assoc, set_mid _ _ _ _ (by omega), hhead]
        simp
      rw [hset, UInt8.toNat_ofNat', Nat.mod_mod] at hput
      have hfr := hr.free (q + (k - (j + 1)))
      have hc := hr.cell (q + (k - (j + 1))) (by simp [be_len]; omega)
      obtain ⟨oc, hoc⟩ : ∃ v, wr.cell? ⟨g, q + (k - (j + 1)), none⟩ = some v := ⟨_, hc⟩
      clear hc
      have e1 : ((k : Int) - 1 - (j : Int)) = ((k - (j + 1) : Nat) : Int) := by omega
      obtain ⟨z, hz⟩ : ∃ z : Int, (u : Int) = z := ⟨_, rfl⟩
      obtain ⟨y, hy⟩ : ∃ y : Int, ((u % 256 : Nat) : Int) = y := ⟨_, rfl⟩
      rw [hy] at hput
      rw [hz]
      have e2 : z % 256 = y := by omega
      have d1 : decide ((j : Int) < (k : Int)) = true := decide_eq_true (by omega)
      have HX := Lib.hid (And.intro hput (And.intro ho (And.intro hk (And.intro hu hz))))
      obtain ⟨p, hp⟩ : ∃ p, k - (j + 1) = p := ⟨_, rfl⟩
      have hpk : p < k := by omega
      rw [hp] at e1 hfr hoc
      have HP := Lib.hid hp
      clear hhead hput hset hr ho hk hu hu64 hy hz hn h hp
      go_wp2_with fail
      go_roundg (k - (j + 1))
      case rel =>
        obtain ⟨hput, ho, hk, hu, hz⟩ := HX.out
        rw [HP.out] at hput
        refine ⟨j + 1, by omega, by go_num, ?_, by rw [HP.out]; exact hput, ho.put _ _⟩
        rw [Nat.pow_succ, ← Nat.div_div_eq_div_mul, hu]
        exact congrArg (Value.int .u64) (by omega)
      case measure => have := HX.out.2.2.1; omega
    · obtain rfl : j = k := by omega
      have HX := Lib.hid (And.intro hr ho)
      go_wp2_with fail
      first | go_end0 | refine bodyPost_ret (results_none rfl _ _ _) rfl ?_
      obtain ⟨hr, ho⟩ := HX.out
      rw [Nat.sub_self, Nat.add_zero] at hr
      exact ⟨rfl, hr, ho⟩
theorem un_step (x : List UInt8) (j : Nat) (h : j < x.length) : un (x.take (j + 1)) = un (x.take j) * 256 + x[j].toNat := by
  rw [List.take_succ_eq_append_getElem h, un_snoc]
theorem Bt.at {w : World} {g q : Nat} {x : List UInt8} (h : Bt w (some ⟨g, q, none⟩) x) (j : Nat) (hj : j < x.length) : w.cell? ⟨g, q + j, none⟩ = some (.int .u8 (x[j].toNat : Int)) := by
  obtain ⟨ad, e, h1⟩ := h (by omega)
  cases e
  have := h1 j _ (by rw [bcs_get, List.getElem?_eq_getElem hj]; rfl)
  rwa [Addr.add_mid] at this
theorem Rb.bt {w : World} {g : Nat} {L : List UInt8} (h : Rb w g L) : Bt w (some ⟨g, 0, none⟩) L := fun h0 => ⟨_, rfl, fun j v hv => by
  rw [bcs_get] at hv
  obtain ⟨c, hc, rfl⟩ := Option.map_eq_some_iff.1 hv
  obtain ⟨hj, rfl⟩ := List.getElem?_eq_some_iff.1 hc
  rw [Addr.add_mid, Nat.zero_add]
  exact h.cell j hj⟩
def LdRel (w : World) (x : List UInt8) (kk : Nat) (u i : Value) (wr : World) : Prop :=
  ∃ j : Nat, j + kk = x.length ∧ i = .int .i64 j ∧ u = .int .u64 (un (x.take j) : Nat) ∧ w = wr
theorem or_join (n c : Nat) (hn : n < 72057594037927936) (hc : c < 256) : bits BinOp.or IntKind.u64 ((n * 256 : Nat) : Int) (c : Int) = ((n * 256 + c : Nat) : Int) := by
  rw [u64_or_nat _ _ (by omega) (by omega), nat_join 8 (n * 256) c (by omega) (by simpa using hc)]
set_option maxHeartbeats 2000000 in
set_option maxRecDepth 100000 in
theorem laid_any (w : World) (g q cp : Nat) (x : List UInt8) (hx : x.length ≤ 8) (h : Bt w (some ⟨g, q, none⟩) x) :
    Calls Tryd.prog 21 #[.slice (some ⟨g, q, none⟩) x.length cp] w fun e w' => e = .returned (.int .u64 (un x : Nat)) ∧ w = w' := by
  have HA := Lib.hid (fun j hj => h.at j hj)
  have HS := Lib.hid (fun j hj => un_step x j hj)
  have HL := Lib.hid (fun j => un_lt (x.take j))
  obtain ⟨n, hn⟩ : ∃ n, x.length = n := ⟨_, rfl⟩
  have hn8 : n ≤ 8 := by omega
  have HN := Lib.hid hn
  rw [hn]
  clear h hx
  go_enter Tryd.func21, Tryd.ntmps21
  go_wp2_with fail
  go_loopg [3, 8] n (LdRel w x)
  case atStart => exact ⟨0, by omega, rfl, by simp [un], rfl⟩
  case round =>
    obtain ⟨j, hk, rfl, rfl, rfl⟩ := hrel
    by_cases hlt : j < n
    · have hc := HA.out j (by omega)
      have hs := HS.out j (by omega)
      have hl := HL.out j
      rw [List.length_take, Nat.min_eq_left (by omega)] at hl
      have hl' : un (x.take j) < 72057594037927936 := Nat.lt_of_lt_of_le hl (Nat.le_trans (Nat.pow_le_pow_right (by decide) (by omega : j ≤ 7)) (by decide))
      have hcl := x[j].toNat_lt
      obtain ⟨u, hu⟩ : ∃ u, un (x.take j) = u := ⟨_, rfl⟩
      obtain ⟨c, hcc⟩ : ∃ c, x[j].toNat = c := ⟨_, rfl⟩
      rw [hcc] at hc hs hcl
      rw [hu] at hs hl' ⊢
      have ho := or_join u c hl' hcl
      obtain ⟨z, hz⟩ : ∃ z : Int, (u : Int) = z := ⟨_, rfl⟩
      obtain ⟨y, hy⟩ : ∃ y : Int, (c : Int) = y := ⟨_, rfl⟩
      have e1 : IntKind.u64.wrap (z * 256) = z * 256 := by rw [IntKind.wrap_u64]; omega
      have e2 : IntKind.u64.wrap y = y := by rw [IntKind.wrap_u64]; omega
      rw [show ((u * 256 : Nat) : Int) = z * 256 by omega, show ((u * 256 + c : Nat) : Int) = z * 256 + y by omega, hy] at ho
      rw [hy] at hc
      rw [hz]
      have d1 : decide ((j : Int) < (n : Int)) = true := decide_eq_true (by omega)
      have HX := Lib.hid (And.intro hs (And.intro hk (And.intro hz hy)))
      clear hs hk hz hy hl hl' hcl hcc hu hn
      go_wp2_with fail
      go_roundg (n - (j + 1))
      case rel =>
        obtain ⟨hs, hk, hz, hy⟩ := HX.out
        exact ⟨j + 1, by have := HN.out; omega, by go_num, by rw [hs]; exact congrArg (Value.int .u64) (by omega), rfl⟩
      case measure => have := HX.out.2.1; have := HN.out; omega
    · obtain rfl : j = n := by omega
      have e : x.take j = x := List.take_of_length_le (by omega)
      rw [e]
      go_wp2_with fail
      go_ret
      exact ⟨rfl, rfl⟩
def NoughtRel (w : World) (x : List UInt8) (kk : Nat) (i : Value) (wr : World) : Prop :=
  ∃ j : Nat, j + kk = x.length ∧ i = .int .i64 j ∧ (∀ c ∈ x.take j, c = 0) ∧ w = wr
def allZ (x : List UInt8) : Bool := x.all (· == 0)
set_option maxHeartbeats 2000000 in
set_option maxRecDepth 100000 in
theorem noughts_any (w : World) (A : Option Addr) (cp : Nat) (x : List UInt8) (hx : x.length ≤ 100) (h : ∀ j (hj : j < x.length), ∃ g q, A = some ⟨g, q, none⟩ ∧ w.cell? ⟨g, q + j, none⟩ = some (.int .u8 (x[j].toNat : Int))) :
    Calls Tryd.prog 22 #[.slice A x.length cp] w fun e w' => e = .returned (.bool (allZ x)) ∧ w = w' := by
  have HA := Lib.hid h
  obtain ⟨n, hn⟩ : ∃ n, x.length = n := ⟨_, rfl⟩
  have hn8 : n ≤ 100 := by omega
  have HN := Lib.hid hn
  rw [hn]
  clear h hx
  go_enter Tryd.func22, Tryd.ntmps22
  go_wp2_with fail
  go_loopg [7] n (NoughtRel w x)
  case atStart => exact ⟨0, by omega, rfl, by simp, rfl⟩
  case round =>
    obtain ⟨j, hk, rfl, hall, rfl⟩ := hrel
    by_cases hlt : j < n
    · obtain ⟨g, q, rfl, hc⟩ := HA.out j (by omega)
      have htk : x.take (j + 1) = x.take j ++ [x[j]] := List.take_succ_eq_append_getElem (by omega)
      obtain ⟨c, hcc⟩ : ∃ c, x[j] = c := ⟨_, rfl⟩
      have hmem : c ∈ x := by rw [← hcc]; exact List.getElem_mem _
      rw [hcc] at hc htk
      have d1 : decide ((j : Int) < (n : Int)) = true := decide_eq_true (by omega)
      have HX := Lib.hid (And.intro hall (And.intro hk (And.intro htk hmem)))
      by_cases h0 : c = 0
      · have hz : ((c.toNat : Nat) : Int) = 0 := by rw [h0]; rfl
        rw [hz] at hc
        have H0 := Lib.hid h0
        clear hall hk htk hn hcc hmem h0 hz
        go_wp2_with fail
        go_roundg (n - (j + 1))
        case rel =>
          obtain ⟨hall, hk, htk, hmem⟩ := HX.out
          refine ⟨j + 1, by have := HN.out; omega, by go_num, ?_, rfl⟩
          rw [htk]
          intro d hd
          rcases List.mem_append.1 hd with hd | hd
          · exact hall d hd
          · rw [List.mem_singleton] at hd
            rw [hd]
            exact H0.out
        case measure => have := HX.out.2.1; have := HN.out; omega
      · have hz : ¬ ((c.toNat : Nat) : Int) = 0 := fun e => h0 (by
          have : c.toNat = 0 := by omega
          exact UInt8.toNat_inj.1 (by simpa using this))
        obtain ⟨y, hy⟩ : ∃ y : Int, (c.toNat : Int) = y := ⟨_, rfl⟩
        rw [hy] at hc hz
        have d2 : (y == 0) = false := by simpa using hz
        have hf : allZ x = false := by
          rw [allZ, List.all_eq_false]
          exact ⟨c, hmem, by simpa using h0⟩
        have HF := Lib.hid hf
        clear hall hk htk hn hcc hmem h0 hy hf
        go_wp2_with fail
        go_ret
        exact ⟨by rw [HF.out]; rfl, rfl⟩
    · obtain rfl : j = n := by omega
      have e : x.take j = x := List.take_of_length_le (by omega)
      rw [e] at hall
      have hf : allZ x = true := by
        rw [allZ, List.all_eq_true]
        exact fun c hc => by simpa using hall c hc
      have HF := Lib.hid hf
      clear hf hall e
      go_wp2_with fail
      go_ret
      exact ⟨by rw [HF.out]; rfl, rfl⟩
end Go.Proofs.YtmejpjknofbffaaDoor
