/-
  errors.As on a chain of faults that ends in a code: asked for a code it finds the last; asked for a fault it finds the first, or none.
-/
import Derived.Test.YtmejpjknofbffaaDoorAs
namespace Go.Proofs.YtmejpjknofbffaaDoor
open Go.RowKit Go.Extern.Stop Go.Stop Go.Extern

theorem Chain.held {w : World} {l : List (Int × ByteArray)} {c : Int} {v : Value} (h : Chain w l c v) : ∃ T x, v = .iface T x := by
  cases l with
  | nil => exact ⟨_, _, h⟩
  | cons p r => obtain ⟨n, s⟩ := p; obtain ⟨b, why, rfl, _⟩ := h; exact ⟨_, _, rfl⟩

theorem lt_of_cell {w : World} {a : Addr} {v : Value} (h : w.cell? a = some v) : a.block < w.heap.size := by
  rcases Nat.lt_or_ge a.block w.heap.size with hlt | hge
  · exact hlt
  · simp [World.cell?, Array.getElem?_eq_none hge] at h

theorem unwrap_any (b : Nat) (why : Value) (w : World) (h2 : w.cell? ⟨b, 2, none⟩ = some why) (hh : ∃ T x, why = .iface T x) :
    Calls Tryd.prog 97 #[.pointer (some ⟨b, 0, none⟩)] w fun e w' => e = .returned why ∧ w = w' := by
  obtain ⟨T, x, rfl⟩ := hh
  go_enter Tryd.func97, Tryd.ntmps97
  go_wp2
  go_ret
  exact ⟨rfl, rfl⟩

def CodeRel (w w1 : World) (c : Int) (k : Nat) (e : Value) (wr : World) : Prop := ∃ l : List (Int × ByteArray), l.length = k ∧ Chain w l c e ∧ wr = w1

set_option maxHeartbeats 4000000 in
theorem as_in_code (l : List (Int × ByteArray)) (c : Int) (v : Value) (t a : Addr) (old : Value) (w : World) (hch : Chain w l c v) (ha : w.cell? a = some (.pointer (some t))) (ht : w.cell? t = some old) (hf : w.frozen? t = false) :
    Calls Tryd.prog 31 #[v, .iface 54 (.pointer (some t)), .agg #[.pointer (some ⟨7, 54, none⟩), .pointer (some a), .int .u64 150], .iface 83 (.agg #[.pointer (some ⟨7, 52, none⟩)])] w
      fun e w' => e = .returned (.bool true) ∧ w' = ((w.alloc (.cells #[.pointer (some ⟨7, 54, none⟩), .pointer (some a), .int .u64 150] 70)).alloc (.cells #[.int .i64 c] 52)).setCell t (.int .i64 c) := by
  have h1 := @run_callFunc_extern Tryd.prog 28 _ (fun args => ReflectliteValue.unpack (args.getD 0 (.tuple #[]))) Tryd.func28 (by kernel_rfl) (by kernel_rfl) (by kernel_rfl) (by kernel_rfl)
  have h2 := @run_callFunc_extern Tryd.prog 37 _ ReflectliteType.typeOf Tryd.func37 (by kernel_rfl) (by kernel_rfl) (by kernel_rfl) (by kernel_rfl)
  have h3 := @run_callFunc_extern Tryd.prog 102 _ (ReflectliteType.relation "AssignableTo" ReflectliteType.assignableTo) Tryd.func102 (by kernel_rfl) (by kernel_rfl) (by kernel_rfl) (by kernel_rfl)
  have h4 := @run_callFunc_extern Tryd.prog 38 _ (ReflectliteValue.method (ReflectliteValue.valueError "reflectlite.Value.Elem" 0) ReflectliteValue.elem) Tryd.func38 (by kernel_rfl) (by kernel_rfl) (by kernel_rfl) (by kernel_rfl)
  have h5 := @run_callFunc_extern Tryd.prog 39 _ ReflectliteValue.set Tryd.func39 (by kernel_rfl) (by kernel_rfl) (by kernel_rfl) (by kernel_rfl)
  have tC := rTypeOfC
  have tF := rTypeOfF
  have mA := rMethAssign
  have mU := rMethUnwrap
  have a1 := rAssCC
  have a2 := rAssFC
  have vC := rValueOfC
  have n1 := aNoAsF
  have n2 := aUnF
  have hal := lt_of_cell ha
  have htl := lt_of_cell ht
  have el := rElemVPC a t (w.alloc (.cells #[.pointer (some ⟨7, 54, none⟩), .pointer (some a), .int .u64 150] 70)) (by rw [World.cell?_alloc_lt _ _ a hal]; exact ha)
  have st := rSetC t ⟨w.heap.size + 1, 0, none⟩ c old ((w.alloc (.cells #[.pointer (some ⟨7, 54, none⟩), .pointer (some a), .int .u64 150] 70)).alloc (.cells #[.int .i64 c] 52))
    (by rw [World.cell?_alloc_at _ _ _ _ (by simp)]; rfl)
    (by rw [World.cell?_alloc_lt _ _ t (by simp; omega), World.cell?_alloc_lt _ _ t htl]; exact ht)
    (by rw [World.frozen?_alloc_old _ _ t (by simp; omega), World.frozen?_alloc_old _ _ t (by omega)]; exact hf)
  clear ha ht hf hal htl
  have HC : Hid (Chain w l c v) := hch
  clear hch
  go_enter Tryd.func31, Tryd.ntmps31
  go_wp2
  go_loopg [0] l.length (CodeRel w (w.alloc (.cells #[.pointer (some ⟨7, 54, none⟩), .pointer (some a), .int .u64 150] 70)) c)
  case atStart => exact ⟨l, rfl, HC.out, rfl⟩
  case round =>
    obtain ⟨l', hk, hc', rfl⟩ := hrel
    cases l' with
    | nil =>
      obtain rfl : _ = _ := hc'
      go_wp2
      go_ret
      exact ⟨rfl, rfl⟩
    | cons p r =>
      obtain ⟨n, s⟩ := p
      obtain ⟨b, why, rfl, c0, c1, c2, hr⟩ := hc'
      have hh := hr.held
      have hb : b < w.heap.size := lt_of_cell c0
      have hu := unwrap_any b why (w.alloc (.cells #[.pointer (some ⟨7, 54, none⟩), .pointer (some a), .int .u64 150] 70)) (by rw [World.cell?_alloc_lt _ _ ⟨b, 2, none⟩ hb]; exact c2) hh
      have HU := Lib.hid hu
      have HR := Lib.hid hr
      have HK := Lib.hid hk
      obtain ⟨T, x, rfl⟩ := hh
      clear hu hr hk c0 c1 c2 hb
      go_wp2_with (go_at_call 97; refine (HU.out).mono ?_; rintro e w' ⟨rfl, rfl⟩)
      go_roundg r.length
      case rel => exact ⟨r, rfl, HR.out, rfl⟩
      case measure => have := HK.out; simp at this; omega

set_option maxHeartbeats 4000000 in
theorem as_in_fault (b : Nat) (t a : Addr) (old : Value) (w : World) (ha : w.cell? a = some (.pointer (some t))) (ht : w.cell? t = some old) (hf : w.frozen? t = false) : 
    Calls Tryd.prog 31 #[.iface 55 (.pointer (some ⟨b, 0, none⟩)), .iface 56 (.pointer (some t)), .agg #[.pointer (some ⟨7, 56, none⟩), .pointer (some a), .int .u64 150], .iface 83 (.agg #[.pointer (some ⟨7, 55, none⟩)])] w
      fun e w' => e = .returned (.bool true) ∧ w' = ((w.alloc (.cells #[.pointer (some ⟨7, 56, none⟩), .pointer (some a), .int .u64 150] 70)).alloc (.cells #[.pointer (some ⟨b, 0, none⟩)] 55)).setCell t (.pointer (some ⟨b, 0, none⟩)) := by
  have h1 := @run_callFunc_extern Tryd.prog 28 _ (fun args => ReflectliteValue.unpack (args.getD 0 (.tuple #[]))) Tryd.func28 (by kernel_rfl) (by kernel_rfl) (by kernel_rfl) (by kernel_rfl)
  have h2 := @run_callFunc_extern Tryd.prog 37 _ ReflectliteType.typeOf Tryd.func37 (by kernel_rfl) (by kernel_rfl) (by kernel_rfl) (by kernel_rfl)
  have h3 := @run_callFunc_extern Tryd.prog 102 _ (ReflectliteType.relation "AssignableTo" ReflectliteType.assignableTo) Tryd.func102 (by kernel_rfl) (by kernel_rfl) (by kernel_rfl) (by kernel_rfl)
  have h4 := @run_callFunc_extern Tryd.prog 38 _ (ReflectliteValue.method (ReflectliteValue.valueError "reflectlite.Value.Elem" 0) ReflectliteValue.elem) Tryd.func38 (by kernel_rfl) (by kernel_rfl) (by kernel_rfl) (by kernel_rfl)
  have h5 := @run_callFunc_extern Tryd.prog 39 _ ReflectliteValue.set Tryd.func39 (by kernel_rfl) (by kernel_rfl) (by kernel_rfl) (by kernel_rfl)
  have tF := rTypeOfF
  have mA := rMethAssign
  have a1 := rAssFF
  have vF := rValueOfF
  have hal := lt_of_cell ha
  have htl := lt_of_cell ht
  have el := rElemVPF a t (w.alloc (.cells #[.pointer (some ⟨7, 56, none⟩), .pointer (some a), .int .u64 150] 70)) (by rw [World.cell?_alloc_lt _ _ a hal]; exact ha)
  have st := rSetF t ⟨w.heap.size + 1, 0, none⟩ ⟨b, 0, none⟩ old ((w.alloc (.cells #[.pointer (some ⟨7, 56, none⟩), .pointer (some a), .int .u64 150] 70)).alloc (.cells #[.pointer (some ⟨b, 0, none⟩)] 55))
    (by rw [World.cell?_alloc_at _ _ _ _ (by simp)]; rfl)
    (by rw [World.cell?_alloc_lt _ _ t (by simp; omega), World.cell?_alloc_lt _ _ t htl]; exact ht)
    (by rw [World.frozen?_alloc_old _ _ t (by simp; omega), World.frozen?_alloc_old _ _ t (by omega)]; exact hf)
  clear ha ht hf hal htl
  go_enter Tryd.func31, Tryd.ntmps31
  go_wp2
  refine wp_loop_rounds 1 ?_
  rw [rounds_succ]
  go_wp2
  go_ret
  exact ⟨rfl, rfl⟩

set_option maxHeartbeats 4000000 in
theorem as_in_none (c : Int) (t a : Addr) (w : World) : 
    Calls Tryd.prog 31 #[.iface 52 (.int .i64 c), .iface 56 (.pointer (some t)), .agg #[.pointer (some ⟨7, 56, none⟩), .pointer (some a), .int .u64 150], .iface 83 (.agg #[.pointer (some ⟨7, 55, none⟩)])] w
      fun e w' => e = .returned (.bool false) ∧ w' = (w.alloc (.cells #[.pointer (some ⟨7, 56, none⟩), .pointer (some a), .int .u64 150] 70)) := by
  have h1 := @run_callFunc_extern Tryd.prog 28 _ (fun args => ReflectliteValue.unpack (args.getD 0 (.tuple #[]))) Tryd.func28 (by kernel_rfl) (by kernel_rfl) (by kernel_rfl) (by kernel_rfl)
  have h2 := @run_callFunc_extern Tryd.prog 37 _ ReflectliteType.typeOf Tryd.func37 (by kernel_rfl) (by kernel_rfl) (by kernel_rfl) (by kernel_rfl)
  have h3 := @run_callFunc_extern Tryd.prog 102 _ (ReflectliteType.relation "AssignableTo" ReflectliteType.assignableTo) Tryd.func102 (by kernel_rfl) (by kernel_rfl) (by kernel_rfl) (by kernel_rfl)
  have h4 := @run_callFunc_extern Tryd.prog 38 _ (ReflectliteValue.method (ReflectliteValue.valueError "reflectlite.Value.Elem" 0) ReflectliteValue.elem) Tryd.func38 (by kernel_rfl) (by kernel_rfl) (by kernel_rfl) (by kernel_rfl)
  have h5 := @run_callFunc_extern Tryd.prog 39 _ ReflectliteValue.set Tryd.func39 (by kernel_rfl) (by kernel_rfl) (by kernel_rfl) (by kernel_rfl)
  have tC := rTypeOfC
  have mA := rMethAssign
  have a1 := rAssCF
  have n1 := aNoAsC
  have n2 := aNoUnC
  have n3 := aNoUsC
  go_enter Tryd.func31, Tryd.ntmps31
  go_wp2
  refine wp_loop_rounds 1 ?_
  rw [rounds_succ]
  go_wp2
  go_ret
  exact ⟨rfl, rfl⟩
end Go.Proofs.YtmejpjknofbffaaDoor
