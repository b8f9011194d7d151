/-
  errors.Is on a chain of faults that ends in a code, asked for a code: it answers whether the chain's code is that code.
-/
import Derived.Test.YtakibkbmikkpdaaDoorAsTop
import Derived.Lib.IfaceEq
namespace Go.Proofs.YtakibkbmikkpdaaDoor
open Go.RowKit Go.Extern.Stop Go.Stop Go.Extern
set_option linter.unusedVariables false
set_option linter.unusedSimpArgs false

theorem rCompC (w : World) : (ReflectliteType.method (fun t => do Rtype.noPackHeld "Comparable" t; (fun a => Value.bool a.comparable) <$> typeInfo t) #[.agg #[.pointer (some ⟨2, 31, none⟩)]]).run Tryd.prog w = .ok (.bool true) w := by kernel_rfl
theorem cmpC : (Tryd.prog.info? 31).map (·.comparable) = some true := by kernel_rfl

def IsRel (w : World) (c : Int) (k : Nat) (e : Value) (wr : World) : Prop := ∃ l : List (Int × ByteArray), l.length = k ∧ Chain w l c e ∧ wr = w

set_option maxHeartbeats 4000000 in
theorem is_in (l : List (Int × ByteArray)) (c c' : Int) (v : Value) (w : World) (hch : Chain w l c v) :
    Calls Tryd.prog 23 #[v, .iface 31 (.int .i64 c'), .bool true] w fun e w' => e = .returned (.bool (c == c')) ∧ w' = w := by
  have mU := rMethUnwrap
  have n1 := aNoIsF
  have n2 := aUnF
  have n3 := aNoIsC
  have n4 := aNoUnC
  have n5 := aNoUsC
  have hq := Lib.run_eql_iface_int (k := .i64) w c c' Tryd.underlying24 cmpC Tryd.underlying31
  have hty := fun b => run_eql_iface_types (P := Tryd.prog) 29 31 (.pointer (some ⟨b, 0, none⟩)) (.int .i64 c') Tryd.underlying24 (by decide) w
  have HC := Lib.hid hch
  clear hch
  generalize hB : (c == c') = B at hq
  have HB := Lib.hid hB
  clear hB
  go_enter Tryd.func23, Tryd.ntmps23
  go_wp2
  go_loopg [0] l.length (IsRel w c)
  case atStart => exact ⟨l, rfl, HC.out, rfl⟩
  case round =>
    obtain ⟨l', hk, hc', rfl⟩ := hrel
    cases l' with
    | nil =>
      obtain rfl : _ = _ := hc'
      cases B
      all_goals
        go_wp2
        go_ret
        exact ⟨rfl, rfl⟩
    | cons p r =>
      obtain ⟨n, s⟩ := p
      obtain ⟨b, why, rfl, c0, c1, c2, hr⟩ := hc'
      have hh := hr.held
      have hu := unwrap_any b why _ c2 hh
      have hb := hty b
      have HU := Lib.hid hu
      have HR := Lib.hid hr
      have HK := Lib.hid hk
      obtain ⟨T, x, rfl⟩ := hh
      clear hu hr hk c0 c1 c2 hty hq
      go_wp2_with (go_at_call 68; refine (HU.out).mono ?_; rintro e w' ⟨rfl, hww⟩; subst hww)
      go_roundg r.length
      case rel => exact ⟨r, rfl, HR.out, rfl⟩
      case measure => have := HK.out; simp at this; omega

set_option maxRecDepth 100000 in
set_option maxHeartbeats 4000000 in
theorem is_code (l : List (Int × ByteArray)) (c c' : Int) (v : Value) (w : World) (hch : Chain w l c v) :
    Calls Tryd.prog 9 #[v, .iface 31 (.int .i64 c')] w fun e w' => e = .returned (.bool (c == c')) ∧ w' = w := by
  have HI := Lib.hid (is_in l c c' v w hch)
  obtain ⟨T, x, rfl⟩ := hch.held
  have h2 := @run_callFunc_extern Tryd.prog 22 _ ReflectliteType.typeOf Tryd.func22 (by kernel_rfl) (by kernel_rfl) (by kernel_rfl) (by kernel_rfl)
  have h3 := @run_callFunc_extern Tryd.prog 75 _ (ReflectliteType.method fun t => do Rtype.noPackHeld "Comparable" t; pure (.bool (← typeInfo t).comparable)) Tryd.func75 (by kernel_rfl) (by kernel_rfl) (by kernel_rfl) (by kernel_rfl)
  have tC := rTypeOfC
  have mC := rMethComp
  have cC := rCompC
  clear hch
  generalize (c == c') = B at HI ⊢
  go_enter Tryd.func9, Tryd.ntmps9
  go_wp2_with (go_at_call 23; refine (HI.out).mono ?_; rintro e w' ⟨rfl, hww⟩; subst hww)
  go_ret
  exact ⟨rfl, rfl⟩
end Go.Proofs.YtakibkbmikkpdaaDoor
