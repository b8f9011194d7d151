/-
  Names: what the laws take of the program's functions, and the laws' fixed fact.
-/
import Derived.Test.YtakibkbmikkpdaaDoorId0
import Derived.Test.YtakibkbmikkpdaaDoorProg
namespace Go.Proofs.YtakibkbmikkpdaaDoor
open Go.RowKit Go.Lib
set_option linter.unusedVariables false
set_option linter.unusedSimpArgs false

/-- What is known of memory, whatever is made besides. -/
def Stays (G : World → Prop) : Prop := ∀ w w', G w → Below w.heap.size w w' → G w'
/-- The program's Is and Of answer by the document's words. -/
def IsC (G : World → Prop) : Prop := ∀ (k : Int) (s : ByteArray) (W : World), G W → s.size ≤ 1000 → Calls Tryd.prog 8 #[.int .i64 k, .string s] W fun e w' => e = .returned (.bool (isName k s)) ∧ Below W.heap.size W w'
def OfC (G : World → Prop) : Prop := ∀ (s : ByteArray) (W : World), G W → s.size ≤ 1000 → Calls Tryd.prog 14 #[.string s] W fun e w' => e = .returned (.string (nameServer s)) ∧ Below W.heap.size W w'

set_option maxRecDepth 10000 in
set_option maxHeartbeats 800000 in
theorem awake_id {G : World → Prop} (hst : Stays G) (hIs : IsC G) (hOf : OfC G) (w : World) (hG : G w) : Calls Tryd.prog 5 #[] w fun e w' => e = .returned (.bool true) ∧ Below w.heap.size w w' := by
  have h1 := fun W (h : G W) => hIs 2 ⟨#[64, 97, 110, 110, 58, 120, 46, 111, 114, 103]⟩ W h (by decide)
  have h2 := fun W (h : G W) => hOf ⟨#[33, 97, 58, 98, 58, 56, 48]⟩ W h (by decide)
  have h3 := fun W (h : G W) => hIs 1 ⟨#[64, 97, 110, 110, 58, 120, 46, 111, 114, 103]⟩ W h (by decide)
  rw [ex_user] at h1
  rw [ex_of] at h2
  rw [ex_not] at h3
  have H := Lib.hid (And.intro h1 (And.intro h2 (And.intro h3 hst)))
  have HG := Lib.hid hG
  clear h1 h2 h3 hst hIs hOf hG
  go_enter Tryd.func5, Tryd.ntmps5
  go_wp2_with fail
  refine (H.out.1 _ HG.out).mono ?_
  rintro e W1 ⟨rfl, hb1⟩
  have HB1 := Lib.hid hb1
  have HG1 := Lib.hid (H.out.2.2.2 _ _ HG.out hb1)
  clear hb1
  go_wp2_with fail
  refine (H.out.2.1 _ HG1.out).mono ?_
  rintro e W2 ⟨rfl, hb2⟩
  have HB2 := Lib.hid (HB1.out.trans (hb2.mono HB1.out.size))
  have HG2 := Lib.hid (H.out.2.2.2 _ _ HG1.out hb2)
  clear hb2
  go_wp2_with fail
  refine (H.out.2.2.1 _ HG2.out).mono ?_
  rintro e W3 ⟨rfl, hb3⟩
  have HB3 := Lib.hid (HB2.out.trans (hb3.mono HB2.out.size))
  clear hb3
  go_wp2_with fail
  go_ret
  exact ⟨rfl, HB3.out⟩
end Go.Proofs.YtakibkbmikkpdaaDoor
