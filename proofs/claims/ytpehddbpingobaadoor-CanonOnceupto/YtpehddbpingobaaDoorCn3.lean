/-
  The program's canonical texts: what the library's variables hold, and stays; a number, a yes or no laid behind a text.
-/
import Derived.Test.YtpehddbpingobaaDoorCn2
import Derived.Test.YtpehddbpingobaaDoorCanT1
import Derived.Test.YtpehddbpingobaaDoorFew
namespace Go.Proofs.YtpehddbpingobaaDoor
open Go.RowKit Go.Lib
set_option linter.unusedVariables false
set_option linter.unusedSimpArgs false

/-- What the library's tables hold that texts are made by. -/
def Tabs (w : World) : Prop := Deb w ∧ Lib.TabIs Tryd.prog w "internal/strconv.uint64pow10" .u64 Lib.pow10Tab
theorem tabs_size {w : World} (h : Tabs w) : 6 ≤ w.heap.size → True := fun _ => trivial
theorem pow_named : Tryd.prog.globalNamed "internal/strconv.uint64pow10" = some 3 := by kernel_rfl
theorem Tabs.below {w w' : World} {B : Nat} (h : Tabs w) (hb : Below B w w') (h1 : 5 < B) (h2 : 3 < B) : Tabs w' := by
  refine ⟨h.1.below hb h1, ?_⟩
  have e := h.2
  unfold Lib.TabIs World.var? at e ⊢
  rw [pow_named] at e ⊢
  simp only [Option.bind_some] at e ⊢
  rw [hb.block 3 h2]
  exact e
theorem itoaI_any (n : Int) (w : World) (h1 : -9007199254740991 ≤ n) (h2 : n ≤ 9007199254740991) (hT : Tabs w) :
    Calls Tryd.prog 34 #[.int .i64 n] w fun e w' => e = .returned (.string ⟨(Lib.itoa n).toArray⟩) ∧ Below w.heap.size w w' :=
  (Tryd.strconv_Itoa n (by omega) (by omega) w hT.2).mono fun _ _ ⟨he, k, os, hw⟩ => ⟨he, hw ▸ below_grown w k os⟩
theorem fmtBool_any (y : Bool) (w : World) : Calls Tryd.prog 33 #[.bool y] w fun e w' => e = .returned (.string ⟨(if y then [116, 114, 117, 101] else [102, 97, 108, 115, 101]).toArray⟩) ∧ w = w' := by
  refine (Tryd.strconv_FormatBool y w).mono ?_
  rintro e w' ⟨rfl, rfl⟩
  exact ⟨by cases y <;> rfl, rfl⟩
end Go.Proofs.YtpehddbpingobaaDoor
