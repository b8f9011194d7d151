/-
  A function's end where its first result, a piece, lies in memory.
-/
import Derived.Test.YtmejpjknofbffaaDoorRe6
import Derived.Test.YtmejpjknofbffaaDoorReA0
namespace Go.Proofs.YtmejpjknofbffaaDoor
open Go.RowKit Go.Lib
theorem ret_P {fn : Func} {R : Ending → World → Prop} {a : Act} {w : World} {p u v : Tmp} (q : Pc) (b : Nat) (hf : fn.results = #[.cell p 23, .tmp u, .tmp v]) (hp : a.tmps.getD p undef = .pointer (some ⟨b, 0, none⟩)) (hc : HdD w b (dcs q))
    (hde : a.defers = []) (hR : R (.returned (.tuple #[.agg (dcs q).toArray, a.tmps.getD u undef, a.tmps.getD v undef])) w) : bodyPost Tryd.prog fn R .ret a w :=
  ret_cell_tmp2 (dcs q) b hf hp hc.1 Tryd.underlying23 rfl (by kernel_rfl) hde hR
end Go.Proofs.YtmejpjknofbffaaDoor
