/-
  A text's sum by the program.
-/
import Derived.Test.YtmejpjknofbffaaDoorSm0
import Derived.Test.YtmejpjknofbffaaDoorHex2
namespace Go.Proofs.YtmejpjknofbffaaDoor
open Go.RowKit Go.Lib

theorem sum_any (s : ByteArray) (w : World) (hw : Deb w) (hs : s.size ≤ 1000000) : Calls Tryd.prog 26 #[.string s] w fun e w' => e = .returned (.string (sumB s)) ∧ Below w.heap.size w w' :=
  sum_of s w hs fun n hn => hex_any n 16 w hw (by decide) (by decide) (by have : (16 : Nat) ^ 16 = 18446744073709551616 := by decide
                                                                          omega) hn
end Go.Proofs.YtmejpjknofbffaaDoor
