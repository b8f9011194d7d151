/-
  Values as trees; what is wrong with one, by the words of the document (its keys and numbers on the way, and the code). No walk stands here.
-/
import Derived.WalkKit
import Derived.Lib.ItoaNum
import Derived.Lib.ValidU
namespace Go.Proofs.YtpehddbpingobaaDoor
open Go.RowKit Go.Lib

/-- A value: its kind, and all that may go with one. -/
inductive V where
  | mk (kind : Int) (yes : Bool) (num : Int) (text : ByteArray) (list : List V) (map : List (ByteArray × V))

/-! ### what is wrong with a value -/
def validB (s : ByteArray) : Bool := Lib.validD s.data.toList
def bytesLt (a b : ByteArray) : Bool := Op.bytesLess a.toList b.toList
def itoaB (i : Nat) : ByteArray := ⟨(Lib.itoa (i : Int)).toArray⟩
def chkL (f : V → Option (List ByteArray × Int)) : Nat → List V → Option (List ByteArray × Int)
  | _, [] => none
  | i, v :: r => match f v with
    | some (p, c) => some (itoaB i :: p, c)
    | none => chkL f (i + 1) r
def chkKey (s : ByteArray) (prev : Option ByteArray) : Option Int :=
  if validB s = false then some 5 else match prev with
    | none => none
    | some q => if s.toList = q.toList then some 6 else if bytesLt s q = true then some 1 else none
def chkM (f : V → Option (List ByteArray × Int)) : Option ByteArray → List (ByteArray × V) → Option (List ByteArray × Int)
  | _, [] => none
  | prev, (s, v) :: r => match chkKey s prev with
    | some c => some ([s], c)
    | none => match f v with
      | some (p, c) => some (s :: p, c)
      | none => chkM f (some s) r
def chkHead (fl : List V → Option (List ByteArray × Int)) (fm : List (ByteArray × V) → Option (List ByteArray × Int)) : V → Option (List ByteArray × Int)
  | .mk k _ n t l m =>
    if k = 0 ∨ k = 1 then none
    else if k = 2 then (if n < -9007199254740991 ∨ 9007199254740991 < n then some ([], 4) else none)
    else if k = 3 then (if validB t then none else some ([], 5))
    else if k = 4 then fl l
    else if k = 5 then fm m
    else some ([], 9)
def chk : Nat → V → Option (List ByteArray × Int)
  | 0, v => chkHead (fun _ => some ([], 3)) (fun _ => some ([], 3)) v
  | d + 1, v => chkHead (chkL (chk d) 0) (chkM (chk d) none) v

end Go.Proofs.YtpehddbpingobaaDoor
