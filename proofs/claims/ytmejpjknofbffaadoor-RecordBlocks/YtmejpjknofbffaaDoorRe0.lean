/-
  Pieces and their blocks, plain: what the document's words give.
-/
import Derived.Test.YtmejpjknofbffaaDoorPu0
import Derived.Test.YtmejpjknofbffaaDoorBcs
namespace Go.Proofs.YtmejpjknofbffaaDoor
open Go.RowKit Go.Lib
set_option linter.unusedVariables false
set_option linter.unusedSimpArgs false

/-- A number's k lowest bytes, the highest first. -/
def be : Nat → Nat → List UInt8
  | 0, _ => []
  | k + 1, n => be k (n / 256) ++ [UInt8.ofNat (n % 256)]
theorem be_len : ∀ k n, (be k n).length = k
  | 0, _ => rfl
  | k + 1, n => by rw [be, List.length_append, be_len k]; rfl
theorem be_head : ∀ k n, be (k + 1) n = UInt8.ofNat (n / 256 ^ k % 256) :: be k n
  | 0, n => by simp [be]
  | k + 1, n => by
    have ih := be_head k (n / 256)
    rw [be, ih, List.cons_append, Nat.div_div_eq_div_mul]
    have e : 256 * 256 ^ k = 256 ^ (k + 1) := by rw [Nat.pow_succ, Nat.mul_comm]
    rw [e]
    rfl
/-- The number that these bytes are. -/
def unStep (n : Nat) (c : UInt8) : Nat := n * 256 + c.toNat
def un (l : List UInt8) : Nat := l.foldl unStep 0
theorem un_snoc (l : List UInt8) (c : UInt8) : un (l ++ [c]) = un l * 256 + c.toNat := by unfold un; rw [List.foldl_append, List.foldl_cons, List.foldl_nil]; rfl
theorem un_lt (l : List UInt8) : un l < 256 ^ l.length := by
  rcases List.eq_nil_or_concat l with rfl | ⟨r, c, rfl⟩
  · simp [un]
  · have ih := un_lt r
    have hc := c.toNat_lt
    rw [List.concat_eq_append, un_snoc, List.length_append, List.length_singleton, Nat.pow_succ]
    omega
termination_by l.length
theorem un_be : ∀ k n, n < 256 ^ k → un (be k n) = n
  | 0, n, h => by simp at h; simp [be, un, h]
  | k + 1, n, h => by
    rw [be, un_snoc, un_be k (n / 256) (by rw [Nat.pow_succ] at h; omega), UInt8.toNat_ofNat']
    omega
theorem be_un (l : List UInt8) : be l.length (un l) = l := by
  rcases List.eq_nil_or_concat l with rfl | ⟨r, c, rfl⟩
  · rfl
  · have ih := be_un r
    have hc := c.toNat_lt
    rw [List.concat_eq_append, un_snoc, List.length_append, List.length_singleton, be, show (un r * 256 + c.toNat) / 256 = un r by omega, ih, show (un r * 256 + c.toNat) % 256 = c.toNat by omega]
    simp
termination_by l.length
theorem un_inj {a b : List UInt8} (h : a.length = b.length) (e : un a = un b) : a = b := by
  rw [← be_un a, ← be_un b, h, e]

/-- A piece. -/
structure Pc where
  kd : Int
  ep : Int
  nu : Int
  pa : Int
  ps : Int
  da : List UInt8
def fieldB (s : String) : ByteArray := s.toUTF8
/-- What field is wrong first: 0: none; 1 .. 6. -/
def Pc.bad (p : Pc) : Nat :=
  if p.kd < 1 ∨ 255 < p.kd then 1 else if p.ep < 0 ∨ 2147483647 < p.ep then 2 else if p.nu < 0 ∨ 2147483647 < p.nu then 3
  else if p.ps < 1 ∨ 200 < p.ps then 4 else if p.pa < 0 ∨ p.ps ≤ p.pa then 5
  else if 42 < p.da.length ∨ (p.da.length < 42 ∧ p.pa + 1 < p.ps) then 6 else 0
structure Pc.Ok (p : Pc) : Prop where
  k1 : 1 ≤ p.kd
  k2 : p.kd ≤ 255
  e1 : 0 ≤ p.ep
  e2 : p.ep ≤ 2147483647
  n1 : 0 ≤ p.nu
  n2 : p.nu ≤ 2147483647
  s1 : 1 ≤ p.ps
  s2 : p.ps ≤ 200
  a1 : 0 ≤ p.pa
  a2 : p.pa < p.ps
  d1 : p.da.length ≤ 42
  d2 : p.da.length = 42 ∨ p.ps = p.pa + 1
theorem Pc.ok_of {p : Pc} (h : p.bad = 0) : p.Ok := by
  unfold Pc.bad at h
  split at h
  · cases h
  split at h
  · cases h
  split at h
  · cases h
  split at h
  · cases h
  split at h
  · cases h
  split at h
  · cases h
  constructor <;> omega
theorem Pc.bad_of {p : Pc} (h : p.Ok) : p.bad = 0 := by
  obtain ⟨h1, h2, h3, h4, h5, h6, h7, h8, h9, h10, h11, h12⟩ := h
  unfold Pc.bad
  rw [if_neg (by omega), if_neg (by omega), if_neg (by omega), if_neg (by omega), if_neg (by omega), if_neg (by omega)]
/-- The bytes from the kind to the count. -/
def Pc.head (p : Pc) : List UInt8 := be 1 p.kd.toNat ++ be 4 p.ep.toNat ++ be 4 p.nu.toNat ++ be 1 p.pa.toNat ++ be 1 p.ps.toNat ++ be 1 p.da.length
theorem Pc.head_len (p : Pc) : p.head.length = 12 := by simp [Pc.head, be_len]
/-- Its block. -/
def Pc.blk (p : Pc) (m : UInt8) : List UInt8 := m :: (p.head ++ be 8 (fnv (p.head ++ p.da)) ++ p.da ++ List.replicate (42 - p.da.length) 0 ++ [m])
theorem Pc.blk_len {p : Pc} (h : p.da.length ≤ 42) (m : UInt8) : (p.blk m).length = 64 := by
  simp [Pc.blk, p.head_len, be_len]
  omega
def cutL (x : List UInt8) (l h : Nat) : List UInt8 := (x.drop l).take (h - l)
/-- What stands in a block's sum. -/
def sumL (x : List UInt8) : List UInt8 := cutL x 1 13 ++ cutL x 21 (21 + min (x.getD 12 0).toNat 42)
/-- Bytes laid from q on. -/
def layL (L : List UInt8) (q k n : Nat) : List UInt8 := L.take q ++ be k n ++ L.drop (q + k)
/-- A block, but for its sum. -/
def Pc.pre (p : Pc) (m : UInt8) (Z : List UInt8) : List UInt8 := m :: (p.head ++ (Z ++ (p.da ++ (List.replicate (42 - p.da.length) 0 ++ [m]))))
theorem blk_pre (p : Pc) (m : UInt8) : p.blk m = p.pre m (be 8 (fnv (p.head ++ p.da))) := by simp [Pc.blk, Pc.pre]
theorem lit6 (p : Pc) (m : UInt8) :
    (((layL (layL ((((List.replicate 64 (0 : UInt8)).set 0 m).set 63 m).set 1 (UInt8.ofNat (p.kd.toNat % 256))) 2 4 p.ep.toNat) 6 4 p.nu.toNat).set 10 (UInt8.ofNat (p.pa.toNat % 256))).set 11 (UInt8.ofNat (p.ps.toNat % 256))).set 12 (UInt8.ofNat (p.da.length % 256)) = m :: (p.head ++ (List.replicate 8 0 ++ (List.replicate 42 0 ++ [m]))) := rfl
theorem lit7 {p : Pc} (h : p.da.length ≤ 42) (m : UInt8) {L6 : List UInt8} (e : L6 = m :: (p.head ++ (List.replicate 8 0 ++ (List.replicate 42 0 ++ [m])))) :
    L6.take 21 ++ p.da ++ L6.drop (21 + p.da.length) = p.pre m (List.replicate 8 0) := by
  subst e
  have e1 : (m :: (p.head ++ (List.replicate 8 0 ++ (List.replicate 42 0 ++ [m])))).take 21 = m :: (p.head ++ List.replicate 8 0) := rfl
  have e2 : (m :: (p.head ++ (List.replicate 8 0 ++ (List.replicate 42 0 ++ [m])))).drop 21 = List.replicate 42 0 ++ [m] := rfl
  rw [← List.drop_drop, e2, e1, List.drop_append_of_le_length (by simpa using h), List.drop_replicate]
  simp [Pc.pre]
theorem sum_pre {p : Pc} (h : p.da.length ≤ 42) (m : UInt8) {Z : List UInt8} (hz : Z.length = 8) : sumL (p.pre m Z) = p.head ++ p.da := by
  have e0 : (p.pre m Z).getD 12 0 = UInt8.ofNat (p.da.length % 256) := rfl
  have e1 : (UInt8.ofNat (p.da.length % 256)).toNat = p.da.length := by rw [UInt8.toNat_ofNat']; omega
  unfold sumL
  rw [e0, e1, Nat.min_eq_left h]
  have e2 : cutL (p.pre m Z) 1 13 = p.head := by
    show (p.head ++ _).take 12 = p.head
    rw [List.take_append_of_le_length (by simp [p.head_len]), List.take_of_length_le (by simp [p.head_len])]
  have e3 : cutL (p.pre m Z) 21 (21 + p.da.length) = p.da := by
    unfold cutL Pc.pre
    have : (m :: (p.head ++ (Z ++ (p.da ++ (List.replicate (42 - p.da.length) 0 ++ [m]))))) = (m :: (p.head ++ Z)) ++ (p.da ++ (List.replicate (42 - p.da.length) 0 ++ [m])) := by simp
    rw [this, List.drop_left' (by simp [p.head_len, hz]), show 21 + p.da.length - 21 = p.da.length by omega, List.take_left' rfl]
  rw [e2, e3]
theorem lay_pre (p : Pc) (m : UInt8) {Z : List UInt8} (hz : Z.length = 8) (n : Nat) : layL (p.pre m Z) 13 8 n = p.pre m (be 8 n) := by
  unfold layL Pc.pre
  have e1 : (m :: (p.head ++ (Z ++ (p.da ++ (List.replicate (42 - p.da.length) 0 ++ [m]))))) = (m :: p.head) ++ (Z ++ (p.da ++ (List.replicate (42 - p.da.length) 0 ++ [m]))) := by simp
  have e2 : (m :: (p.head ++ (Z ++ (p.da ++ (List.replicate (42 - p.da.length) 0 ++ [m]))))) = (m :: (p.head ++ Z)) ++ (p.da ++ (List.replicate (42 - p.da.length) 0 ++ [m])) := by simp
  rw [show 13 + 8 = 21 from rfl]
  conv => lhs; arg 2; rw [e2]
  rw [List.drop_left' (by simp [p.head_len, hz]), e1, List.take_left' (by simp [p.head_len])]
  simp
theorem blk_made {p : Pc} (h : p.da.length ≤ 42) {m : UInt8} :
    (let L6 := (((layL (layL ((((List.replicate 64 (0 : UInt8)).set 0 m).set 63 m).set 1 (UInt8.ofNat (p.kd.toNat % 256))) 2 4 p.ep.toNat) 6 4 p.nu.toNat).set 10 (UInt8.ofNat (p.pa.toNat % 256))).set 11 (UInt8.ofNat (p.ps.toNat % 256))).set 12 (UInt8.ofNat (p.da.length % 256))
     layL (L6.take 21 ++ p.da ++ L6.drop (21 + p.da.length)) 13 8 (fnv (sumL (L6.take 21 ++ p.da ++ L6.drop (21 + p.da.length))))) = p.blk m := by
  simp only
  rw [lit7 h m (lit6 p m), sum_pre h m (by simp), lay_pre p m (by simp), blk_pre]
end Go.Proofs.YtmejpjknofbffaaDoor
