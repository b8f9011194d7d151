/-
  slices.SortFunc over a row of members: what stands behind it.
-/
import Derived.Test.YtpehddbpingobaaDoorSort1
namespace Go.Proofs.YtpehddbpingobaaDoor
open Go.RowKit Go.Lib Go.Shelf Go.Sort
set_option linter.unusedVariables false
set_option linter.unusedSimpArgs false

/-- Only block g of what was there has turned. -/
def Only (g : Nat) (w w' : World) : Prop := w.heap.size ≤ w'.heap.size ∧ (∀ k, k < w.heap.size → k ≠ g → w'.heap[k]? = w.heap[k]?) ∧ ∀ (B : Nat) (W : World), Below B W w → B ≤ g → B ≤ w.heap.size → Below B W w'

theorem only_sort (enc : KVC → List Value) (k : Nat) (w : World) (g off n : Nat) (d : Array KVC) (os : Array Obj) : Only g w (sortWorldK enc k w g off n d os) := by
  have h1 : ∀ i, i ≠ g → (putRowK enc k (Sort.ahead w n) g off d).heap[i]? = w.heap[i]? := fun i hi => by
    unfold putRowK putRow mapBlock
    simp [Array.getElem?_modify, Ne.symm hi, Sort.ahead]
  have hs : (putRowK enc k (Sort.ahead w n) g off d).heap.size = w.heap.size := by
    unfold putRowK putRow mapBlock
    simp [Sort.ahead]
  have h2 : ∀ i, i < w.heap.size → i ≠ g → (sortWorldK enc k w g off n d os).heap[i]? = w.heap[i]? := fun i hi hg => by
    unfold sortWorldK
    rw [heap_grow_old _ _ (by rw [hs]; exact hi), h1 i hg]
  have h3 : w.heap.size ≤ (sortWorldK enc k w g off n d os).heap.size := by
    unfold sortWorldK
    rw [size_grow, hs]; omega
  refine ⟨h3, h2, fun B W hb hB hBs => ⟨hb.os, hb.tape, hb.output, Nat.le_trans hb.size h3, fun i hi => (h2 i (by omega) (by omega)).trans (hb.block i hi)⟩⟩

theorem sort_some (d : List KVC) (g off cap : Nat) (w : World) (hR : Row7 w g off d) (hg : g < w.heap.size) (hd : d.length ≤ 1000000) :
    Calls Tryd.prog 20 #[.slice (some ⟨g, off, none⟩) d.length cap, .func (.func 21) #[] #[]] w fun e w' => e = .returned (.tuple #[]) ∧
      ∃ d' : List KVC, d'.Perm d ∧ (∀ i j (hi : i < d'.length) (hj : j < d'.length), i < j → Op.bytesLess d'[j].1.1.data.toList d'[i].1.1.data.toList = false) ∧ Row7 w' g off d' ∧ Only g w w' := by
  have eg : ∀ args w, (callFunc 21 args).run Tryd.prog w = .ok (.enter 21 args) w := enters_of Tryd.func21 (by kernel_rfl) rfl
  have hH : HoldsK encM 7 w g off d.toArray := by
    intro j hj
    have hj' : j < d.length * 7 := by simpa [flatK] using hj
    have hi : j / 7 < d.length := by omega
    have hq : j % 7 < 7 := by omega
    have hx := hR (j / 7) hi (j % 7) hq
    have ej : off + j / 7 * 7 + j % 7 = off + j := by omega
    rw [ej] at hx
    refine ⟨?_, hx.2⟩
    rw [hx.1, get_flatK encM 7 d.toArray j (by simpa using hj')]
    have e1 : (d.toArray[j / 7]! : KVC) = d[j / 7] := by rw [getElem!_pos d.toArray (j / 7) (by simpa using hi)]; simp
    rw [e1, id_eq, List.getElem?_eq_getElem (by rw [show (encM d[j / 7]).length = 7 from rfl]; exact hq), getElem!_pos (encM d[j / 7]) (j % 7) (by rw [show (encM d[j / 7]).length = 7 from rfl]; exact hq)]
  have hcon := AnyQ.slices_SortFunc Tryd.laysSort 7 Tryd.isAgg46 Tryd.sizeOf46 encM (fun _ => rfl) (fun x v hv => mem7_one _ _ v hv) cmpM swoM 21 #[] g off cap d.toArray w eg (cmpLays_any g off _ w) hH hg (by simp; omega)
  refine Calls.mono hcon fun e w' ⟨he, d', n, os, hp, hs, hw⟩ => ⟨he, d'.toList, ?_, ?_, ?_, ?_⟩
  · obtain ⟨h1, -, h3⟩ := hp
    have e1 : d'.extract 0 d.toArray.size = d' := by rw [← h1, Array.extract_size]
    have e2 : d.toArray.extract 0 d.toArray.size = d.toArray := Array.extract_size
    rw [e1, e2] at h3
    simpa using h3
  · intro i j hi hj hij
    have hsz : d'.size = d.length := by have := hp.1; simpa using this
    have := hs i j (Nat.zero_le _) hij (by have : j < d'.size := by simpa using hj
                                           simp; omega)
    rw [ltM] at this
    have a1 : d'[j]! = d'.toList[j] := by rw [getElem!_pos d' j (by simpa using hj)]; simp
    have a2 : d'[i]! = d'.toList[i] := by rw [getElem!_pos d' i (by simpa using hi)]; simp
    rw [a1, a2] at this
    exact this
  · intro i hi q hq
    have hsz : d'.size = d.toArray.size := hp.1
    have hh : HoldsK encM 7 w' g off d' := by
      rw [hw]
      unfold sortWorldK
      refine holdsK_grow _ _ _ _ _ _ _ ?_ (holdsK_putRowK _ _ _ _ _ d.toArray _ (holdsK_ahead _ _ _ _ _ _ _ hH) hsz)
      unfold putRowK putRow mapBlock
      simpa [Sort.ahead] using hg
    have := hh.cell (i := i) (c := q) (by simpa using hi) hq
    refine ⟨?_, this.2⟩
    have a2 : d'[i]! = d'.toList[i] := by rw [getElem!_pos d' i (by simpa using hi)]; simp
    rw [this.1, a2, List.getElem?_eq_getElem (by rw [show (encM d'.toList[i]).length = 7 from rfl]; exact hq), getElem!_pos (encM d'.toList[i]) q (by rw [show (encM d'.toList[i]).length = 7 from rfl]; exact hq)]
  · rw [hw]; exact only_sort _ _ _ _ _ _ _ _
theorem sort_none (p : Option Addr) (cap : Nat) (w : World) :
    Calls Tryd.prog 20 #[.slice p 0 cap, .func (.func 21) #[] #[]] w fun e w' => e = .returned (.tuple #[]) ∧ w = w' :=
  (AnyF.slices_SortFunc_none { Tryd.laysSort with } p cap _ w).mono fun _ _ ⟨he, hw⟩ => ⟨he, hw.symm⟩
end Go.Proofs.YtpehddbpingobaaDoor
