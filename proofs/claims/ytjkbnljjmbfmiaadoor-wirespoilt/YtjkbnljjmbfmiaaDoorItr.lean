/-
  Iterators of strings in memory.
-/
import Derived.Test.YtjkbnljjmbfmiaaDoorPv3
namespace Go.Proofs.YtjkbnljjmbfmiaaDoor
open Go Go.RowKit
set_option linter.unusedVariables false

theorem touch_iter (w : World) (k : Nat) (s : ByteArray) (p : Nat) : Touch (fun i => i = k) w (w.iterAt k s p) := ⟨rfl, rfl, rfl, by rw [Lib.iterAt_size]; exact Nat.le_refl _, fun i _ h => Lib.iterAt_other w k i s p h⟩
theorem iter_lt {w : World} {k p : Nat} {s : ByteArray} (h : w.heap[k]? = some (.stringIter s p)) : k < w.heap.size := (Array.getElem?_eq_some_iff.1 h).1
theorem iter_touch {w w' : World} {k p : Nat} {s : ByteArray} {X : Nat → Prop} (h : w.heap[k]? = some (.stringIter s p)) (ht : Touch X w w') (hx : ¬ X k) : w'.heap[k]? = some (.stringIter s p) := (ht.block k (iter_lt h) hx).trans h
theorem iter_keep {w w' : World} {k p : Nat} {s : ByteArray} (h : w.heap[k]? = some (.stringIter s p)) (hb : Below w.heap.size w w') : w'.heap[k]? = some (.stringIter s p) := (hb.block k (iter_lt h)).trans h
theorem iter_not_row {w : World} {k p base : Nat} {s : ByteArray} {v : Value} {l : List Nat} (h : w.heap[k]? = some (.stringIter s p)) (ho : OwnB w base v l) : v.ownBlock ≠ some k := by
  rcases ho.2 with ⟨rfl, _⟩ | ⟨g, cap, cur, rfl, _, hgb, _⟩
  · simp [Value.ownBlock]
  · intro e
    obtain rfl : g = k := by simpa [Value.ownBlock] using e
    rw [h] at hgb
    simp at hgb
theorem iter_not_rec {w : World} {k p b : Nat} {s : ByteArray} {t : TypeId} {cs : List Value} (h : w.heap[k]? = some (.stringIter s p)) (hr : Rec w b t cs) : b ≠ k := by
  rintro rfl
  have := (show w.heap[b]? = _ from hr).symm.trans h
  simp at this
theorem fields_lett (k : Int) (j : Nat) (h : j < (fieldsOf k).length) : lett ((fieldsOf k).getD j 0) := by
  refine fields_letters k _ ?_
  rw [List.getD_eq_getElem?_getD, List.getElem?_eq_getElem h]
  exact List.getElem_mem _
end Go.Proofs.YtjkbnljjmbfmiaaDoor
