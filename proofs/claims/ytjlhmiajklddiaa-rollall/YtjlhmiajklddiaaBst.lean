/-
  Bytes as a string; literals of bytes.
-/
import Derived.Test.YtjlhmiajklddiaaTpB
import Derived.Laws.BytesString
import Derived.Laws.Cells
import Derived.Lib.SmallJoins
namespace Go.Proofs.Ytjlhmiajklddiaa
set_option maxRecDepth 8000
open Go Go.RowKit
set_option linter.unusedVariables false

/-- The string of bytes. -/
def bstr (l : List Nat) : ByteArray := (l.map Int.ofNat).foldl (fun r n => r.push (UInt8.ofNat n.toNat)) ByteArray.empty
theorem byts_mark (w : World) (t : TypeId) (fr : Nat × Nat) (cs : Array Value) (l : List Nat) (h : cs.toList = l.map byteV) (n : Nat) (hn : n = w.heap.size) : Byts (w.alloc (.cells cs t fr)) (some ⟨n, 0, none⟩) l := by
  intro _
  refine ⟨_, _, rfl, fun i hi => ?_⟩
  rw [Nat.zero_add, Go.Joins.cell_alloc_mark_at w cs t fr n i hn, ← Array.getElem?_toList, h, List.getElem?_map, List.getD_eq_getElem?_getD, List.getElem?_eq_getElem hi]
  rfl
theorem bstr_data (l : List Nat) : ∀ r : ByteArray, ((l.map Int.ofNat).foldl (fun r n => r.push (UInt8.ofNat n.toNat)) r).data.toList = r.data.toList ++ l.map UInt8.ofNat := by
  induction l with
  | nil => intro r; simp
  | cons x l ih =>
    intro r
    rw [List.map_cons, List.foldl_cons, ih]
    simp [ByteArray.push]
theorem bstr_cat (a b : List Nat) : bstr a ++ bstr b = bstr (a ++ b) := by
  have h : (bstr a ++ bstr b).data.toList = (bstr (a ++ b)).data.toList := by
    rw [Go.Joins.data_append]
    unfold bstr
    rw [bstr_data, bstr_data, bstr_data]
    simp
  exact ByteArray.ext (Array.toList_inj.1 h)
theorem bstr_size (a : List Nat) : (bstr a).size = a.length := by
  show (bstr a).data.size = _
  rw [← Array.length_toList]
  unfold bstr
  rw [bstr_data]
  simp
end Go.Proofs.Ytjlhmiajklddiaa
