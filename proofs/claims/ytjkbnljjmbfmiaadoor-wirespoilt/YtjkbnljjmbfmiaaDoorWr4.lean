/-
  Slices of strings of bytes (practice for stage 8).
-/
import Derived.Test.YtjkbnljjmbfmiaaDoorWr3
namespace Go.Proofs.YtjkbnljjmbfmiaaDoor
open Go Go.RowKit
set_option linter.unusedVariables false

theorem bstr_list (l : List Nat) : (bstr l).data.toList = l.map UInt8.ofNat := by
  have := bstr_data l ByteArray.empty
  unfold bstr
  rw [this]
  rfl
theorem bstr_extract (l : List Nat) (a b : Nat) : (bstr l).extract a b = bstr ((l.take b).drop a) := by
  refine Go.WideShapes.bytes_inj ?_
  rw [bstr_list, List.map_drop, List.map_take, ← bstr_list]
  rw [show ((bstr l).extract a b).data = (bstr l).data.extract a b from ByteArray.data_extract]
  rw [Array.toList_extract]
  simp [List.extract, List.drop_take]
theorem bstr_at (l : List Nat) (hO : Oct l) (k : Nat) (h : k < (bstr l).size) : ((bstr l)[k]'h).toNat = l.getD k 0 := by
  have hl : k < l.length := by rw [bstr_size] at h; exact h
  have h1 : (bstr l).data.toList[k]? = some (UInt8.ofNat (l.getD k 0)) := by
    rw [bstr_list, List.getElem?_map, List.getElem?_eq_getElem hl, List.getD_eq_getElem?_getD, List.getElem?_eq_getElem hl]
    rfl
  have h2 : (bstr l).data.toList[k]? = some ((bstr l)[k]'h) := by
    rw [Array.getElem?_toList]
    exact Array.getElem?_eq_getElem h
  rw [h1] at h2
  injection h2 with h2
  rw [← h2]
  have := hO (l.getD k 0) (by rw [List.getD_eq_getElem?_getD, List.getElem?_eq_getElem hl]; exact List.getElem_mem _)
  generalize l.getD k 0 = y at *
  simp
  omega
end Go.Proofs.YtjkbnljjmbfmiaaDoor
