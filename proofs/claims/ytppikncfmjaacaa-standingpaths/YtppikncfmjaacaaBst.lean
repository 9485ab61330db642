/-
  Bytes as a string; literals of bytes.
-/
import Derived.Test.YtppikncfmjaacaaTpB
import Derived.Laws.BytesString
import Derived.Laws.Cells
import Derived.Lib.SmallJoins
namespace Go.Proofs.Ytppikncfmjaacaa
set_option maxRecDepth 8000
open Go Go.RowKit
set_option linter.unusedVariables false

/-- The string of bytes. -/
def bstr (l : List Nat) : ByteArray := (l.map Int.ofNat).foldl (fun r n => r.push (UInt8.ofNat n.toNat)) ByteArray.empty
theorem run_bstr (W : World) (A : Option Addr) (l : List Nat) (n c : Nat) (hn : n = l.length) (hB : Byts W A l) : (convert 29 9 (.slice A n c)).run Try.prog W = .ok (.string (bstr l)) W := by
  subst hn
  rw [run_convert_bytes_string W _ _ _ A l.length c Try.underlying29 Try.underlying5 Try.underlying9]
  cases A with
  | none =>
    have : l = [] := by
      cases l with
      | nil => rfl
      | cons x l => obtain ⟨b, off, e, _⟩ := hB (by simp); cases e
    subst this
    rfl
  | some a =>
    have h := run_loadCells_list (P := Try.prog) W a (l.map byteV) (by
      by_cases h0 : l = []
      · subst h0; intro j v hv; simp at hv
      · obtain ⟨b, off, e, _⟩ := hB (List.length_pos_iff.2 h0)
        injection e with e; subst e
        exact byts_news hB)
    rw [List.length_map] at h
    rw [show l.map byteV = (l.map Int.ofNat).map (Value.int .u8) from by rw [List.map_map]; rfl] at h
    exact run_bytesToString W a l.length c _ h
theorem byts_mark (w : World) (t : TypeId) (fr : Nat × Nat) (cs : Array Value) (l : List Nat) (h : cs.toList = l.map byteV) (n : Nat) (hn : n = w.heap.size) : Byts (w.alloc (.cells cs t fr)) (some ⟨n, 0, none⟩) l := by
  intro _
  refine ⟨_, _, rfl, fun i hi => ?_⟩
  rw [Nat.zero_add, Go.Joins.cell_alloc_mark_at w cs t fr n i hn, ← Array.getElem?_toList, h, List.getElem?_map, List.getD_eq_getElem?_getD, List.getElem?_eq_getElem hi]
  rfl
/-- A literal of bytes, made of a constant. -/
theorem lit_bytes (w : World) (cs : Array Value) (l : List Nat) (h : cs.toList = l.map byteV) (n c : Nat) : ∃ W, (convert 29 29 (.slice (some ⟨w.heap.size, 0, none⟩) n c)).run Try.prog (w.alloc (.cells cs 5)) = .ok (.slice (some ⟨w.heap.size, 0, none⟩) n c) W ∧ Below w.heap.size w W ∧ Byts W (some ⟨w.heap.size, 0, none⟩) l :=
  ⟨_, Go.Joins.run_convert_bytes_const_at w 29 5 cs n c _ rfl Try.underlying29 Try.underlying5, (Below.refl _ _).alloc (Nat.le_refl _) _, byts_mark w _ _ _ _ h _ rfl⟩
theorem bstr_data (l : List Nat) : ∀ r : ByteArray, ((l.map Int.ofNat).foldl (fun r n => r.push (UInt8.ofNat n.toNat)) r).data.toList = r.data.toList ++ l.map UInt8.ofNat := by
  induction l with
  | nil => intro r; simp
  | cons x l ih =>
    intro r
    rw [List.map_cons, List.foldl_cons, ih]
    simp [ByteArray.push]
theorem bstr_cat (a b : List Nat) : bstr a ++ bstr b = bstr (a ++ b) := by
  have h : (bstr a ++ bstr b).data.toList = (bstr (a ++ b)).data.toList := by
    rw [Go.Joins.data_append]
    unfold bstr
    rw [bstr_data, bstr_data, bstr_data]
    simp
  exact ByteArray.ext (Array.toList_inj.1 h)
theorem bstr_size (a : List Nat) : (bstr a).size = a.length := by
  show (bstr a).data.size = _
  rw [← Array.length_toList]
  unfold bstr
  rw [bstr_data]
  simp
end Go.Proofs.Ytppikncfmjaacaa
