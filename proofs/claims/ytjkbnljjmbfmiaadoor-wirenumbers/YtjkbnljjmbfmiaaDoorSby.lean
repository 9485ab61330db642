/-
  Strings as slices of bytes.
-/
import Derived.Test.YtjkbnljjmbfmiaaDoorWr4
import Derived.Lib.ConvBytes
import Derived.Lib.AtoiErrMem
namespace Go.Proofs.YtjkbnljjmbfmiaaDoor
open Go Go.RowKit
set_option linter.unusedVariables false

theorem run_sbytes (W : World) (l : List Nat) (hO : Oct l) (n : Nat) (hn : n = l.length) : ∃ (c : Nat) (W' : World), (convert 9 38 (.string (bstr l))).run Tryd.prog W = .ok (.slice (some ⟨W.heap.size, 0, none⟩) n c) W' ∧ Below W.heap.size W W' ∧ Byts W' (some ⟨W.heap.size, 0, none⟩) l ∧ W'.heap.size = W.heap.size + 1 := by
  have h := Lib.run_convert_string_bytes (P := Tryd.prog) W 9 38 5 (bstr l) Tryd.underlying9 Tryd.underlying38 Tryd.underlying5
  rw [bstr_size, ← hn] at h
  refine ⟨_, _, h, Lib.bytesWorld_below _ _ _, ?_, Lib.bytesWorld_size _ _ _⟩
  intro _
  refine ⟨_, _, rfl, fun i hi => ?_⟩
  rw [Nat.zero_add, Lib.bytesWorld_cell _ _ _ i (by rw [bstr_size]; exact hi), bstr_list, List.getD_eq_getElem?_getD, List.getElem?_map, List.getD_eq_getElem?_getD, List.getElem?_eq_getElem hi]
  have := hO l[i] (List.getElem_mem hi)
  simp
  omega
end Go.Proofs.YtjkbnljjmbfmiaaDoor
