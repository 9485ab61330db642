/-
  Bytes as a string; what a record of nothing is.
-/
import Derived.Test.YtmopipclheohcaaFr8
import Derived.Test.YtmopipclheohcaaFr2
import Derived.Laws.BytesString
import Derived.Laws.Cells
namespace Go.Proofs.Ytmopipclheohcaa
open Go Go.RowKit Go.Shelf

/-- The string of bytes. -/
def bstr (l : List Nat) : ByteArray := (l.map Int.ofNat).foldl (fun r n => r.push (UInt8.ofNat n.toNat)) ByteArray.empty
theorem run_bstr (W : World) (A : Option Addr) (l : List Nat) (n c : Nat) (hn : n = l.length) (hB : Byts W A l) : (convert 22 9 (.slice A n c)).run Try.prog W = .ok (.string (bstr l)) W := by
  subst hn
  rw [run_convert_bytes_string W _ _ _ A l.length c Try.underlying22 Try.underlying5 Try.underlying9]
  cases A with
  | none =>
    have : l = [] := by
      cases l with
      | nil => rfl
      | cons x l => obtain ⟨b, off, e, _⟩ := hB (by simp); cases e
    subst this
    rfl
  | some a =>
    have h := run_loadCells_list (P := Try.prog) W a (l.map byteV) (by
      by_cases h0 : l = []
      · subst h0; intro j v hv; simp at hv
      · obtain ⟨b, off, e, _⟩ := hB (List.length_pos_iff.2 h0)
        injection e with e; subst e
        exact byts_news hB)
    rw [List.length_map] at h
    rw [show l.map byteV = (l.map Int.ofNat).map (Value.int .u8) from by rw [List.map_map]; rfl] at h
    exact run_bytesToString W a l.length c _ h
theorem rec_nil : recL [] = [0, 0, 255, 18, 217, 65] := by decide +kernel
theorem next_nine : nextL ([0, 0, 255, 18, 217, 65] ++ [9]) = ([], 6, 0) := by decide +kernel
theorem recs_two : recs ([0, 0, 255, 18, 217, 65] ++ [0, 0, 255, 18, 217, 65]) = [(0, []), (6, [])] := by decide +kernel
theorem whole_one : wholeOf (recs [0, 0, 255, 18, 217, 65]) = 6 := by decide +kernel
theorem crc_nine : crc [49, 50, 51, 52, 53, 54, 55, 56, 57] = 3421780262 := by decide +kernel
theorem bstr_nil : bstr [0, 0, 255, 18, 217, 65] = { data := #[0, 0, 255, 18, 217, 65] } := by decide +kernel
end Go.Proofs.Ytmopipclheohcaa
