/-
  Words; the walks of the reference's Word, side (practice for stage 8).
-/
import Derived.Test.YtjkbnljjmbfmiaaDoorBst
namespace Go.Proofs.YtjkbnljjmbfmiaaDoor
open Go Go.RowKit
set_option linter.unusedVariables false

/-- The words of the kinds from 1 on. -/
def wordsL : List (List Nat) := [[101, 110, 114, 111, 108], [111, 112, 101, 110], [100, 101, 112, 111, 115, 105, 116], [119, 105, 116, 104, 100, 114, 97, 119], [102, 117, 110, 100], [108, 105, 109, 105, 116], [111, 114, 100, 101, 114], [99, 97, 110, 99, 101, 108], [109, 97, 114, 107], [116, 105, 99, 107], [115, 117, 115, 112, 101, 110, 100], [114, 101, 105, 110, 115, 116, 97, 116, 101], [100, 101, 102, 97, 117, 108, 116], [99, 111, 110, 115, 101, 110, 116], [119, 105, 110, 100], [104, 101, 100, 103, 101], [102, 105, 108, 108], [97, 117, 99, 116, 105, 111, 110], [98, 105, 100], [97, 119, 97, 114, 100], [97, 108, 108, 111, 99, 97, 116, 101], [112, 97, 121]]
def wordOf (k : Int) : List Nat := if 1 ≤ k ∧ k ≤ 22 then wordsL.getD (k.toNat - 1) [] else []
theorem words_oct : ∀ w ∈ wordsL, ∀ x ∈ w, 97 ≤ x ∧ x ≤ 122 := by decide
theorem words_len : ∀ w ∈ wordsL, 3 ≤ w.length ∧ w.length ≤ 9 := by decide
theorem words_nodup : wordsL.Nodup := by decide
theorem word_none {k : Int} (h : ¬ (1 ≤ k ∧ k ≤ 22)) : bstr (wordOf k) = { data := #[] } := by unfold wordOf; rw [if_neg h]; rfl
/-- The words as the model's strings. -/
theorem words_at : ∀ i, i < 22 → (#[.string { data := #[101, 110, 114, 111, 108] }, .string { data := #[111, 112, 101, 110] }, .string { data := #[100, 101, 112, 111, 115, 105, 116] }, .string { data := #[119, 105, 116, 104, 100, 114, 97, 119] }, .string { data := #[102, 117, 110, 100] }, .string { data := #[108, 105, 109, 105, 116] }, .string { data := #[111, 114, 100, 101, 114] }, .string { data := #[99, 97, 110, 99, 101, 108] }, .string { data := #[109, 97, 114, 107] }, .string { data := #[116, 105, 99, 107] }, .string { data := #[115, 117, 115, 112, 101, 110, 100] }, .string { data := #[114, 101, 105, 110, 115, 116, 97, 116, 101] }, .string { data := #[100, 101, 102, 97, 117, 108, 116] }, .string { data := #[99, 111, 110, 115, 101, 110, 116] }, .string { data := #[119, 105, 110, 100] }, .string { data := #[104, 101, 100, 103, 101] }, .string { data := #[102, 105, 108, 108] }, .string { data := #[97, 117, 99, 116, 105, 111, 110] }, .string { data := #[98, 105, 100] }, .string { data := #[97, 119, 97, 114, 100] }, .string { data := #[97, 108, 108, 111, 99, 97, 116, 101] }, .string { data := #[112, 97, 121] }] : Array Value)[i]? = some (.string (bstr (wordsL.getD i []))) := by
  intro i hi
  rcases (by omega : i = 0 ∨ i = 1 ∨ i = 2 ∨ i = 3 ∨ i = 4 ∨ i = 5 ∨ i = 6 ∨ i = 7 ∨ i = 8 ∨ i = 9 ∨ i = 10 ∨ i = 11 ∨ i = 12 ∨ i = 13 ∨ i = 14 ∨ i = 15 ∨ i = 16 ∨ i = 17 ∨ i = 18 ∨ i = 19 ∨ i = 20 ∨ i = 21) with rfl | rfl | rfl | rfl | rfl | rfl | rfl | rfl | rfl | rfl | rfl | rfl | rfl | rfl | rfl | rfl | rfl | rfl | rfl | rfl | rfl | rfl <;> rfl
set_option maxRecDepth 8000 in
set_option maxHeartbeats 8000000 in
theorem word_any (k : Int) (w : World) : Calls Tryd.prog 16 #[.int .i64 k] w fun e w' => e = .returned (.string (bstr (wordOf k))) ∧ Below w.heap.size w w' := by
  by_cases hk : 1 ≤ k ∧ k ≤ 22
  · obtain ⟨i, rfl⟩ : ∃ i : Nat, k = (i : Int) + 1 := ⟨(k - 1).toNat, by omega⟩
    have hi : i < 22 := by omega
    have hwd : wordOf ((i : Int) + 1) = wordsL.getD i [] := by
      unfold wordOf
      rw [if_pos hk, show ((i : Int) + 1).toNat - 1 = i by omega]
    rw [hwd]
    have hc : (w.alloc (.cells #[.string { data := #[101, 110, 114, 111, 108] }, .string { data := #[111, 112, 101, 110] }, .string { data := #[100, 101, 112, 111, 115, 105, 116] }, .string { data := #[119, 105, 116, 104, 100, 114, 97, 119] }, .string { data := #[102, 117, 110, 100] }, .string { data := #[108, 105, 109, 105, 116] }, .string { data := #[111, 114, 100, 101, 114] }, .string { data := #[99, 97, 110, 99, 101, 108] }, .string { data := #[109, 97, 114, 107] }, .string { data := #[116, 105, 99, 107] }, .string { data := #[115, 117, 115, 112, 101, 110, 100] }, .string { data := #[114, 101, 105, 110, 115, 116, 97, 116, 101] }, .string { data := #[100, 101, 102, 97, 117, 108, 116] }, .string { data := #[99, 111, 110, 115, 101, 110, 116] }, .string { data := #[119, 105, 110, 100] }, .string { data := #[104, 101, 100, 103, 101] }, .string { data := #[102, 105, 108, 108] }, .string { data := #[97, 117, 99, 116, 105, 111, 110] }, .string { data := #[98, 105, 100] }, .string { data := #[97, 119, 97, 114, 100] }, .string { data := #[97, 108, 108, 111, 99, 97, 116, 101] }, .string { data := #[112, 97, 121] }] 9)).cell? ⟨w.heap.size, i, none⟩ = some (.string (bstr (wordsL.getD i []))) := by
      rw [World.cell?_alloc_new]
      exact words_at i hi
    have hk1 : 1 ≤ (i : Int) + 1 := hk.1
    have hk2 : (i : Int) + 1 ≤ 22 := hk.2
    generalize bstr (wordsL.getD i []) = S at *
    clear hwd hk
    go_enter Tryd.func16, Tryd.ntmps16
    go_wp2
    go_ret
    exact ⟨rfl, (Below.refl _ _).alloc (Nat.le_refl _) _⟩
  · rw [word_none hk]
    rcases (by omega : k < 1 ∨ 22 < k) with h | h
    · clear hk
      go_enter Tryd.func16, Tryd.ntmps16
      go_wp2
      go_ret
      exact ⟨rfl, Below.refl _ _⟩
    · have h1 : 1 ≤ k := by omega
      have h2 : decide (k ≤ 22) = false := decide_eq_false (by omega)
      clear hk
      go_enter Tryd.func16, Tryd.ntmps16
      go_wp2
      go_ret
      exact ⟨rfl, Below.refl _ _⟩
end Go.Proofs.YtjkbnljjmbfmiaaDoor
