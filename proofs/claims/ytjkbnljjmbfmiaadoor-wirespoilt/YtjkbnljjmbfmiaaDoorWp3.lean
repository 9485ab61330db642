/-
  The walk of wire's Word.
-/
import Derived.Test.YtjkbnljjmbfmiaaDoorWr2
import Derived.Lib.Hide
import Derived.Great.BuildSlice
import Derived.Laws.CopyOwn
namespace Go.Proofs.YtjkbnljjmbfmiaaDoor
open Go Go.RowKit
set_option linter.unusedVariables false

/-- The words with an empty one ahead, as the model's strings. -/
def words23A : Array Value := #[.string { data := #[] }, .string { data := #[101, 110, 114, 111, 108] }, .string { data := #[111, 112, 101, 110] }, .string { data := #[100, 101, 112, 111, 115, 105, 116] }, .string { data := #[119, 105, 116, 104, 100, 114, 97, 119] }, .string { data := #[102, 117, 110, 100] }, .string { data := #[108, 105, 109, 105, 116] }, .string { data := #[111, 114, 100, 101, 114] }, .string { data := #[99, 97, 110, 99, 101, 108] }, .string { data := #[109, 97, 114, 107] }, .string { data := #[116, 105, 99, 107] }, .string { data := #[115, 117, 115, 112, 101, 110, 100] }, .string { data := #[114, 101, 105, 110, 115, 116, 97, 116, 101] }, .string { data := #[100, 101, 102, 97, 117, 108, 116] }, .string { data := #[99, 111, 110, 115, 101, 110, 116] }, .string { data := #[119, 105, 110, 100] }, .string { data := #[104, 101, 100, 103, 101] }, .string { data := #[102, 105, 108, 108] }, .string { data := #[97, 117, 99, 116, 105, 111, 110] }, .string { data := #[98, 105, 100] }, .string { data := #[97, 119, 97, 114, 100] }, .string { data := #[97, 108, 108, 111, 99, 97, 116, 101] }, .string { data := #[112, 97, 121] }]
theorem words23 : ∀ i, i < 23 → words23A[i]? = some (.string (bstr (wordOf (i : Int)))) := by
  intro i hi
  rcases (by omega : i = 0 ∨ i = 1 ∨ i = 2 ∨ i = 3 ∨ i = 4 ∨ i = 5 ∨ i = 6 ∨ i = 7 ∨ i = 8 ∨ i = 9 ∨ i = 10 ∨ i = 11 ∨ i = 12 ∨ i = 13 ∨ i = 14 ∨ i = 15 ∨ i = 16 ∨ i = 17 ∨ i = 18 ∨ i = 19 ∨ i = 20 ∨ i = 21 ∨ i = 22) with rfl | rfl | rfl | rfl | rfl | rfl | rfl | rfl | rfl | rfl | rfl | rfl | rfl | rfl | rfl | rfl | rfl | rfl | rfl | rfl | rfl | rfl | rfl <;> rfl
set_option maxRecDepth 8000 in
set_option maxHeartbeats 8000000 in
theorem wword_any (k : Int) (w : World) : Calls Tryd.prog 15 #[.int .i64 k] w fun e w' => e = .returned (.string (bstr (wordOf k))) ∧ Below w.heap.size w w' := by
  have HB := Lib.hid (below_setRow ((Below.refl _ w).alloc (Nat.le_refl _) (.cells #[.string { data := #[] }, .string { data := #[] }, .string { data := #[] }, .string { data := #[] }, .string { data := #[] }, .string { data := #[] }, .string { data := #[] }, .string { data := #[] }, .string { data := #[] }, .string { data := #[] }, .string { data := #[] }, .string { data := #[] }, .string { data := #[] }, .string { data := #[] }, .string { data := #[] }, .string { data := #[] }, .string { data := #[] }, .string { data := #[] }, .string { data := #[] }, .string { data := #[] }, .string { data := #[] }, .string { data := #[] }, .string { data := #[] }] 63)) (Nat.le_refl _) words23A)
  have hcell : ∀ i, i < 23 → ((w.alloc (.cells #[.string { data := #[] }, .string { data := #[] }, .string { data := #[] }, .string { data := #[] }, .string { data := #[] }, .string { data := #[] }, .string { data := #[] }, .string { data := #[] }, .string { data := #[] }, .string { data := #[] }, .string { data := #[] }, .string { data := #[] }, .string { data := #[] }, .string { data := #[] }, .string { data := #[] }, .string { data := #[] }, .string { data := #[] }, .string { data := #[] }, .string { data := #[] }, .string { data := #[] }, .string { data := #[] }, .string { data := #[] }, .string { data := #[] }] 63)).setRow w.heap.size words23A).cell? ⟨w.heap.size, i, none⟩ = some (.string (bstr (wordOf (i : Int)))) := by
    intro i hi
    rw [Go.cell_setRow_same _ _ _ _ _ _ _ (heap_alloc_new w _)]
    exact words23 i hi
  by_cases hk : 0 ≤ k ∧ k ≤ 22
  · obtain ⟨i, rfl⟩ : ∃ i : Nat, k = (i : Int) := ⟨k.toNat, by omega⟩
    have hi : i < 23 := by omega
    have hc := hcell i hi
    have hd : decide ((23 : Int) ≤ (i : Int)) = false := decide_eq_false (by omega)
    generalize bstr (wordOf (i : Int)) = S at *
    clear hk hcell
    go_enter Tryd.func15, Tryd.ntmps15
    go_wp2_with (first
      | (refine Go.wpList_buildTo rfl _ _ rfl _ rfl words23A (by kernel_rfl) ?_)
      | (refine Go.wpList_store_rowTo rfl _ _ _ rfl rfl w.heap.size words23A ?_ ?_ 63 #[.string { data := #[] }, .string { data := #[] }, .string { data := #[] }, .string { data := #[] }, .string { data := #[] }, .string { data := #[] }, .string { data := #[] }, .string { data := #[] }, .string { data := #[] }, .string { data := #[] }, .string { data := #[] }, .string { data := #[] }, .string { data := #[] }, .string { data := #[] }, .string { data := #[] }, .string { data := #[] }, .string { data := #[] }, .string { data := #[] }, .string { data := #[] }, .string { data := #[] }, .string { data := #[] }, .string { data := #[] }, .string { data := #[] }] (heap_alloc_new _ _) (by kernel_rfl) (by kernel_rfl) (by kernel_rfl) ?_; (· rfl); (· rfl); generalize (w.alloc (.cells #[.string { data := #[] }, .string { data := #[] }, .string { data := #[] }, .string { data := #[] }, .string { data := #[] }, .string { data := #[] }, .string { data := #[] }, .string { data := #[] }, .string { data := #[] }, .string { data := #[] }, .string { data := #[] }, .string { data := #[] }, .string { data := #[] }, .string { data := #[] }, .string { data := #[] }, .string { data := #[] }, .string { data := #[] }, .string { data := #[] }, .string { data := #[] }, .string { data := #[] }, .string { data := #[] }, .string { data := #[] }, .string { data := #[] }] 63)).setRow w.heap.size words23A = w2 at *))
    go_ret
    exact ⟨rfl, HB.out⟩
  · rw [word_none (by omega)]
    clear hcell
    rcases (by omega : k < 0 ∨ 22 < k) with h | h
    · clear hk
      go_enter Tryd.func15, Tryd.ntmps15
      go_wp2_with (first
        | (refine Go.wpList_buildTo rfl _ _ rfl _ rfl words23A (by kernel_rfl) ?_)
        | (refine Go.wpList_store_rowTo rfl _ _ _ rfl rfl w.heap.size words23A ?_ ?_ 63 #[.string { data := #[] }, .string { data := #[] }, .string { data := #[] }, .string { data := #[] }, .string { data := #[] }, .string { data := #[] }, .string { data := #[] }, .string { data := #[] }, .string { data := #[] }, .string { data := #[] }, .string { data := #[] }, .string { data := #[] }, .string { data := #[] }, .string { data := #[] }, .string { data := #[] }, .string { data := #[] }, .string { data := #[] }, .string { data := #[] }, .string { data := #[] }, .string { data := #[] }, .string { data := #[] }, .string { data := #[] }, .string { data := #[] }] (heap_alloc_new _ _) (by kernel_rfl) (by kernel_rfl) (by kernel_rfl) ?_; (· rfl); (· rfl); generalize (w.alloc (.cells #[.string { data := #[] }, .string { data := #[] }, .string { data := #[] }, .string { data := #[] }, .string { data := #[] }, .string { data := #[] }, .string { data := #[] }, .string { data := #[] }, .string { data := #[] }, .string { data := #[] }, .string { data := #[] }, .string { data := #[] }, .string { data := #[] }, .string { data := #[] }, .string { data := #[] }, .string { data := #[] }, .string { data := #[] }, .string { data := #[] }, .string { data := #[] }, .string { data := #[] }, .string { data := #[] }, .string { data := #[] }, .string { data := #[] }] 63)).setRow w.heap.size words23A = w2 at *))
      go_ret
      exact ⟨rfl, HB.out⟩
    · have h1 : ¬ k < 0 := by omega
      have h2 : 23 ≤ k := by omega
      clear hk
      go_enter Tryd.func15, Tryd.ntmps15
      go_wp2_with (first
        | (refine Go.wpList_buildTo rfl _ _ rfl _ rfl words23A (by kernel_rfl) ?_)
        | (refine Go.wpList_store_rowTo rfl _ _ _ rfl rfl w.heap.size words23A ?_ ?_ 63 #[.string { data := #[] }, .string { data := #[] }, .string { data := #[] }, .string { data := #[] }, .string { data := #[] }, .string { data := #[] }, .string { data := #[] }, .string { data := #[] }, .string { data := #[] }, .string { data := #[] }, .string { data := #[] }, .string { data := #[] }, .string { data := #[] }, .string { data := #[] }, .string { data := #[] }, .string { data := #[] }, .string { data := #[] }, .string { data := #[] }, .string { data := #[] }, .string { data := #[] }, .string { data := #[] }, .string { data := #[] }, .string { data := #[] }] (heap_alloc_new _ _) (by kernel_rfl) (by kernel_rfl) (by kernel_rfl) ?_; (· rfl); (· rfl); generalize (w.alloc (.cells #[.string { data := #[] }, .string { data := #[] }, .string { data := #[] }, .string { data := #[] }, .string { data := #[] }, .string { data := #[] }, .string { data := #[] }, .string { data := #[] }, .string { data := #[] }, .string { data := #[] }, .string { data := #[] }, .string { data := #[] }, .string { data := #[] }, .string { data := #[] }, .string { data := #[] }, .string { data := #[] }, .string { data := #[] }, .string { data := #[] }, .string { data := #[] }, .string { data := #[] }, .string { data := #[] }, .string { data := #[] }, .string { data := #[] }] 63)).setRow w.heap.size words23A = w2 at *))
      go_ret
      exact ⟨rfl, HB.out⟩
end Go.Proofs.YtjkbnljjmbfmiaaDoor
