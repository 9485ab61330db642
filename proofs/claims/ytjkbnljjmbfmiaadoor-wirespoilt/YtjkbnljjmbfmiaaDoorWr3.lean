/-
  The walk of the reference's side (practice for stage 8).
-/
import Derived.Test.YtjkbnljjmbfmiaaDoorWr1
import Derived.Test.YtjkbnljjmbfmiaaDoorWr2
namespace Go.Proofs.YtjkbnljjmbfmiaaDoor
open Go Go.RowKit
set_option linter.unusedVariables false

/-- The word of a side, of a kind that has one. -/
def sideOf (k n : Int) : List Nat := if k = 2 then (if n = 1 then [104, 111, 117, 115, 101] else [99, 108, 105, 101, 110, 116]) else if n = 1 then [98, 117, 121] else [115, 101, 108, 108]
theorem side_str (k n : Int) : bstr (sideOf k n) = if k = 2 then (if n = 1 then { data := #[104, 111, 117, 115, 101] } else { data := #[99, 108, 105, 101, 110, 116] }) else if n = 1 then { data := #[98, 117, 121] } else { data := #[115, 101, 108, 108] } := by
  unfold sideOf
  split <;> split <;> decide +kernel
theorem side_len (k n : Int) : 3 ≤ (sideOf k n).length ∧ (sideOf k n).length ≤ 6 := by
  unfold sideOf
  split <;> split <;> decide
theorem side_oct (k n : Int) : ∀ x ∈ sideOf k n, 97 ≤ x ∧ x ≤ 122 := by
  unfold sideOf
  split <;> split <;> decide
set_option maxRecDepth 8000 in
set_option maxHeartbeats 4000000 in
theorem side_any (k n : Int) (hn : n = 1 ∨ n = 2) (w : World) : Calls Tryd.prog 30 #[.int .i64 k, .int .i64 n] w fun e w' => e = .returned (.string (bstr (sideOf k n))) ∧ Below w.heap.size w w' := by
  rw [side_str]
  by_cases h2 : k = 2
  · subst h2
    rcases hn with rfl | rfl
    · go_enter Tryd.func30, Tryd.ntmps30
      go_wp2
      go_ret
      exact ⟨rfl, ((Below.refl _ _).alloc (Nat.le_refl _) _).alloc (by simp) _⟩
    · go_enter Tryd.func30, Tryd.ntmps30
      go_wp2
      go_ret
      exact ⟨rfl, ((Below.refl _ _).alloc (Nat.le_refl _) _).alloc (by simp) _⟩
  · rw [if_neg h2]
    have hq : (k == 2) = false := beq_eq_false_iff_ne.2 h2
    clear h2
    rcases hn with rfl | rfl
    · go_enter Tryd.func30, Tryd.ntmps30
      go_wp2
      go_ret
      exact ⟨rfl, (Below.refl _ _).alloc (Nat.le_refl _) _⟩
    · go_enter Tryd.func30, Tryd.ntmps30
      go_wp2
      go_ret
      exact ⟨rfl, (Below.refl _ _).alloc (Nat.le_refl _) _⟩
end Go.Proofs.YtjkbnljjmbfmiaaDoor
